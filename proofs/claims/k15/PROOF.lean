import PyProof.Rows.All
import Wide.All
import OpenK.AllK
import Wide.FinOn
import HandS.ForMost
import HandS.ForExc
import HandS.IsInst
import HandS.Wide
import HandS.Conv
import HandS.TupAny
import HandS.TupMul
import HandS.ExcIs
import HandS.Walk
import KE.GoesMore
import PyProof.ReprRoads
import HandS.Style
import HandS.Ends
import HandS.Strs
import HandS.More
import HandS.SortRule
import HandS.Steps
import HandS.TupLe
import HandS.Star
import HandS.ExcOwn
import HandS.WideBits
import HandS.SetFor
import PyProof.Rows.SortShellAny
import HandS.Zip
import HandS.Deep
import PySem.Challenge.RW_deskswaps_k15_groups_of_offices
set_option Elab.async false
set_option linter.all false
set_option maxRecDepth 100000
section
set_option Elab.async false
set_option linter.all false
set_option maxRecDepth 100000
set_option maxHeartbeats 4000000
namespace Ds
open PySem PySem.Spec PyProof.Rows L2

abbrev St := L2.St
/-! ### values as data -/
theorem sql0 {K : PySem.W.Frag} {H : Hp} {a : Addr} {xs : List V} (h : SqL K (fun _ => none) a xs) : SqL K H a xs := by
  rcases h with (h | ⟨o, h⟩) | h
  · cases h
  · cases h
  · exact .inr h
theorem sqt0 {K : PySem.W.Frag} {H : Hp} {a : Addr} {xs : List V} (h : SqT K (fun _ => none) a xs) : SqT K H a xs := by
  rcases h with (h | ⟨o, h⟩) | h
  · cases h
  · cases h
  · exact .inr h
/-- a list, a tuple that nobody owns -/
def LK (_ : PySem.W.Frag) (av : Addr → Prop) (H : Hp) (a : Addr) (xs : List V) : Prop := ((H a = some (.lst xs) ∨ False) ∧ ¬ av a) ∨ False
/-- the law's script: a list that never changes -/
def SK (K : PySem.W.Frag) (av : Addr → Prop) (H : Hp) (a : Addr) (xs : List V) : Prop := ((∃ o : Obj, H a = some (.frz o (.lst xs))) ∧ ¬ av a) ∨ SqL K (fun _ => none) a xs
/-- the script as data -/
def scrD (ns : List Int) : PyData := .dict [(.bool true, .list (ns.map PyData.int))]
def TK (K : PySem.W.Frag) (av : Addr → Prop) (H : Hp) (a : Addr) (xs : List V) : Prop := ((∃ o : Obj, H a = some (.frz o (.tup xs)) ∧ o.dict = none ∧ o.cls = .type "tuple") ∧ ¬ av a) ∨ (SqT K (fun _ => none) a xs ∧ ∃ o : Obj, K.lookup a = some o ∧ o.dict = none ∧ o.cls = .type "tuple")
section
variable {K : PySem.W.Frag} {av av' : Addr → Prop} {H H' : Hp} {a : Addr} {xs : List V}
theorem LK.get (h : LK K av H a xs) : H a = some (.lst xs) ∧ ¬ av a := h.elim (fun h => ⟨h.1.elim id False.elim, h.2⟩) False.elim
theorem LK.sq (h : LK K av H a xs) : SqL K H a xs := .inl (.inl h.get.1)
theorem SK.sq (h : SK K av H a xs) : SqL K H a xs := h.elim (fun h => .inl (.inr h.1)) sql0
theorem TK.sq (h : TK K av H a xs) : SqT K H a xs := h.elim (fun h => .inl (.inr (let ⟨o, e, _⟩ := h.1; ⟨o, e⟩))) fun h => sqt0 h.1
/-- what nobody owns stays -/
def Ext (av : Addr → Prop) (H H' : Hp) : Prop := ∀ a o, ¬ av a → H a = some o → H' a = some o
/-- the owned ones were owned before or are new -/
def Grow (av av' : Addr → Prop) (H : Hp) : Prop := ∀ a, av' a → av a ∨ H a = none
theorem Ext.refl (av : Addr → Prop) (H : Hp) : Ext av H H := fun _ _ _ h => h
theorem Grow.refl (av : Addr → Prop) (H : Hp) : Grow av av H := fun _ h => .inl h
theorem Ext.same (h : Same H H') : Ext av H H' := fun a o _ e => h a o e
theorem Ext.trans {H1 H2 : Hp} (a : Ext av H H1) (g : Grow av av' H) (b : Ext av' H1 H2) : Ext av H H2 := fun x o n e => b x o (fun z => (g x z).elim n fun q => by rw [e] at q; cases q) (a x o n e)
theorem Grow.trans {av2 : Addr → Prop} {H1 : Hp} (a : Grow av av' H) (e : Ext av H H1) (b : Grow av' av2 H1) : Grow av av2 H := fun x h => by
  rcases b x h with h | h
  · exact a x h
  · by_cases hx : av x
    · exact .inl hx
    · cases q : H x with
      | none => exact .inr rfl
      | some o => rw [e x o hx q] at h; cases h
theorem rd_mono {u : HO} (e : Ext av H H') (g : Grow av av' H) (h : Rd H a u ∧ ¬ av a) : Rd H' a u ∧ ¬ av' a := by
  have hn : H a ≠ none := by
    rcases h.1 with h | ⟨o, h⟩ <;> rw [h] <;> exact fun z => by cases z
  refine ⟨?_, fun z => (g a z).elim h.2 hn⟩
  rcases h.1 with q | ⟨o, q⟩
  · exact .inl (e a _ h.2 q)
  · exact .inr ⟨o, e a _ h.2 q⟩
theorem LK.mono (e : Ext av H H') (g : Grow av av' H) (h : LK K av H a xs) : LK K av' H' a xs :=
  .inl ⟨.inl (e a _ h.get.2 h.get.1), fun z => (g a z).elim h.get.2 fun q => by rw [h.get.1] at q; cases q⟩
theorem SK.mono (e : Ext av H H') (g : Grow av av' H) (h : SK K av H a xs) : SK K av' H' a xs := h.imp (fun ⟨⟨o, q⟩, n⟩ => ⟨⟨o, e a _ n q⟩, fun z => (g a z).elim n fun y => by rw [q] at y; cases y⟩) id
theorem TK.mono (e : Ext av H H') (g : Grow av av' H) (h : TK K av H a xs) : TK K av' H' a xs := h.imp (fun ⟨⟨o, q, d⟩, n⟩ => ⟨⟨o, e a _ n q, d⟩, fun z => (g a z).elim n fun y => by rw [q] at y; cases y⟩) id
end

/-- what H says of a kept error: its one object -/
def kepO (a : Addr) (oe : Obj) : HO := .ext fun h => h.get? a = some oe
/-- a kept error of the own class named c, without a dict -/
def isiTs : List String := ["int", "bool", "tuple", "str", "list"]
/-- what the own class at D must say, so that isinstance asks its errors rightly -/
structure ExcK (K : PySem.W.Frag) (D : Addr) : Prop where
  c : ExcC K D
  no : ∀ T ∈ isiTs, PySem.W.kitOne K (.ref D) (.type T) = some false
def ExcAt (K : PySem.W.Frag) (H : Hp) (a : Addr) (c : Str) : Prop := ∃ (oe : Obj) (D : Addr), H a = some (kepO a oe) ∧ PySem.W.nsIn K mainGlobals c = some (some (.ref D)) ∧ Zc (.ref D) none oe ∧ (∃ vs, oe.data = .fields vs) ∧ ExcK K D
mutual
/-- the value v stands for the data d; its lists and tuples are owned by nobody -/
inductive RD (K : PySem.W.Frag) (av : Addr → Prop) (H : Hp) : V → PyData → Prop
  | non : RD K av H .non .none
  | bl (b : Bool) : RD K av H (.bl b) (.bool b)
  | int (i : Int) : RD K av H (.int i) (.int i)
  | str (x : Str) : RD K av H (.str x) (.str x)
  | lst {a : Addr} {xs : List V} {ds : List PyData} : LK K av H a xs → RDs K av H xs ds → RD K av H (.ref a) (.list ds)
  | tup {a : Addr} {xs : List V} {ds : List PyData} : TK K av H a xs → RDs K av H xs ds → RD K av H (.ref a) (.tuple ds)
  | dic {a : Addr} : H a = some (.dK []) → ¬ av a → RD K av H (.ref a) (.dict [])
  | exc {a : Addr} {c : Str} : ExcAt K H a c → ¬ av a → RD K av H (.ref a) (.dict [(.none, .str c)])
  | scr {a : Addr} {ns : List Int} : SK K av H a (ns.map V.int) → RD K av H (.ref a) (scrD ns)
inductive RDs (K : PySem.W.Frag) (av : Addr → Prop) (H : Hp) : List V → List PyData → Prop
  | nil : RDs K av H [] []
  | cons {v : V} {vs : List V} {d : PyData} {ds : List PyData} : RD K av H v d → RDs K av H vs ds → RDs K av H (v :: vs) (d :: ds)
end
section
variable {K : PySem.W.Frag} {av av' : Addr → Prop} {H H' : Hp}
mutual
theorem RD.mono (e : Ext av H H') (g : Grow av av' H) : ∀ (d : PyData) (v : V), RD K av H v d → RD K av' H' v d
  | .none, _, h => by cases h; exact .non
  | .bool b, _, h => by cases h; exact .bl b
  | .int i, _, h => by cases h; exact .int i
  | .str x, _, h => by cases h; exact .str x
  | .list ds, _, h => by
    cases h with
    | lst h1 h2 => exact .lst (h1.mono e g) (RDs.mono e g ds _ h2)
  | .tuple ds, _, h => by
    cases h with
    | tup h1 h2 => exact .tup (h1.mono e g) (RDs.mono e g ds _ h2)
  | .dict kvs, _, h => by
    cases h with
    | dic h1 h2 => exact .dic (e _ _ h2 h1) fun z => (g _ z).elim h2 fun q => by rw [h1] at q; cases q
    | exc h1 h2 =>
      obtain ⟨oe, D, a1, a2⟩ := h1
      exact .exc ⟨oe, D, e _ _ h2 a1, a2⟩ fun z => (g _ z).elim h2 fun q => by rw [a1] at q; cases q
    | scr h1 => exact .scr (h1.mono e g)
theorem RDs.mono (e : Ext av H H') (g : Grow av av' H) : ∀ (ds : List PyData) (vs : List V), RDs K av H vs ds → RDs K av' H' vs ds
  | [], _, h => by cases h; exact .nil
  | d :: ds, _, h => by
    cases h with
    | cons h1 h2 => exact .cons (RD.mono e g d _ h1) (RDs.mono e g ds _ h2)
end
mutual
theorem RD.dp : ∀ (d : PyData) (v : V), RD K av H v d → d ≠ .dict [] → PyData.hasDict d = false → Dp K H v d
  | .none, _, h, _, _ => by cases h; exact .non
  | .bool b, _, h, _, _ => by cases h; exact .bl b
  | .int i, _, h, _, _ => by cases h; exact .int i
  | .str x, _, h, _, _ => by cases h; exact .str x
  | .list ds, _, h, _, hd => by
    cases h with
    | lst h1 h2 => exact .lst h1.sq (RDs.dp ds _ h2 (by simpa [PyData.hasDict] using hd))
  | .tuple ds, _, h, _, hd => by
    cases h with
    | tup h1 h2 => exact .tup h1.sq (RDs.dp ds _ h2 (by simpa [PyData.hasDict] using hd))
  | .dict kvs, _, h, n, hd => by
    cases h with
    | dic h1 h2 => exact absurd rfl n
    | exc h1 h2 => exact absurd hd (by simp [PyData.hasDict])
    | scr h1 => exact absurd hd (by simp [PyData.hasDict])
theorem RDs.dp : ∀ (ds : List PyData) (vs : List V), RDs K av H vs ds → PyData.hasDictAll ds = false → DpAll K H vs ds
  | [], _, h, _ => by cases h; exact .nil
  | d :: ds, _, h, hd => by
    cases h with
    | cons h1 h2 =>
      have hd' : d.hasDict = false ∧ PyData.hasDictAll ds = false := by simpa [PyData.hasDictAll] using hd
      exact .cons (RD.dp d _ h1 (fun z => by rw [z] at hd'; simp [PyData.hasDict] at hd') hd'.1) (RDs.dp ds _ h2 hd'.2)
end
theorem RDs.len : ∀ {vs : List V} {ds : List PyData}, RDs K av H vs ds → vs.length = ds.length
  | _, _, .nil => rfl
  | _, _, .cons _ h => congrArg (· + 1) h.len
theorem RDs.get : ∀ {vs : List V} {ds : List PyData} {i : Nat} {d : PyData}, RDs K av H vs ds → ds[i]? = some d → ∃ v, vs[i]? = some v ∧ RD K av H v d
  | _, _, _, _, .nil, e => by simp at e
  | _, _, 0, _, .cons h _, e => by simp at e; subst e; exact ⟨_, rfl, h⟩
  | _, _, i + 1, _, .cons _ h, e => by
    obtain ⟨v, h1, h2⟩ := RDs.get (i := i) h (by simpa using e)
    exact ⟨v, by simpa using h1, h2⟩
theorem RDs.append : ∀ {vs ws : List V} {ds es : List PyData}, RDs K av H vs ds → RDs K av H ws es → RDs K av H (vs ++ ws) (ds ++ es)
  | _, _, _, _, .nil, s => s
  | _, _, _, _, .cons r t, s => .cons r (RDs.append t s)
theorem RDs.take : ∀ {vs : List V} {ds : List PyData} (n : Nat), RDs K av H vs ds → RDs K av H (vs.take n) (ds.take n)
  | _, _, 0, _ => .nil
  | _, _, _ + 1, .nil => .nil
  | _, _, n + 1, .cons r t => .cons r (RDs.take n t)
theorem RDs.drop : ∀ {vs : List V} {ds : List PyData} (n : Nat), RDs K av H vs ds → RDs K av H (vs.drop n) (ds.drop n)
  | _, _, 0, r => r
  | _, _, _ + 1, .nil => .nil
  | _, _, n + 1, .cons _ t => RDs.drop n t
theorem RDs.set {x : V} {d : PyData} (r : RD K av H x d) : ∀ {vs : List V} {ds : List PyData} (i : Nat), RDs K av H vs ds → RDs K av H (vs.set i x) (ds.set i d)
  | _, _, _, .nil => .nil
  | _, _, 0, .cons _ t => .cons r t
  | _, _, i + 1, .cons q t => .cons q (RDs.set r i t)
theorem RDs.erase : ∀ {vs : List V} {ds : List PyData} (i : Nat), RDs K av H vs ds → RDs K av H (vs.eraseIdx i) (ds.eraseIdx i)
  | _, _, _, .nil => .nil
  | _, _, 0, .cons _ t => t
  | _, _, i + 1, .cons q t => .cons q (RDs.erase i t)
theorem RDs.reverse : ∀ {vs : List V} {ds : List PyData}, RDs K av H vs ds → RDs K av H vs.reverse ds.reverse
  | _, _, .nil => .nil
  | _, _, .cons q t => by rw [List.reverse_cons, List.reverse_cons]; exact t.reverse.append (.cons q .nil)
theorem RDs.rep {vs : List V} {ds : List PyData} (h : RDs K av H vs ds) : ∀ n : Nat, RDs K av H (List.replicate n vs).flatten (List.replicate n ds).flatten
  | 0 => .nil
  | n + 1 => by rw [List.replicate_succ, List.replicate_succ, List.flatten_cons, List.flatten_cons]; exact h.append (RDs.rep h n)
theorem RDs.ints : ∀ {vs : List V} {ns : List Int}, RDs K av H vs (ns.map PyData.int) → vs = ns.map V.int
  | _, [], h => by cases h; rfl
  | _, n :: ns, h => by
    cases h with
    | cons h1 h2 => cases h1; rw [List.map_cons, h2.ints]
theorem RDs.bls : ∀ {vs : List V} {ns : List Bool}, RDs K av H vs (ns.map PyData.bool) → vs = ns.map V.bl
  | _, [], h => by cases h; rfl
  | _, n :: ns, h => by
    cases h with
    | cons h1 h2 => cases h1; rw [List.map_cons, h2.bls]
theorem RDs.strs : ∀ {vs : List V} {ns : List Str}, RDs K av H vs (ns.map PyData.str) → vs = ns.map V.str
  | _, [], h => by cases h; rfl
  | _, n :: ns, h => by
    cases h with
    | cons h1 h2 => cases h1; rw [List.map_cons, h2.strs]
theorem RDs.mkInts : ∀ ns : List Int, RDs K av H (ns.map V.int) (ns.map PyData.int)
  | [] => .nil
  | n :: ns => .cons (.int n) (RDs.mkInts ns)
end

/-! ### the state -/
inductive Sl where
  | nil
  | val (d : PyData)
  /-- a list that this slot alone knows -/
  | own (ds : List PyData)
  /-- a list that the caller handed in, to be changed -/
  | io (ds : List PyData)
  /-- a list of lists that this slot alone knows -/
  | nst (dss : List (List PyData))
  /-- a tuple of a value and of a list that nobody else knows: only returned -/
  | pair (d : PyData) (ds : List PyData)
abbrev En := List Sl
abbrev Ow := Nat → Option Addr
structure Cn where
  A0 : Addr → Prop
  H0 : Hp
  io : Ow
def av (C : Cn) (ow : Ow) (a : Addr) : Prop := C.A0 a ∨ ∃ i, ow i = some a
def own? : Option Sl → Option (List PyData)
  | some (.own ds) => some ds
  | some (.io ds) => some ds
  | _ => none
/-- the inner lists of slot i are owned by these indices -/
def nx (i k : Nat) : Nat := (k + 1) * 4096 + i
def NstAt (S : En) (j : Nat) : Prop := (∃ dss, S[j]? = some (Sl.nst dss)) ∨ ∃ (i k : Nat) (dss : List (List PyData)), j = nx i k ∧ S[i]? = some (Sl.nst dss) ∧ k < dss.length
structure Ns (K : PySem.W.Frag) (C : Cn) (ow : Ow) (S : En) (σ : St) (H : Hp) : Prop where
  big : S.length ≤ 4096
  nst : ∀ (i : Nat) dss, S[i]? = some (Sl.nst dss) → ∃ (a : Addr) (bs : List Addr), ow i = some a ∧ σ[i]? = some (some (.ref a)) ∧ H a = some (.lst (bs.map V.ref)) ∧ bs.length = dss.length ∧ ∀ (k : Nat) b ds, bs[k]? = some b → dss[k]? = some ds → ow (nx i k) = some b ∧ ∃ ws, H b = some (.lst ws) ∧ RDs K (av C ow) H ws ds
  frn : ∀ i a, NstAt S i → ow i = some a → C.H0 a = none ∧ ¬ C.A0 a
def nn (o : Option Sl) : Bool := match o with
  | some (Sl.nst _) => false
  | _ => true
section
variable {K : PySem.W.Frag} {C C' : Cn} {ow ow' : Ow} {S S' : En} {σ σ' : St} {H H' : Hp}
theorem NstAt.of {j : Nat} (h : NstAt S j) (hS : ∀ (i : Nat) (dss : List (List PyData)), S[i]? = some (Sl.nst dss) → S'[i]? = some (Sl.nst dss)) : NstAt S' j := by
  rcases h with ⟨d, h⟩ | ⟨i, k, d, e, h, l⟩
  · exact .inl ⟨d, hS j d h⟩
  · exact .inr ⟨i, k, d, e, hS i d h, l⟩
theorem NstAt.ne {i j : Nat} (h : NstAt S j) (hi : nn S[i]? = true) (hl : i < 4096) : j ≠ i := by
  rcases h with ⟨d, h⟩ | ⟨m, k, d, e, h, l⟩
  · exact fun z => by rw [← z, h] at hi; cases hi
  · unfold nx at e
    have : 4096 ≤ (k + 1) * 4096 := Nat.le_mul_of_pos_left _ (Nat.succ_pos k)
    omega
theorem nst_set {i j : Nat} {x : Sl} {dss : List (List PyData)} (h0 : nn S[i]? = true) (hx : nn (some x) = true) : (S.set i x)[j]? = some (Sl.nst dss) ↔ S[j]? = some (Sl.nst dss) := by
  by_cases e : i = j
  · subst e
    by_cases hl : i < S.length
    · rw [List.getElem?_set_self hl]
      constructor
      · intro z; cases z; cases hx
      · intro z; rw [z] at h0; cases h0
    · rw [List.getElem?_eq_none (by rw [List.length_set]; omega), List.getElem?_eq_none (by omega)]
  · rw [List.getElem?_set_ne e]
theorem Ns.move (n : Ns K C ow S σ H) (hl : S'.length ≤ 4096) (hS : ∀ (j : Nat) (dss : List (List PyData)), S'[j]? = some (Sl.nst dss) → S[j]? = some (Sl.nst dss)) (how : ∀ j, NstAt S j → ow' j = ow j) (hσ : ∀ (j : Nat) (dss : List (List PyData)), S[j]? = some (Sl.nst dss) → σ[j]? ≠ none → σ'[j]? = σ[j]?)
    (hH : ∀ j a o, NstAt S j → ow j = some a → H a = some o → H' a = some o) (hrd : ∀ ws ds, RDs K (av C ow) H ws ds → RDs K (av C' ow') H' ws ds) (hf : ∀ j a, NstAt S j → ow j = some a → C.H0 a = none ∧ ¬ C.A0 a → C'.H0 a = none ∧ ¬ C'.A0 a) : Ns K C' ow' S' σ' H' := by
  refine ⟨hl, fun i dss e => ?_, fun i a h e => ?_⟩
  · have e' := hS i dss e
    obtain ⟨a, bs, h1, h2, h3, h4, h5⟩ := n.nst i dss e'
    have hi : NstAt S i := .inl ⟨dss, e'⟩
    refine ⟨a, bs, (how i hi).trans h1, (hσ i dss e' (by rw [h2]; simp)).trans h2, hH i a _ hi h1 h3, h4, fun k b ds q1 q2 => ?_⟩
    obtain ⟨g1, ws, g2, g3⟩ := h5 k b ds q1 q2
    have hk : NstAt S (nx i k) := .inr ⟨i, k, dss, rfl, e', (List.getElem?_eq_some_iff.mp q2).1⟩
    exact ⟨(how _ hk).trans g1, ws, hH _ b _ hk g1 g2, hrd ws ds g3⟩
  · have h' : NstAt S i := h.of hS
    rw [how i h'] at e
    exact hf i a h' e (n.frn i a h' e)
theorem Ns.live (n : Ns K C ow S σ H) {i : Nat} {a : Addr} (h : NstAt S i) (e : ow i = some a) : ∃ vs, H a = some (.lst vs) := by
  rcases h with ⟨d, h⟩ | ⟨m, k, d, e2, h, l⟩
  · obtain ⟨b, bs, h1, h2, h3, _⟩ := n.nst i d h
    rw [h1] at e; cases e
    exact ⟨_, h3⟩
  · obtain ⟨b, bs, h1, h2, h3, h4, h5⟩ := n.nst m d h
    have l' : k < bs.length := by omega
    obtain ⟨g1, ws, g2, _⟩ := h5 k _ _ (List.getElem?_eq_getElem l') (List.getElem?_eq_getElem l)
    rw [← e2, e] at g1; cases g1
    exact ⟨ws, g2⟩
end
structure Rl (K : PySem.W.Frag) (C : Cn) (ow : Ow) (S : En) (σ : St) (H : Hp) : Prop where
  len : S.length = σ.length
  val : ∀ (i : Nat) d, S[i]? = some (.val d) → ∃ v, σ[i]? = some (some v) ∧ RD K (av C ow) H v d
  own : ∀ (i : Nat) ds, own? S[i]? = some ds → ∃ a vs, ow i = some a ∧ σ[i]? = some (some (.ref a)) ∧ H a = some (.lst vs) ∧ RDs K (av C ow) H vs ds
  ows : ∀ i a, ow i = some a → (∃ ds, own? S[i]? = some ds) ∨ NstAt S i
  inj : ∀ i j a, ow i = some a → ow j = some a → i = j
  frs : ∀ (i : Nat) ds a, S[i]? = some (.own ds) → ow i = some a → C.H0 a = none ∧ ¬ C.A0 a
  ios : ∀ (i : Nat) ds, S[i]? = some (.io ds) → C.io i = ow i
  iok : ∀ i a, C.io i = some a → C.A0 a ∧ ∃ ds, S[i]? = some (.io ds)
  trk : ∀ a, C.A0 a → ∃ o, H a = some o
  ext : ∀ a o, C.H0 a = some o → (∀ i, C.io i ≠ some a) → H a = some o
  ns : Ns K C ow S σ H
section
variable {K : PySem.W.Frag} {C : Cn} {ow : Ow} {S : En} {σ : St} {H H' : Hp}
theorem Rl.tracked (r : Rl K C ow S σ H) : ∀ a, av C ow a → ∃ o, H a = some o := fun a h => by
  rcases h with h | ⟨i, h⟩
  · exact r.trk a h
  · rcases r.ows i a h with ⟨ds, e⟩ | e
    · obtain ⟨b, vs, e1, _, e2, _⟩ := r.own i ds e
      rw [h] at e1; cases e1
      exact ⟨_, e2⟩
    · obtain ⟨vs, e2⟩ := r.ns.live e h
      exact ⟨_, e2⟩
theorem Rl.fresh (r : Rl K C ow S σ H) {p : Addr} (h : H p = none) : ¬ av C ow p := fun z => by
  obtain ⟨o, e⟩ := r.tracked p z
  rw [h] at e; cases e
/-- all that was tracked stays -/
theorem Rl.same (r : Rl K C ow S σ H) (h : Same H H') : Rl K C ow S σ H' where
  len := r.len
  val := fun i d e => let ⟨v, e1, e2⟩ := r.val i d e; ⟨v, e1, RD.mono (Ext.same h) (Grow.refl _ _) d v e2⟩
  own := fun i ds e => let ⟨a, vs, e1, e2, e3, e4⟩ := r.own i ds e; ⟨a, vs, e1, e2, h a _ e3, RDs.mono (Ext.same h) (Grow.refl _ _) ds vs e4⟩
  ows := r.ows
  inj := r.inj
  frs := r.frs
  ios := r.ios
  iok := r.iok
  trk := fun a z => let ⟨o, e⟩ := r.trk a z; ⟨o, h a o e⟩
  ext := fun a o e z => h a o (r.ext a o e z)
  ns := r.ns.move r.ns.big (fun _ _ e => e) (fun _ _ => rfl) (fun _ _ _ _ => rfl) (fun _ a o _ _ e => h a o e) (fun ws ds q => RDs.mono (Ext.same h) (Grow.refl _ _) ds ws q) (fun _ _ _ _ z => z)
end

/-! ### what is computed -/
inductive R (α : Type) where
  | ok (a : α) (S : En)
  | ex (c : Str) (S : En)
  | no
abbrev SE := En → R PyData
abbrev SN := En → R (List PyData)
abbrev STt := En → R Bool
def R.bind {α β : Type} (x : R α) (f : α → En → R β) : R β := match x with
  | .ok a S => f a S
  | .ex c S => .ex c S
  | .no => .no
@[simp] theorem bind_ok {α β : Type} (a : α) (S : En) (f : α → En → R β) : (R.ok a S).bind f = f a S := rfl
@[simp] theorem bind_ex {α β : Type} (c : Str) (S : En) (f : α → En → R β) : (R.ex c S : R α).bind f = .ex c S := rfl
@[simp] theorem bind_no {α β : Type} (f : α → En → R β) : (R.no : R α).bind f = .no := rfl
def clOf (mg : Str → Option Value) (c : Str) : Value := (mg c).getD .none
/-- the reading of a computed thing: wish W of exceptions -/
abbrev Rel (β α : Type) := Cn → Ow → St → En → Hp → Hp → β → α → Prop
def xG {α β : Type} (K : PySem.W.Frag) (mg : Str → Option Value) (W : WX) (C : Cn) (rel : Rel β α) (s : En → R α) : St → Hp → (β → Hp → Prop) → Prop := fun σ H Q =>
  ∃ ow S, Rl K C ow S σ H ∧ match s S with
    | .ok d S' => ∀ v H', Rl K C ow S' σ H' → Ext (av C ow) H H' → rel C ow σ S' H H' v d → Q v H'
    | .ex c S' => ∀ H', Rl K C ow S' σ H' → Ext (av C ow) H H' → W (clOf mg c) none σ H'
    | .no => False
abbrev relE (K : PySem.W.Frag) : Rel V PyData := fun C ow _ _ _ H' v d => RD K (av C ow) H' v d
/-- a new list: all the rest stands without it -/
abbrev relN (K : PySem.W.Frag) : Rel V (List PyData) := fun C ow σ S' H H' v ds => ∃ a vs Hm, v = .ref a ∧ Hm a = none ∧ H' = upd Hm a (.lst vs) ∧ Ext (av C ow) H Hm ∧ Rl K C ow S' σ Hm ∧ RDs K (av C ow) Hm vs ds
/-- some list, for a reader -/
abbrev relL (K : PySem.W.Frag) : Rel V (List PyData) := fun C ow _ _ _ H' v ds => ∃ a vs, v = .ref a ∧ SqL K H' a vs ∧ RDs K (av C ow) H' vs ds
abbrev relB : Rel Bool Bool := fun _ _ _ _ _ _ b c => b = c
abbrev relA (K : PySem.W.Frag) : Rel (List V) (List PyData) := fun C ow _ _ _ H' vs ds => RDs K (av C ow) H' vs ds
abbrev xE (K : PySem.W.Frag) (mg : Str → Option Value) (W : WX) (C : Cn) (s : SE) : TE := xG K mg W C (relE K) s
abbrev xN (K : PySem.W.Frag) (mg : Str → Option Value) (W : WX) (C : Cn) (s : SN) : TE := xG K mg W C (relN K) s
abbrev xL (K : PySem.W.Frag) (mg : Str → Option Value) (W : WX) (C : Cn) (s : SN) : TE := xG K mg W C (relL K) s
abbrev xB (K : PySem.W.Frag) (mg : Str → Option Value) (W : WX) (C : Cn) (s : STt) : TT := xG K mg W C relB s
abbrev xA (K : PySem.W.Frag) (mg : Str → Option Value) (W : WX) (C : Cn) (s : SN) : TA := xG K mg W C (relA K) s
end Ds
end

section
set_option Elab.async false
set_option linter.all false
set_option maxRecDepth 100000
set_option maxHeartbeats 4000000
namespace Ds
open PySem PySem.Spec PyProof.Rows L2

def R.opt {α : Type} (o : Option α) (S : En) : R α := match o with
  | some a => .ok a S
  | none => .no
@[simp] theorem opt_some {α : Type} (a : α) (S : En) : R.opt (some a) S = .ok a S := rfl
@[simp] theorem opt_none {α : Type} (S : En) : (R.opt none S : R α) = .no := rfl

/-- what is left to be shown of a computed thing -/
def pst {α β : Type} (K : PySem.W.Frag) (mg : Str → Option Value) (W : WX) (C : Cn) (rel : Rel β α) (ow : Ow) (σ : St) (H : Hp) (Q : β → Hp → Prop) (r : R α) : Prop := match r with
    | .ok d S' => ∀ v H', Rl K C ow S' σ H' → Ext (av C ow) H H' → rel C ow σ S' H H' v d → Q v H'
    | .ex c S' => ∀ H', Rl K C ow S' σ H' → Ext (av C ow) H H' → W (clOf mg c) none σ H'
    | .no => False
section
variable {K : PySem.W.Frag} {mg : Str → Option Value} {W : WX} {C : Cn} {ow : Ow} {σ : St} {H H' : Hp} {α β γ δ : Type}
theorem xG_of {rel : Rel β α} {s : En → R α} {Q : β → Hp → Prop} (h : xG K mg W C rel s σ H Q) : ∃ ow S, Rl K C ow S σ H ∧ pst K mg W C rel ow σ H Q (s S) := h
theorem xG_mk {rel : Rel β α} {s : En → R α} {Q : β → Hp → Prop} {S : En} (r : Rl K C ow S σ H) (h : pst K mg W C rel ow σ H Q (s S)) : xG K mg W C rel s σ H Q := ⟨ow, S, r, h⟩
/-- the relation does not mind an earlier beginning -/
def Early (K : PySem.W.Frag) (rel : Rel β α) : Prop := ∀ (C : Cn) (ow : Ow) (S S' : En) (σ : St) (T : En) (H H' H2 : Hp) v d, Rl K C ow S σ H → Rl K C ow S' σ H' → Ext (av C ow) H H' → rel C ow σ T H' H2 v d → rel C ow σ T H H2 v d
theorem early_E : Early K (relE K) := fun _ _ _ _ _ _ _ _ _ _ _ _ _ _ h => h
theorem early_L : Early K (relL K) := fun _ _ _ _ _ _ _ _ _ _ _ _ _ _ h => h
theorem early_A : Early K (relA K) := fun _ _ _ _ _ _ _ _ _ _ _ _ _ _ h => h
theorem early_B : Early K (relB) := fun _ _ _ _ _ _ _ _ _ _ _ _ _ _ h => h
theorem Ext.none_back {S S' : En} (r : Rl K C ow S σ H) (r' : Rl K C ow S' σ H') (e : Ext (av C ow) H H') {a : Addr} (h : H' a = none) : H a = none := by
  cases q : H a with
  | none => rfl
  | some o =>
    rw [e a o (r'.fresh h) q] at h
    cases h
theorem early_N : Early K (relN K) := fun _ _ _ _ _ _ _ _ _ _ _ r r' e ⟨a, vs, Hm, h1, h2, h3, h4, h5, h6⟩ => ⟨a, vs, Hm, h1, h2, h3, e.trans (Grow.refl _ _) h4, h5, h6⟩
theorem pst_from {rel : Rel β α} (er : Early K rel) {Q : β → Hp → Prop} {S S' : En} {r : R α} (r1 : Rl K C ow S σ H) (r2 : Rl K C ow S' σ H') (e : Ext (av C ow) H H') (h : pst K mg W C rel ow σ H Q r) : pst K mg W C rel ow σ H' Q r := by
  cases r with
  | ok d T => exact fun v H2 q1 q2 q3 => h v H2 q1 (e.trans (Grow.refl _ _) q2) (er C ow S S' σ T H H' H2 v d r1 r2 e q3)
  | ex c T => exact fun H2 q1 q2 => h H2 q1 (e.trans (Grow.refl _ _) q2)
  | no => exact h
theorem pst_imp {rel : Rel β α} {Q Q' : β → Hp → Prop} {r : R α} (h : pst K mg W C rel ow σ H Q r) (f : ∀ v H', Q v H' → Q' v H') : pst K mg W C rel ow σ H Q' r := by
  cases r with
  | ok d T => exact fun v H2 q1 q2 q3 => f _ _ (h v H2 q1 q2 q3)
  | ex c T => exact h
  | no => exact h
/-- one thing, then another -/
theorem seq {rel : Rel β α} {rel3 : Rel δ γ} (er : Early K rel3) {s : En → R α} {k : α → En → R γ} {Q : δ → Hp → Prop} {P : β → Hp → Prop} {S : En} (r : Rl K C ow S σ H)
    (h : pst K mg W C rel3 ow σ H Q ((s S).bind k)) (f : ∀ S' d v H', Rl K C ow S' σ H' → Ext (av C ow) H H' → rel C ow σ S' H H' v d → pst K mg W C rel3 ow σ H' Q (k d S') → P v H') : xG K mg W C rel s σ H P := by
  refine ⟨ow, S, r, ?_⟩
  show pst K mg W C rel ow σ H P (s S)
  cases e : s S with
  | ok d S' =>
    rw [e] at h
    exact fun v H' r' x q => f S' d v H' r' x q (pst_from er r r' x h)
  | ex c S' =>
    rw [e] at h
    exact h
  | no =>
    rw [e] at h
    exact h
/-- the end: nothing more happens -/
theorem pst_ok {rel : Rel β α} {Q : β → Hp → Prop} {d : α} {S : En} {v : β} (r : Rl K C ow S σ H) (h : pst K mg W C rel ow σ H Q (.ok d S)) (q : rel C ow σ S H H v d) : Q v H := h v H r (Ext.refl _ _) q
theorem pst_same {rel : Rel β α} {Q : β → Hp → Prop} {d : α} {S : En} {v : β} (r : Rl K C ow S σ H) (h : pst K mg W C rel ow σ H Q (.ok d S)) (e : Same H H') (q : rel C ow σ S H H' v d) : Q v H' := h v H' (r.same e) (Ext.same e) q
end

theorem same_new {H : Hp} {p : Addr} {o : HO} (h : H p = none) : Same H (upd H p o) := fun b x e => by
  rw [upd_ne (ne_of_none e h)]
  exact e
theorem rds_same {K : PySem.W.Frag} {av : Addr → Prop} {H H' : Hp} {vs : List V} {ds : List PyData} (h : RDs K av H vs ds) (s : Same H H') : RDs K av H' vs ds := RDs.mono (Ext.same s) (Grow.refl _ _) ds vs h
theorem rd_same {K : PySem.W.Frag} {av : Addr → Prop} {H H' : Hp} {vs : V} {ds : PyData} (h : RD K av H vs ds) (s : Same H H') : RD K av H' vs ds := RD.mono (Ext.same s) (Grow.refl _ _) ds vs h
theorem fr_of {av : Addr → Prop} {H : Hp} (t : ∀ a, av a → ∃ o, H a = some o) {p : Addr} (h : H p = none) : ¬ av p := fun z => by
  obtain ⟨o, e⟩ := t p z
  rw [h] at e; cases e
/-- a new tuple: all that is known of its object -/
def NT (H : Hp) (xs : List V) (Q : VK) : Prop := ∀ (p : Addr) (o : Obj), H p = none → o.dict = none → o.cls = .type "tuple" → Q (.ref p) (upd H p (.frz o (.tup xs)))
theorem rd_newT {K : PySem.W.Frag} {av : Addr → Prop} {H : Hp} {vs : List V} {ds : List PyData} (t : ∀ a, av a → ∃ o, H a = some o) (h : RDs K av H vs ds) {p : Addr} {o : Obj} (n : H p = none) (d : o.dict = none) (c : o.cls = .type "tuple") : RD K av (upd H p (.frz o (.tup vs))) (.ref p) (.tuple ds) :=
  .tup (.inl ⟨⟨o, upd_same, d, c⟩, fr_of t n⟩) (rds_same h (same_new n))
theorem NT.run {X : Cx} {pins : List (Addr × Obj)} {σ : St} {H : Hp} {s : Shared} {xs : List V} {Q : VK} {its : List Value} {tk : Nat} (I : Inv X pins σ H s) (q : NT H xs Q) (r : Vals xs its) (z : xs.length ≤ sizeLine) :
    ∃ v H', Inv X pins σ H' { s with heap := s.heap.push { cls := .type "tuple", data := .seq its.toArray }, toks := tk } ∧ RelV v (.ref s.heap.objs.size) ∧ Q v H' :=
  ⟨.ref s.heap.objs.size, _, I.laid (t' := tk) (o := .frz { cls := .type "tuple", data := .seq its.toArray } (.tup xs)) (fun b u e => Heap.get?_push_of_some _ e) (Nat.le_refl _) ⟨Heap.get?_push_size _ rfl, z, its, r, IsTup.new _ _⟩, rfl, q _ _ (I.hok.fresh (Nat.le_refl _)) rfl rfl⟩
theorem rd_newL {K : PySem.W.Frag} {av : Addr → Prop} {H : Hp} {vs : List V} {ds : List PyData} (t : ∀ a, av a → ∃ o, H a = some o) (h : RDs K av H vs ds) {p : Addr} (n : H p = none) : RD K av (upd H p (.lst vs)) (.ref p) (.list ds) :=
  .lst (.inl ⟨.inl upd_same, fr_of t n⟩) (rds_same h (same_new n))
section
variable {X : Cx} {W : WX} {C : Cn}
theorem pe_imp {e : Expr} {t t' : TE} (h : PE X e t) (f : ∀ σ H Q, t' σ H Q → t σ H Q) : PE X e t' := ⟨fun pins s σ H Q I q => h.run pins s σ H Q I (f σ H Q q)⟩
theorem pt_imp {e : Expr} {t t' : TT} (h : PT X e t) (f : ∀ σ H Q, t' σ H Q → t σ H Q) : PT X e t' := ⟨fun pins s σ H Q I q => h.run pins s σ H Q I (f σ H Q q)⟩
theorem pa_imp {e : List Expr} {t t' : TA} (h : PA X e t) (f : ∀ σ H Q, t' σ H Q → t σ H Q) : PA X e t' := ⟨fun pos pins s σ H Q I q => h.run pos pins s σ H Q I (f σ H Q q)⟩
theorem ps_imp {e : Stmt} {t t' : TS} (h : PS X e t) (f : ∀ D σ H, t' D σ H → t D σ H) : PS X e t' := ⟨fun pins s σ H Q I q => h.run pins s σ H Q I (f Q σ H q)⟩
theorem pss_imp {e : List Stmt} {t t' : TS} (h : PSs X e t) (f : ∀ D σ H, t' D σ H → t D σ H) : PSs X e t' := ⟨fun pins s σ H Q I q => h.run pins s σ H Q I (f Q σ H q)⟩

/-! ### names and constants -/
def val? : Option Sl → Option PyData
  | some (.val d) => some d
  | _ => none
theorem val?_some {o : Option Sl} {d : PyData} (h : val? o = some d) : o = some (.val d) := by
  match o, h with
  | some (.val d), h => cases h; rfl
def sVar (i : Nat) : SE := fun S => R.opt (val? S[i]?) S
theorem e_var {i : Nat} {e : Expr} (h : PE X e (tVar i)) : PE X e (xE X.K X.mg W C (sVar i)) := pe_imp h fun σ H Q ⟨ow, S, r, q⟩ => by
  change pst X.K X.mg W C (relE X.K) ow σ H Q (R.opt (val? S[i]?) S) at q
  cases e : val? S[i]? with
  | none =>
    rw [e] at q
    exact q.elim
  | some d =>
    rw [e] at q
    obtain ⟨v, e1, e2⟩ := r.val i d (val?_some e)
    exact ⟨v, e1, pst_ok r q e2⟩
/-- the list in slot i, for a reader -/
def lst? : Option Sl → Option (List PyData)
  | some (.own ds) => some ds
  | some (.io ds) => some ds
  | some (.val (.list ds)) => some ds
  | _ => none
def sLVar (i : Nat) : SN := fun S => R.opt (lst? S[i]?) S
theorem Rl.list {K : PySem.W.Frag} {ow : Ow} {S : En} {σ : St} {H : Hp} (r : Rl K C ow S σ H) {i : Nat} {ds : List PyData} (h : lst? S[i]? = some ds) : ∃ a vs, σ[i]? = some (some (.ref a)) ∧ SqL K H a vs ∧ RDs K (av C ow) H vs ds := by
  cases e : S[i]? with
  | none => rw [e] at h; cases h
  | some x =>
    rw [e] at h
    match x, h with
    | .own es, h =>
      cases h
      obtain ⟨a, vs, _, h1, h2, h3⟩ := r.own i ds (by rw [e]; rfl)
      exact ⟨a, vs, h1, SqL.of h2, h3⟩
    | .io es, h =>
      cases h
      obtain ⟨a, vs, _, h1, h2, h3⟩ := r.own i ds (by rw [e]; rfl)
      exact ⟨a, vs, h1, SqL.of h2, h3⟩
    | .val (.list es), h =>
      cases h
      obtain ⟨v, h1, h2⟩ := r.val i _ e
      cases h2 with
      | lst h2 h3 => exact ⟨_, _, h1, h2.sq, h3⟩
theorem l_var {i : Nat} {e : Expr} (h : PE X e (tVar i)) : PE X e (xL X.K X.mg W C (sLVar i)) := pe_imp h fun σ H Q ⟨ow, S, r, q⟩ => by
  change pst X.K X.mg W C (relL X.K) ow σ H Q (R.opt (lst? S[i]?) S) at q
  cases e : lst? S[i]? with
  | none =>
    rw [e] at q
    exact q.elim
  | some ds =>
    rw [e] at q
    obtain ⟨a, vs, h1, h2, h3⟩ := r.list e
    exact ⟨.ref a, h1, pst_ok r q ⟨a, vs, rfl, h2, h3⟩⟩
def sK (d : PyData) : SE := fun S => .ok d S
theorem e_con {e : Expr} {v : V} {d : PyData} (h : PE X e (tC v)) (hd : ∀ av H, RD X.K av H v d) : PE X e (xE X.K X.mg W C (sK d)) := pe_imp h fun σ H Q ⟨ow, S, r, q⟩ => pst_ok (mg := X.mg) (W := W) (d := d) (rel := relE X.K) r q (hd _ _)
theorem e_int {i j pos} : PE X (.Constant (.int i) j pos) (xE X.K X.mg W C (sK (.int i))) := e_con pe_int fun _ _ => .int i
theorem e_bl {b j pos} : PE X (.Constant (.bool b) j pos) (xE X.K X.mg W C (sK (.bool b))) := e_con pe_bl fun _ _ => .bl b
theorem e_non {j pos} : PE X (.Constant .none j pos) (xE X.K X.mg W C (sK .none)) := e_con pe_non fun _ _ => .non
theorem e_str {x j pos} : PE X (.Constant (.str x) j pos) (xE X.K X.mg W C (sK (.str x))) := e_con pe_str fun _ _ => .str x

/-! ### lists for readers -/
def asL (d : PyData) : Option (List PyData) := match d with
  | .list ds => some ds
  | _ => none
theorem asL_some {d : PyData} {ds : List PyData} (h : asL d = some ds) : d = .list ds := by
  match d, h with
  | .list _, h => cases h; rfl
def sEL (s : SE) : SN := fun S => (s S).bind fun d S' => R.opt (asL d) S'
/-- a value that is a list -/
theorem l_of_e {e : Expr} {s : SE} (h : PE X e (xE X.K X.mg W C s)) : PE X e (xL X.K X.mg W C (sEL s)) := pe_imp h fun σ H Q ⟨ow, S, r, q⟩ =>
  seq early_L r q fun S' d v H' r' _ rd k => by
    cases e : asL d with
    | none => rw [e] at k; exact k.elim
    | some ds =>
      rw [e] at k
      have ed := asL_some e
      subst ed
      cases rd with
      | lst h1 h2 => exact pst_ok r' k ⟨_, _, rfl, h1.sq, h2⟩
/-- a new list -/
theorem l_of_n {e : Expr} {s : SN} (h : PE X e (xN X.K X.mg W C s)) : PE X e (xL X.K X.mg W C s) := pe_imp h fun σ H Q ⟨ow, S, r, q⟩ => ⟨ow, S, r, by
  show pst X.K X.mg W C (relN X.K) ow σ H Q (s S)
  change pst X.K X.mg W C (relL X.K) ow σ H Q (s S) at q
  cases e : s S with
  | ok d S' =>
    rw [e] at q
    exact fun v H' r' x ⟨a, vs, Hm, h1, h2, h3, h4, h5, h6⟩ => q v H' r' x ⟨a, vs, h1, SqL.of (by rw [h3]; exact upd_same), by rw [h3]; exact rds_same h6 (same_new h2)⟩
  | ex c S' =>
    rw [e] at q
    exact q
  | no => rw [e] at q; exact q⟩
def sNE (s : SN) : SE := fun S => (s S).bind fun ds S' => .ok (.list ds) S'
/-- a new list as a value -/
theorem e_of_n {e : Expr} {s : SN} (h : PE X e (xN X.K X.mg W C s)) : PE X e (xE X.K X.mg W C (sNE s)) := pe_imp h fun σ H Q ⟨ow, S, r, q⟩ =>
  seq early_E r q fun S' d v H' r' _ ⟨a, vs, Hm, h1, h2, h3, h4, h5, h6⟩ k => by
    subst h1
    subst h3
    exact pst_ok r' k (rd_newL h5.tracked h6 h2)

/-! ### operators -/
def OpD (K : PySem.W.Frag) (r : R2) (g : PyData → PyData → Option PyData) : Prop :=
  ∀ (av : Addr → Prop) (H : Hp) (x y : V) (d e z : PyData) (Q : VK), (∀ a, av a → ∃ o, H a = some o) → RD K av H x d → RD K av H y e → g d e = some z → (∀ v H', Same H H' → RD K av H' v z → Q v H') → r x y H Q
def sBin (g : PyData → PyData → Option PyData) (sa sb : SE) : SE := fun S => (sa S).bind fun d S1 => (sb S1).bind fun e S2 => R.opt (g d e) S2
variable {a b c : Expr} {sa sb sc : SE} {pos : Pos} {r : R2} {g : PyData → PyData → Option PyData}
theorem fin_opt {σ : St} {H H' : Hp} {ow : Ow} {S : En} {o : Option PyData} {Q : VK} {P : Prop} (rl : Rl X.K C ow S σ H) (k : pst X.K X.mg W C (relE X.K) ow σ H Q (R.opt o S)) (f : ∀ z, o = some z → (∀ v H', Same H H' → RD X.K (av C ow) H' v z → Q v H') → P) : P := by
  cases e : o with
  | none => rw [e] at k; exact k.elim
  | some z =>
    rw [e] at k
    exact f z e fun v H' sm rd => pst_same rl k sm rd
theorem bin_tOp (hd : OpD X.K r g) {σ : St} {H : Hp} {Q : VK} (h : xE X.K X.mg W C (sBin g sa sb) σ H Q) : tOp r (xE X.K X.mg W C sa) (xE X.K X.mg W C sb) σ H Q := by
  obtain ⟨ow, S, rl, q⟩ := h
  refine seq early_E rl q fun S1 d x H1 r1 x1 rd k1 => ?_
  refine seq early_E r1 k1 fun S2 e y H2 r2 x2 re k2 => ?_
  refine fin_opt (H' := H2) r2 k2 fun z ez f => ?_
  exact hd (av C ow) H2 x y d e z Q r2.tracked (RD.mono x2 (Grow.refl _ _) d x rd) re ez f
theorem e_bin {op : Operator} (ho : OpR X (binaryOp op) r) (hd : OpD X.K r g) (ha : PE X a (xE X.K X.mg W C sa)) (hb : PE X b (xE X.K X.mg W C sb)) : PE X (.BinOp a op b pos) (xE X.K X.mg W C (sBin g sa sb)) :=
  pe_imp (pe_op ho ha hb) fun _ _ _ h => bin_tOp hd h
theorem e_cmp {op : CmpOp} (ho : OpR X (compareOp op) r) (hd : OpD X.K r g) (ha : PE X a (xE X.K X.mg W C sa)) (hb : PE X b (xE X.K X.mg W C sb)) (hm : behindInMarks op b = false) : PE X (.Compare a [op] [b] pos) (xE X.K X.mg W C (sBin g sa sb)) :=
  pe_imp (pe_cmpR ho ha hb hm) fun _ _ _ h => bin_tOp hd h
theorem e_ix (ho : IxR X r) (hd : OpD X.K r g) (ha : PE X a (xE X.K X.mg W C sa)) (hb : PE X b (xE X.K X.mg W C sb)) (hs : PlainIx b) : PE X (.Subscript a b pos) (xE X.K X.mg W C (sBin g sa sb)) :=
  pe_imp (pe_ix ho ha hb hs) fun _ _ _ h => bin_tOp hd h
def asB (d : PyData) : Option Bool := match d with
  | .bool b => some b
  | _ => none
theorem asB_some {d : PyData} {b : Bool} (h : asB d = some b) : d = .bool b := by
  match d, h with
  | .bool _, h => cases h; rfl
def sTst (s : SE) : STt := fun S => (s S).bind fun d S' => R.opt (asB d) S'
theorem tst_tB {t : TE} {σ : St} {H : Hp} {Q : Bool → Hp → Prop} {s : SE} (h : xB X.K X.mg W C (sTst s) σ H Q) (f : ∀ Q, xE X.K X.mg W C s σ H Q → t σ H Q) : t σ H fun x H1 => ∃ k, x = .bl k ∧ Q k H1 := by
  obtain ⟨ow, S, rl, q⟩ := h
  refine f _ (seq early_B rl q fun S1 d x H1 r1 x1 rd k1 => ?_)
  cases e : asB d with
  | none => rw [e] at k1; exact k1.elim
  | some b =>
    rw [e] at k1
    have ed := asB_some e
    subst ed
    cases rd
    exact ⟨b, rfl, pst_ok r1 k1 rfl⟩
theorem t_cmp {op : CmpOp} (ho : OpR X (compareOp op) r) (hd : OpD X.K r g) (ha : PE X a (xE X.K X.mg W C sa)) (hb : PE X b (xE X.K X.mg W C sb)) (hm : behindInMarks op b = false) : PT X (.Compare a [op] [b] pos) (xB X.K X.mg W C (sTst (sBin g sa sb))) :=
  pt_imp (pt_cmpR ho ha hb hm) fun _ _ _ h => tst_tB h fun _ q => bin_tOp hd q
theorem t_val {e : Expr} {s : SE} (h : PE X e (xE X.K X.mg W C s)) (he : ∀ whole, isTrue e X.env whole = (do let v ← whole; standAt e.pos; holding [v] (truthy v)) := by intro _; rfl) : PT X e (xB X.K X.mg W C (sTst s)) :=
  pt_imp (pt_val h he) fun _ _ _ q => tst_tB q fun _ z => z

/-! ### and, or, not, if-expressions -/
variable {ta tb : STt} {rest : List Expr}
def sAnd (ta tb : STt) : STt := fun S => (ta S).bind fun c S1 => if c = true then tb S1 else .ok false S1
def sOr (ta tb : STt) : STt := fun S => (ta S).bind fun c S1 => if c = true then .ok true S1 else tb S1
def sNot (ta : STt) : STt := fun S => (ta S).bind fun c S1 => .ok (!c) S1
theorem w_one {op} (h : PW X (.BoolOp op [a] pos) (xB X.K X.mg W C ta)) : PW X (.BoolOp op [a] pos) (xB X.K X.mg W C ta) := h
theorem pw_imp {e : Expr} {t t' : TT} (h : PW X e t) (f : ∀ σ H Q, t' σ H Q → t σ H Q) : PW X e t' := ⟨fun wh pins s σ H Q I q => h.run wh pins s σ H Q I (f σ H Q q)⟩
theorem w_and (ha : PT X a (xB X.K X.mg W C ta)) (hb : PW X (.BoolOp .And (b :: rest) pos) (xB X.K X.mg W C tb)) : PW X (.BoolOp .And (a :: b :: rest) pos) (xB X.K X.mg W C (sAnd ta tb)) :=
  pw_imp (pw_and ha hb) fun σ H Q ⟨ow, S, rl, q⟩ => seq early_B rl q fun S1 d x H1 r1 x1 rd k1 => by
    cases rd
    cases d with
    | true => exact ⟨ow, S1, r1, k1⟩
    | false => exact pst_ok r1 k1 rfl
theorem w_or (ha : PT X a (xB X.K X.mg W C ta)) (hb : PW X (.BoolOp .Or (b :: rest) pos) (xB X.K X.mg W C tb)) : PW X (.BoolOp .Or (a :: b :: rest) pos) (xB X.K X.mg W C (sOr ta tb)) :=
  pw_imp (pw_or ha hb) fun σ H Q ⟨ow, S, rl, q⟩ => seq early_B rl q fun S1 d x H1 r1 x1 rd k1 => by
    cases rd
    cases d with
    | true => exact pst_ok r1 k1 rfl
    | false => exact ⟨ow, S1, r1, k1⟩
theorem t_not (ha : PT X a (xB X.K X.mg W C ta)) : PT X (.UnaryOp .Not a pos) (xB X.K X.mg W C (sNot ta)) :=
  pt_imp (pt_not ha) fun σ H Q ⟨ow, S, rl, q⟩ => seq early_B rl q fun S1 d x H1 r1 x1 rd k1 => by
    cases rd
    exact pst_ok r1 k1 rfl
def sAndV (sa sb : SE) : SE := fun S => (sa S).bind fun d S1 => match d with
  | .bool true => sb S1
  | .bool false => .ok (.bool false) S1
  | _ => .no
def sOrV (sa sb : SE) : SE := fun S => (sa S).bind fun d S1 => match d with
  | .bool false => sb S1
  | .bool true => .ok (.bool true) S1
  | _ => .no
def sNotV (sa : SE) : SE := fun S => (sa S).bind fun d S1 => match d with
  | .bool b => .ok (.bool (!b)) S1
  | _ => .no
theorem e_and (ha : PE X a (xE X.K X.mg W C sa)) (hb : PE X (.BoolOp .And (b :: rest) pos) (xE X.K X.mg W C sb)) : PE X (.BoolOp .And (a :: b :: rest) pos) (xE X.K X.mg W C (sAndV sa sb)) :=
  pe_imp (pe_and ha hb) fun σ H Q ⟨ow, S, rl, q⟩ => seq early_E rl q fun S1 d x H1 r1 x1 rd k1 => by
    cases rd with
    | bl c =>
      refine ⟨c, rfl, ?_⟩
      cases c with
      | true => exact ⟨ow, S1, r1, k1⟩
      | false => exact pst_ok r1 k1 (.bl false)
    | _ => exact k1.elim
theorem e_or (ha : PE X a (xE X.K X.mg W C sa)) (hb : PE X (.BoolOp .Or (b :: rest) pos) (xE X.K X.mg W C sb)) : PE X (.BoolOp .Or (a :: b :: rest) pos) (xE X.K X.mg W C (sOrV sa sb)) :=
  pe_imp (pe_or ha hb) fun σ H Q ⟨ow, S, rl, q⟩ => seq early_E rl q fun S1 d x H1 r1 x1 rd k1 => by
    cases rd with
    | bl c =>
      refine ⟨c, rfl, ?_⟩
      cases c with
      | false => exact ⟨ow, S1, r1, k1⟩
      | true => exact pst_ok r1 k1 (.bl true)
    | _ => exact k1.elim
theorem e_not (ha : PE X a (xE X.K X.mg W C sa)) : PE X (.UnaryOp .Not a pos) (xE X.K X.mg W C (sNotV sa)) :=
  pe_imp (pe_not ha) fun σ H Q ⟨ow, S, rl, q⟩ => seq early_E rl q fun S1 d x H1 r1 x1 rd k1 => by
    cases rd with
    | bl c => exact ⟨c, rfl, pst_ok r1 k1 (.bl (!c))⟩
    | _ => exact k1.elim
def sIfE (t : STt) (sa sb : SE) : SE := fun S => (t S).bind fun c S1 => if c = true then sa S1 else sb S1
theorem e_if (ht : PT X c (xB X.K X.mg W C ta)) (ha : PE X a (xE X.K X.mg W C sa)) (hb : PE X b (xE X.K X.mg W C sb)) : PE X (.IfExp c a b pos) (xE X.K X.mg W C (sIfE ta sa sb)) :=
  pe_imp (pe_ifExp ht ha hb) fun σ H Q ⟨ow, S, rl, q⟩ => seq early_E rl q fun S1 d x H1 r1 x1 rd k1 => by
    cases rd
    cases d with
    | true => exact ⟨ow, S1, r1, k1⟩
    | false => exact ⟨ow, S1, r1, k1⟩

/-! ### arguments, tuples, lists -/
variable {es : List Expr} {sr : SN}
def sNil : SN := fun S => .ok [] S
def sCons (s : SE) (sr : SN) : SN := fun S => (s S).bind fun d S1 => (sr S1).bind fun ds S2 => .ok (d :: ds) S2
theorem a_nil : PA X [] (xA X.K X.mg W C sNil) := pa_imp pa_nil fun σ H Q ⟨ow, S, rl, q⟩ => pst_ok (mg := X.mg) (W := W) (rel := relA X.K) (d := []) rl q .nil
theorem a_cons (ha : PE X a (xE X.K X.mg W C sa)) (hr : PA X es (xA X.K X.mg W C sr)) (hs : starEach (a :: es) X.env = (false, eval a X.env) :: starEach es X.env := by rfl) : PA X (a :: es) (xA X.K X.mg W C (sCons sa sr)) :=
  pa_imp (pa_cons ha hr hs) fun σ H Q ⟨ow, S, rl, q⟩ => seq early_A rl q fun S1 d x H1 r1 x1 rd k1 => seq early_A r1 k1 fun S2 ds vs H2 r2 x2 rds k2 => pst_ok r2 k2 (.cons (RD.mono x2 (Grow.refl _ _) d x rd) rds)
def sTup (s : SN) : SE := fun S => (s S).bind fun ds S1 => if ds.length ≤ sizeLine then .ok (.tuple ds) S1 else .no
def tTupF (t : TA) : TE := fun σ H Q => t σ H fun xs H1 => xs.length ≤ sizeLine ∧ NT H1 xs Q
theorem pe_tupF {es : List Expr} {t : TA} {x1} (h : PA X es t) : PE X (.Tuple es x1 pos) (tTupF t) := by
  refine ⟨fun pins s σ H Q I hq => wpAny_Tuple_spliced (thn (h.run pos pins s σ H _ I hq) fun us s1 ⟨xs, H1, I1, r, z, q⟩ => ⟨by rw [← r.length]; exact z, ?_⟩)⟩
  exact q.run (tk := s1.toks) I1 r z
theorem e_tup {x1} (h : PA X es (xA X.K X.mg W C sr)) : PE X (.Tuple es x1 pos) (xE X.K X.mg W C (sTup sr)) :=
  pe_imp (pe_tupF h) fun σ H Q ⟨ow, S, rl, q⟩ => seq early_E rl q fun S1 ds vs H1 r1 x1 rds k1 => by
    by_cases z : ds.length ≤ sizeLine
    · rw [if_pos z] at k1
      exact ⟨by rw [rds.len]; exact z, fun p o np d c => pst_same r1 k1 (same_new np) (rd_newT r1.tracked rds np d c)⟩
    · rw [if_neg z] at k1
      exact k1.elim
def sLst (s : SN) : SN := fun S => (s S).bind fun ds S1 => if ds.length ≤ sizeLine then .ok ds S1 else .no
theorem n_lst (h : PA X es (xA X.K X.mg W C sr)) : PE X (.List es pos) (xN X.K X.mg W C (sLst sr)) :=
  pe_imp (pe_lst h) fun σ H Q ⟨ow, S, rl, q⟩ => seq early_N rl q fun S1 ds vs H1 r1 x1 rds k1 => by
    by_cases z : ds.length ≤ sizeLine
    · rw [if_pos z] at k1
      exact ⟨by rw [rds.len]; exact z, fun p np => pst_same r1 k1 (same_new np) ⟨p, vs, H1, rfl, np, rfl, Ext.refl _ _, r1, rds⟩⟩
    · rw [if_neg z] at k1
      exact k1.elim
/-- a built-in function, a type, by values -/
def CallD (K : PySem.W.Frag) (r : List V → Hp → VK → Prop) (g : List PyData → Option PyData) : Prop :=
  ∀ (av : Addr → Prop) (H : Hp) (xs : List V) (ds : List PyData) (z : PyData) (Q : VK), (∀ a, av a → ∃ o, H a = some o) → RDs K av H xs ds → g ds = some z → (∀ v H', Same H H' → RD K av H' v z → Q v H') → r xs H Q
def sCallB (g : List PyData → Option PyData) (s : SN) : SE := fun S => (s S).bind fun ds S1 => R.opt (g ds) S1
theorem callB_tCB {rr : List V → Hp → VK → Prop} {gg : List PyData → Option PyData} (hd : CallD X.K rr gg) {σ : St} {H : Hp} {Q : VK} (h : xE X.K X.mg W C (sCallB gg sr) σ H Q) : tCB rr (xA X.K X.mg W C sr) σ H Q := by
  obtain ⟨ow, S, rl, q⟩ := h
  refine seq early_E rl q fun S1 ds vs H1 r1 x1 rds k1 => ?_
  refine fin_opt (H' := H1) r1 k1 fun z ez f => ?_
  exact hd (av C ow) H1 vs ds z Q r1.tracked rds ez f
theorem e_callB {id : String} {x : Str} {p : Pos} {rr : List V → Hp → VK → Prop} {gg : List PyData → Option PyData} (hc : CallR X (.builtin id) rr) (hd : CallD X.K rr gg) (hg : Gl X x) (hm : X.mg x = none) (hv : bootBuiltins x = some (.builtin id)) (ha : PA X (a :: es) (xA X.K X.mg W C sr)) (hn : x ≠ "__name__" := by decide) (hdb : (x == ("__debug__" : Str)) = false := by decide)
    (he : starEach (a :: es) X.env = (false, eval a X.env) :: starEach es X.env := by rfl) (hpl : (backTo pos (starEach es X.env)).any (·.1) = false := by rfl) : PE X (.Call (.Name x p) (a :: es) [] pos) (xE X.K X.mg W C (sCallB gg sr)) :=
  pe_imp (pe_callB hc hg hm hv ha hn hdb he hpl) fun _ _ _ h => callB_tCB hd h
theorem e_callTy {id : String} {x : Str} {p : Pos} {rr : List V → Hp → VK → Prop} {gg : List PyData → Option PyData} (hc : CallR X (.type id) rr) (hd : CallD X.K rr gg) (hg : Gl X x) (hm : X.mg x = none) (hv : bootBuiltins x = some (.type id)) (ha : PA X (a :: es) (xA X.K X.mg W C sr)) (hn : x ≠ "__name__" := by decide) (hdb : (x == ("__debug__" : Str)) = false := by decide)
    (he : starEach (a :: es) X.env = (false, eval a X.env) :: starEach es X.env := by rfl) (hpl : (backTo pos (starEach es X.env)).any (·.1) = false := by rfl) : PE X (.Call (.Name x p) (a :: es) [] pos) (xE X.K X.mg W C (sCallB gg sr)) :=
  pe_imp (pe_callTy hc hg hm hv ha hn hdb he hpl) fun _ _ _ h => callB_tCB hd h
end
end Ds
end

section
set_option Elab.async false
set_option linter.all false
set_option maxRecDepth 100000
set_option maxHeartbeats 4000000
namespace Ds
open PySem PySem.Spec PyProof.Rows L2

inductive RS where
  | nx (S : En)
  | rt (r : Sl) (S : En)
  | bk (S : En)
  | ct (S : En)
  | ex (c : Str) (S : En)
  | no
abbrev SS := En → RS
/-- what a def hands back -/
def rres (K : PySem.W.Frag) (C : Cn) (ow : Ow) (σ : St) (S : En) (H : Hp) (v : V) : Sl → Prop
  | .val d => RD K (av C ow) H v d
  | .own ds => ∃ p vs Hm ow2 S2, v = .ref p ∧ C.H0 p = none ∧ ¬ C.A0 p ∧ Hm p = none ∧ H = upd Hm p (.lst vs) ∧ RDs K (av C ow2) Hm vs ds ∧ Rl K C ow2 S2 σ Hm ∧ ∀ (j : Nat) es, S[j]? = some (.io es) → S2[j]? = some (.io es)
  | .pair d ds => ∃ q p x vs o Hm ow2 S2, v = .ref q ∧ C.H0 p = none ∧ ¬ C.A0 p ∧ Hm p = none ∧ Hm q = none ∧ p ≠ q ∧ H = upd (upd Hm p (.lst vs)) q (.frz o (.tup [x, .ref p])) ∧ RD K (av C ow2) Hm x d ∧ RDs K (av C ow2) Hm vs ds ∧ Rl K C ow2 S2 σ Hm ∧ ∀ (j : Nat) es, S[j]? = some (.io es) → S2[j]? = some (.io es)
  | _ => False
def sst (K : PySem.W.Frag) (mg : Str → Option Value) (W : WX) (C : Cn) (ow : Ow) (H : Hp) (D : Ends) : RS → Prop
  | .nx S' => ∀ ow' σ' H', Rl K C ow' S' σ' H' → Ext (av C ow) H H' → Grow (av C ow) (av C ow') H → D.nx σ' H'
  | .bk S' => ∀ ow' σ' H', Rl K C ow' S' σ' H' → Ext (av C ow) H H' → Grow (av C ow) (av C ow') H → D.bk σ' H'
  | .ct S' => ∀ ow' σ' H', Rl K C ow' S' σ' H' → Ext (av C ow) H H' → Grow (av C ow) (av C ow') H → D.ct σ' H'
  | .rt r S' => ∀ ow' σ' v H', Rl K C ow' S' σ' H' → Ext (av C ow) H H' → Grow (av C ow) (av C ow') H → rres K C ow' σ' S' H' v r → D.rt v H'
  | .ex c S' => ∀ ow' σ' H', Rl K C ow' S' σ' H' → Ext (av C ow) H H' → Grow (av C ow) (av C ow') H → W (clOf mg c) none σ' H'
  | .no => False
def xS (K : PySem.W.Frag) (mg : Str → Option Value) (W : WX) (C : Cn) (s : SS) : TS := fun D σ H => ∃ ow S, Rl K C ow S σ H ∧ sst K mg W C ow H D (s S)
section
variable {K : PySem.W.Frag} {mg : Str → Option Value} {W : WX} {C : Cn} {ow ow' : Ow} {σ σ' : St} {H H' : Hp} {D D' : Ends}
theorem sst_from {r : RS} (e : Ext (av C ow) H H') (g : Grow (av C ow) (av C ow') H) (h : sst K mg W C ow H D r) : sst K mg W C ow' H' D r := by
  cases r with
  | nx S => exact fun o2 s2 H2 q1 q2 q3 => h o2 s2 H2 q1 (e.trans g q2) (g.trans e q3)
  | bk S => exact fun o2 s2 H2 q1 q2 q3 => h o2 s2 H2 q1 (e.trans g q2) (g.trans e q3)
  | ct S => exact fun o2 s2 H2 q1 q2 q3 => h o2 s2 H2 q1 (e.trans g q2) (g.trans e q3)
  | rt r S => exact fun o2 s2 v H2 q1 q2 q3 => h o2 s2 v H2 q1 (e.trans g q2) (g.trans e q3)
  | ex c S => exact fun o2 s2 H2 q1 q2 q3 => h o2 s2 H2 q1 (e.trans g q2) (g.trans e q3)
  | no => exact h
def R.st {α : Type} (x : R α) (k : α → En → RS) : RS := match x with
  | .ok a S => k a S
  | .ex c S => .ex c S
  | .no => .no
@[simp] theorem st_ok {α : Type} (a : α) (S : En) (k : α → En → RS) : (R.ok a S).st k = k a S := rfl
@[simp] theorem st_ex {α : Type} (c : Str) (S : En) (k : α → En → RS) : (R.ex c S : R α).st k = .ex c S := rfl
@[simp] theorem st_no {α : Type} (k : α → En → RS) : (R.no : R α).st k = .no := rfl
/-- a thing is computed, then the statement goes on -/
theorem seqS {α β : Type} {rel : Rel β α} {s : En → R α} {k : α → En → RS} {P : β → Hp → Prop} {S : En} (r : Rl K C ow S σ H)
    (h : sst K mg W C ow H D ((s S).st k)) (f : ∀ S' d v H', Rl K C ow S' σ H' → Ext (av C ow) H H' → rel C ow σ S' H H' v d → sst K mg W C ow H' D (k d S') → P v H') : xG K mg W C rel s σ H P := by
  refine ⟨ow, S, r, ?_⟩
  show pst K mg W C rel ow σ H P (s S)
  cases e : s S with
  | ok d S' =>
    rw [e] at h
    exact fun v H' r' x q => f S' d v H' r' x q (sst_from x (Grow.refl _ _) h)
  | ex c S' =>
    rw [e] at h
    exact fun H' r' x => h ow σ H' r' x (Grow.refl _ _)
  | no =>
    rw [e] at h
    exact h
end

def sSeq (s t : SS) : SS := fun S => match s S with
  | .nx S' => t S'
  | r => r
def sNx : SS := fun S => .nx S
section
variable {X : Cx} {W : WX} {C : Cn} {st : Stmt} {rest : List Stmt} {s t : SS} {pos : Pos} {e c : Expr} {se : SE} {sn : SN} {sb : STt}
theorem s_nil : PSs X [] (xS X.K X.mg W C sNx) := pss_imp pss_nil fun D σ H ⟨ow, S, r, q⟩ => q ow σ H r (Ext.refl _ _) (Grow.refl _ _)
theorem s_cons (h1 : PS X st (xS X.K X.mg W C s)) (h2 : PSs X rest (xS X.K X.mg W C t)) : PSs X (st :: rest) (xS X.K X.mg W C (sSeq s t)) :=
  pss_imp (pss_cons h1 h2) fun D σ H ⟨ow, S, r, q⟩ => ⟨ow, S, r, by
    change sst X.K X.mg W C ow H D (sSeq s t S) at q
    unfold sSeq at q
    cases e : s S with
    | nx S' =>
      rw [e] at q
      exact fun ow' σ' H' r' x g => ⟨ow', S', r', sst_from x g q⟩
    | rt v S' => rw [e] at q; exact q
    | bk S' => rw [e] at q; exact q
    | ct S' => rw [e] at q; exact q
    | ex c S' => rw [e] at q; exact q
    | no => rw [e] at q; exact q⟩
theorem s_one (h1 : PS X st (xS X.K X.mg W C s)) : PSs X [st] (xS X.K X.mg W C s) := pss_one h1
theorem s_pass : PS X (.Pass pos) (xS X.K X.mg W C sNx) := ps_imp ps_pass fun D σ H ⟨ow, S, r, q⟩ => q ow σ H r (Ext.refl _ _) (Grow.refl _ _)
def sBreak : SS := fun S => .bk S
def sCont : SS := fun S => .ct S
theorem s_break : PS X (.Break pos) (xS X.K X.mg W C sBreak) := ps_imp ps_break fun D σ H ⟨ow, S, r, q⟩ => q ow σ H r (Ext.refl _ _) (Grow.refl _ _)
theorem s_cont : PS X (.Continue pos) (xS X.K X.mg W C sCont) := ps_imp ps_continue fun D σ H ⟨ow, S, r, q⟩ => q ow σ H r (Ext.refl _ _) (Grow.refl _ _)
theorem s_doc {x j pos pos'} : PS X (.Expr (.Constant (.str x) j pos) pos') (xS X.K X.mg W C sNx) := ps_imp ps_doc fun D σ H ⟨ow, S, r, q⟩ => q ow σ H r (Ext.refl _ _) (Grow.refl _ _)
/-- a statement that is never reached -/
def sStop : SS := fun _ => .no
theorem s_never : PS X st (xS X.K X.mg W C sStop) := ps_imp ps_never fun D σ H ⟨ow, S, r, q⟩ => q
theorem ss_never {sts : List Stmt} : PSs X sts (xS X.K X.mg W C sStop) := pss_imp pss_never fun D σ H ⟨ow, S, r, q⟩ => q
def sDrop (se : SE) : SS := fun S => (se S).st fun _ S' => .nx S'
theorem s_expr (he : PE X e (xE X.K X.mg W C se)) (hs : swapsWith e none pos.line X.env = pure false := by rfl) : PS X (.Expr e pos) (xS X.K X.mg W C (sDrop se)) :=
  ps_imp (ps_expr he hs) fun D σ H ⟨ow, S, r, q⟩ => seqS r q fun S' d v H' r' x rd k => k ow σ H' r' (Ext.refl _ _) (Grow.refl _ _)
def sRet (se : SE) : SS := fun S => (se S).st fun d S' => .rt (.val d) S'
theorem s_ret (he : PE X e (xE X.K X.mg W C se)) : PS X (.Return (some e) pos) (xS X.K X.mg W C (sRet se)) :=
  ps_imp (ps_ret he) fun D σ H ⟨ow, S, r, q⟩ => seqS r q fun S' d v H' r' x rd k => k ow σ v H' r' (Ext.refl _ _) (Grow.refl _ _) rd
def sRetN : SS := fun S => .rt (.val .none) S
theorem s_retN : PS X (.Return none pos) (xS X.K X.mg W C sRetN) := ps_imp ps_retN fun D σ H ⟨ow, S, r, q⟩ => q ow σ .non H r (Ext.refl _ _) (Grow.refl _ _) (show RD X.K (av C ow) H .non .none from .non)
section
variable {K : PySem.W.Frag} {ow : Ow} {S : En} {σ : St} {H : Hp}
theorem Rl.fresh0 (r : Rl K C ow S σ H) {p : Addr} (h : H p = none) : C.H0 p = none ∧ ¬ C.A0 p := by
  have n : ¬ C.A0 p := fun z => r.fresh h (.inl z)
  refine ⟨?_, n⟩
  cases q : C.H0 p with
  | none => rfl
  | some o =>
    rw [r.ext p o q fun i z => n (r.iok i p z).1] at h
    cases h
theorem rds_less {av av' : Addr → Prop} {vs : List V} {ds : List PyData} (h : RDs K av H vs ds) (g : ∀ a, av' a → av a) : RDs K av' H vs ds := RDs.mono (Ext.refl _ _) (fun a z => .inl (g a z)) ds vs h
theorem rd_less {av av' : Addr → Prop} {vs : V} {ds : PyData} (h : RD K av H vs ds) (g : ∀ a, av' a → av a) : RD K av' H vs ds := RD.mono (Ext.refl _ _) (fun a z => .inl (g a z)) ds vs h
end
/-- a new list is handed back, to be owned -/
def sRetNew (sn : SN) : SS := fun S => (sn S).st fun ds S' => .rt (.own ds) S'
theorem s_retNew (he : PE X e (xN X.K X.mg W C sn)) : PS X (.Return (some e) pos) (xS X.K X.mg W C (sRetNew sn)) :=
  ps_imp (ps_ret he) fun D σ H ⟨ow, S, r, q⟩ => seqS r q fun S' ds v H' r' x ⟨a, vs, Hm, h1, h2, h3, h4, h5, h6⟩ k =>
    k ow σ v H' r' (Ext.refl _ _) (Grow.refl _ _) ⟨a, vs, Hm, ow, S', h1, (h5.fresh0 h2).1, (h5.fresh0 h2).2, h2, h3, h6, h5, fun _ _ z => z⟩
/-- the list in slot i is handed back -/
def own1? : Option Sl → Option (List PyData)
  | some (.own ds) => some ds
  | _ => none
theorem own1?_some {o : Option Sl} {ds : List PyData} (h : own1? o = some ds) : o = some (.own ds) := by
  match o, h with
  | some (.own d), h => cases h; rfl
def del (H : Hp) (p : Addr) : Hp := fun b => if b = p then none else H b
theorem del_same {H : Hp} {p : Addr} : del H p p = none := if_pos rfl
theorem del_ne {H : Hp} {p b : Addr} (h : b ≠ p) : del H p b = H b := if_neg h
theorem upd_del {H : Hp} {p : Addr} {o : HO} (h : H p = some o) : upd (del H p) p o = H := by
  funext b
  by_cases e : b = p
  · rw [e, upd_same, h]
  · rw [upd_ne e, del_ne e]
def owSet (ow : Ow) (i : Nat) (o : Option Addr) : Ow := fun j => if j = i then o else ow j
section
variable {K : PySem.W.Frag} {ow : Ow} {S : En} {σ : St} {H : Hp}
theorem av_set {i : Nat} {o : Option Addr} {a : Addr} (h : av C (owSet ow i o) a) : av C ow a ∨ o = some a := by
  rcases h with h | ⟨j, h⟩
  · exact .inl (.inl h)
  · unfold owSet at h
    by_cases e : j = i
    · rw [if_pos e] at h; exact .inr h
    · rw [if_neg e] at h; exact .inl (.inr ⟨j, h⟩)
theorem ext_del {av : Addr → Prop} {p : Addr} (h : av p) : Ext av H (del H p) := fun a o n e => by
  rw [del_ne (show a ≠ p from fun z => n (by rw [z]; exact h))]
  exact e
/-- the list of slot i is given up, and leaves the heap -/
theorem Rl.drop (r : Rl K C ow S σ H) {i : Nat} {ds : List PyData} {p : Addr} (hi : S[i]? = some (.own ds)) (hp : ow i = some p) : Rl K C (owSet ow i none) (S.set i .nil) σ (del H p) := by
  have hl : i < S.length := (List.getElem?_eq_some_iff.mp hi).1
  have gs : ∀ j, j ≠ i → (S.set i .nil)[j]? = S[j]? := fun j e => List.getElem?_set_ne (Ne.symm e)
  have gi : (S.set i .nil)[i]? = some .nil := List.getElem?_set_self hl
  have oj : ∀ j, j ≠ i → owSet ow i none j = ow j := fun j e => if_neg e
  have oi : owSet ow i none i = none := if_pos rfl
  have n := r.frs i ds p hi hp
  have ap : av C ow p := .inr ⟨i, hp⟩
  have lt : ∀ a, av C (owSet ow i none) a → av C ow a := fun a z => (av_set z).elim id fun z => by cases z
  have hn : nn S[i]? = true := by rw [hi]; rfl
  have h4 : i < 4096 := Nat.lt_of_lt_of_le hl r.ns.big
  refine ⟨by rw [List.length_set]; exact r.len, fun j d e => ?_, fun j es e => ?_, fun j a e => ?_, fun j k a e1 e2 => ?_, fun j es a e1 e2 => ?_, fun j es e => ?_, fun j a e => ?_, fun a z => ?_, fun a o z h => ?_, ?_⟩
  · by_cases hj : j = i
    · subst hj; rw [gi] at e; cases e
    · rw [gs j hj] at e
      obtain ⟨w, e1, e2⟩ := r.val j d e
      exact ⟨w, e1, RD.mono (ext_del ap) (fun a z => .inl (lt a z)) d w e2⟩
  · by_cases hj : j = i
    · subst hj; rw [gi] at e; cases e
    · rw [gs j hj] at e
      obtain ⟨a, ws, e1, e2, e3, e4⟩ := r.own j es e
      refine ⟨a, ws, by rw [oj j hj]; exact e1, e2, ?_, RDs.mono (ext_del ap) (fun a z => .inl (lt a z)) es ws e4⟩
      rw [del_ne (show a ≠ p from fun z => hj (r.inj j i a e1 (by rw [z]; exact hp)))]
      exact e3
  · by_cases hj : j = i
    · subst hj; rw [oi] at e; cases e
    · rw [oj j hj] at e
      rw [gs j hj]
      exact (r.ows j a e).imp id fun z => z.of fun _ _ q => (nst_set hn rfl).mpr q
  · by_cases hj : j = i
    · subst hj; rw [oi] at e1; cases e1
    · by_cases hk : k = i
      · subst hk; rw [oi] at e2; cases e2
      · rw [oj j hj] at e1
        rw [oj k hk] at e2
        exact r.inj j k a e1 e2
  · by_cases hj : j = i
    · subst hj; rw [gi] at e1; cases e1
    · rw [gs j hj] at e1
      rw [oj j hj] at e2
      exact r.frs j es a e1 e2
  · by_cases hj : j = i
    · subst hj; rw [gi] at e; cases e
    · rw [gs j hj] at e
      rw [oj j hj]
      exact r.ios j es e
  · obtain ⟨h1, es, h2⟩ := r.iok j a e
    refine ⟨h1, es, ?_⟩
    rw [gs j fun z => ?_]
    · exact h2
    · rw [z, hi] at h2; cases h2
  · rw [del_ne (show a ≠ p from fun q => n.2 (by rw [← q]; exact z))]
    exact r.trk a z
  · rw [del_ne (show a ≠ p from fun q => by rw [q, n.1] at z; cases z)]
    exact r.ext a o z h
  · refine r.ns.move (by rw [List.length_set]; exact r.ns.big) (fun _ _ q => (nst_set hn rfl).mp q) (fun j q => oj j (q.ne hn h4)) (fun _ _ _ _ => rfl) (fun j a o q e1 e2 => ?_) (fun ws ds q => RDs.mono (ext_del ap) (fun a z => .inl (lt a z)) ds ws q) (fun _ _ _ _ z => z)
    rw [del_ne (show a ≠ p from fun z => q.ne hn h4 (r.inj j i a e1 (by rw [z]; exact hp)))]
    exact e2
end
def sRetOwn (i : Nat) : SS := fun S => match own1? S[i]? with
  | some ds => .rt (.own ds) S
  | none => .no
theorem s_retOwn {i : Nat} (he : PE X e (tVar i)) : PS X (.Return (some e) pos) (xS X.K X.mg W C (sRetOwn i)) :=
  ps_imp (ps_ret he) fun D σ H ⟨ow, S, r, q⟩ => by
    change sst X.K X.mg W C ow H D (sRetOwn i S) at q
    unfold sRetOwn at q
    cases e : own1? S[i]? with
    | none => rw [e] at q; exact q.elim
    | some ds =>
      rw [e] at q
      have e' := own1?_some e
      obtain ⟨a, vs, h0, h1, h2, h3⟩ := r.own i ds (by rw [e']; rfl)
      obtain ⟨f1, f2⟩ := r.frs i ds a e' h0
      refine ⟨.ref a, h1, q ow σ _ H r (Ext.refl _ _) (Grow.refl _ _) ⟨a, vs, del H a, owSet ow i none, S.set i .nil, rfl, f1, f2, del_same, (upd_del h2).symm, ?_, r.drop e' h0, fun j es z => ?_⟩⟩
      · exact RDs.mono (ext_del (.inr ⟨i, h0⟩)) (fun b z => .inl ((av_set z).elim id fun z => by cases z)) ds vs h3
      · rw [List.getElem?_set_ne fun w => by rw [← w, e'] at z; cases z]
        exact z
def sIf (sb : STt) (s t : SS) : SS := fun S => (sb S).st fun b S' => if b = true then s S' else t S'
theorem s_if {a b : List Stmt} (hc : PT X c (xB X.K X.mg W C sb)) (ha : PSs X a (xS X.K X.mg W C s)) (hb : PSs X b (xS X.K X.mg W C t)) : PS X (.If c a b pos) (xS X.K X.mg W C (sIf sb s t)) :=
  ps_imp (ps_if hc ha hb) fun D σ H ⟨ow, S, r, q⟩ => seqS r q fun S' d v H' r' x rd k => by
    cases rd
    cases d with
    | true => exact ⟨ow, S', r', k⟩
    | false => exact ⟨ow, S', r', k⟩

/-! ### stores -/
def noio : Option Sl → Bool
  | some (.io _) => false
  | some (.nst _) => false
  | none => false
  | _ => true
def put (i : Nat) (x : Sl) (S : En) : RS := if noio S[i]? = true then .nx (S.set i x) else .no
section
variable {K : PySem.W.Frag} {mg : Str → Option Value} {ow : Ow} {S : En} {σ : St} {H H' : Hp}
theorem noio_lt {i : Nat} (h : noio S[i]? = true) : i < S.length := by
  cases e : S[i]? with
  | none => rw [e] at h; cases h
  | some x => exact (List.getElem?_eq_some_iff.mp e).1
theorem noio_nn {o : Option Sl} (h : noio o = true) : nn o = true := by
  match o, h with
  | some .nil, _ => rfl
  | some (.val _), _ => rfl
  | some (.own _), _ => rfl
  | some (.pair _ _), _ => rfl
theorem noio_io {i : Nat} (h : noio S[i]? = true) (ds : List PyData) : S[i]? ≠ some (.io ds) := fun z => by rw [z] at h; cases h
/-- a value is stored in slot i -/
theorem Rl.putV (r : Rl K C ow S σ H) {i : Nat} (hi : noio S[i]? = true) {d : PyData} {v : V} (q : RD K (av C ow) H v d) : Rl K C (owSet ow i none) (S.set i (.val d)) (σ.set i (some v)) H := by
  have hl := noio_lt hi
  have hlσ : i < σ.length := by rw [← r.len]; exact hl
  have gs : ∀ j, j ≠ i → (S.set i (.val d))[j]? = S[j]? := fun j e => List.getElem?_set_ne (Ne.symm e)
  have gσ : ∀ j, j ≠ i → (σ.set i (some v))[j]? = σ[j]? := fun j e => List.getElem?_set_ne (Ne.symm e)
  have gi : (S.set i (.val d))[i]? = some (.val d) := List.getElem?_set_self hl
  have gσi : (σ.set i (some v))[i]? = some (some v) := List.getElem?_set_self hlσ
  have oj : ∀ j, j ≠ i → owSet ow i none j = ow j := fun j e => if_neg e
  have oi : owSet ow i none i = none := if_pos rfl
  have lt : ∀ a, av C (owSet ow i none) a → av C ow a := fun a z => (av_set z).elim id fun z => by cases z
  have hn := noio_nn hi
  have h4 : i < 4096 := Nat.lt_of_lt_of_le hl r.ns.big
  refine ⟨by rw [List.length_set, List.length_set]; exact r.len, fun j d e => ?_, fun j ds e => ?_, fun j a e => ?_, fun j k a e1 e2 => ?_, fun j ds a e1 e2 => ?_, fun j ds e => ?_, fun j a e => ?_, r.trk, r.ext, r.ns.move (by rw [List.length_set]; exact r.ns.big) (fun _ _ q => (nst_set hn rfl).mp q) (fun j q => oj j (q.ne hn h4)) (fun j _ q _ => gσ j (NstAt.ne (.inl ⟨_, q⟩) hn h4)) (fun _ _ _ _ _ q => q) (fun _ _ q => rds_less q lt) (fun _ _ _ _ z => z)⟩
  · by_cases hj : j = i
    · subst hj
      rw [gi] at e
      cases e
      exact ⟨v, gσi, rd_less q lt⟩
    · rw [gs j hj] at e
      obtain ⟨w, e1, e2⟩ := r.val j d e
      exact ⟨w, by rw [gσ j hj]; exact e1, rd_less e2 lt⟩
  · by_cases hj : j = i
    · subst hj; rw [gi] at e; cases e
    · rw [gs j hj] at e
      obtain ⟨a, ws, e1, e2, e3, e4⟩ := r.own j ds e
      exact ⟨a, ws, by rw [oj j hj]; exact e1, by rw [gσ j hj]; exact e2, e3, rds_less e4 lt⟩
  · by_cases hj : j = i
    · subst hj; rw [oi] at e; cases e
    · rw [oj j hj] at e
      rw [gs j hj]
      exact (r.ows j a e).imp id fun z => z.of fun _ _ q => (nst_set hn rfl).mpr q
  · by_cases hj : j = i
    · subst hj; rw [oi] at e1; cases e1
    · by_cases hk : k = i
      · subst hk; rw [oi] at e2; cases e2
      · rw [oj j hj] at e1
        rw [oj k hk] at e2
        exact r.inj j k a e1 e2
  · by_cases hj : j = i
    · subst hj; rw [gi] at e1; cases e1
    · rw [gs j hj] at e1
      rw [oj j hj] at e2
      exact r.frs j ds a e1 e2
  · by_cases hj : j = i
    · subst hj; rw [gi] at e; cases e
    · rw [gs j hj] at e
      rw [oj j hj]
      exact r.ios j ds e
  · obtain ⟨h1, ds, h2⟩ := r.iok j a e
    refine ⟨h1, ds, ?_⟩
    rw [gs j fun z => ?_]
    · exact h2
    · rw [z] at h2
      exact absurd h2 (noio_io hi ds)
/-- a new list is stored in slot i: H is the heap without it -/
theorem Rl.putN (r : Rl K C ow S σ H) {i : Nat} (hi : noio S[i]? = true) {ds : List PyData} {p : Addr} {vs : List V} (np : H p = none) (q : RDs K (av C ow) H vs ds) :
    Rl K C (owSet ow i (some p)) (S.set i (.own ds)) (σ.set i (some (.ref p))) (upd H p (.lst vs)) := by
  have hl := noio_lt hi
  have hlσ : i < σ.length := by rw [← r.len]; exact hl
  have gs : ∀ j, j ≠ i → (S.set i (.own ds))[j]? = S[j]? := fun j e => List.getElem?_set_ne (Ne.symm e)
  have gσ : ∀ j, j ≠ i → (σ.set i (some (.ref p)))[j]? = σ[j]? := fun j e => List.getElem?_set_ne (Ne.symm e)
  have gi : (S.set i (.own ds))[i]? = some (.own ds) := List.getElem?_set_self hl
  have gσi : (σ.set i (some (.ref p)))[i]? = some (some (.ref p)) := List.getElem?_set_self hlσ
  have oj : ∀ j, j ≠ i → owSet ow i (some p) j = ow j := fun j e => if_neg e
  have oi : owSet ow i (some p) i = some p := if_pos rfl
  have n := r.fresh np
  have f0 := r.fresh0 np
  have sm : Same H (upd H p (.lst vs)) := same_new np
  have gr : Grow (av C ow) (av C (owSet ow i (some p))) H := fun a z => (av_set z).imp id fun z => by cases z; exact np
  have nj : ∀ j, ow j ≠ some p := fun j z => n (.inr ⟨j, z⟩)
  have hn := noio_nn hi
  have h4 : i < 4096 := Nat.lt_of_lt_of_le hl r.ns.big
  refine ⟨by rw [List.length_set, List.length_set]; exact r.len, fun j d e => ?_, fun j es e => ?_, fun j a e => ?_, fun j k a e1 e2 => ?_, fun j es a e1 e2 => ?_, fun j es e => ?_, fun j a e => ?_, fun a z => ?_, fun a o z h => sm a o (r.ext a o z h), r.ns.move (by rw [List.length_set]; exact r.ns.big) (fun _ _ q => (nst_set hn rfl).mp q) (fun j q => oj j (q.ne hn h4)) (fun j _ q _ => gσ j (NstAt.ne (.inl ⟨_, q⟩) hn h4)) (fun _ a o _ _ q => sm a o q) (fun ws ds q => RDs.mono (Ext.same sm) gr ds ws q) (fun _ _ _ _ z => z)⟩
  · by_cases hj : j = i
    · subst hj; rw [gi] at e; cases e
    · rw [gs j hj] at e
      obtain ⟨w, e1, e2⟩ := r.val j d e
      exact ⟨w, by rw [gσ j hj]; exact e1, RD.mono (Ext.same sm) gr d w e2⟩
  · by_cases hj : j = i
    · subst hj
      rw [gi] at e
      obtain rfl : ds = es := Option.some.inj e
      exact ⟨p, vs, oi, gσi, upd_same, RDs.mono (Ext.same sm) gr ds vs q⟩
    · rw [gs j hj] at e
      obtain ⟨a, ws, e1, e2, e3, e4⟩ := r.own j es e
      exact ⟨a, ws, by rw [oj j hj]; exact e1, by rw [gσ j hj]; exact e2, sm a _ e3, RDs.mono (Ext.same sm) gr es ws e4⟩
  · by_cases hj : j = i
    · subst hj
      exact .inl ⟨ds, by rw [gi]; rfl⟩
    · rw [oj j hj] at e
      rw [gs j hj]
      exact (r.ows j a e).imp id fun z => z.of fun _ _ q => (nst_set hn rfl).mpr q
  · by_cases hj : j = i
    · subst hj
      by_cases hk : k = j
      · exact hk.symm
      · rw [oj k hk] at e2
        rw [oi] at e1; cases e1
        exact absurd e2 (nj k)
    · rw [oj j hj] at e1
      by_cases hk : k = i
      · subst hk
        rw [oi] at e2; cases e2
        exact absurd e1 (nj j)
      · rw [oj k hk] at e2
        exact r.inj j k a e1 e2
  · by_cases hj : j = i
    · subst hj
      rw [oi] at e2; cases e2
      exact f0
    · rw [gs j hj] at e1
      rw [oj j hj] at e2
      exact r.frs j es a e1 e2
  · by_cases hj : j = i
    · subst hj; rw [gi] at e; cases e
    · rw [gs j hj] at e
      rw [oj j hj]
      exact r.ios j es e
  · obtain ⟨h1, es, h2⟩ := r.iok j a e
    refine ⟨h1, es, ?_⟩
    rw [gs j fun z => ?_]
    · exact h2
    · rw [z] at h2
      exact absurd h2 (noio_io hi es)
  · obtain ⟨o, e⟩ := r.trk a z
    exact ⟨o, sm a o e⟩
theorem grow_set {i : Nat} {o : Option Addr} {H0 : Hp} (h : ∀ a, o = some a → H0 a = none) : Grow (av C ow) (av C (owSet ow i o)) H0 := fun a z => (av_set z).imp id (h a)
end
variable {i : Nat} {x : Str}
def sSet (i : Nat) (se : SE) : SS := fun S => (se S).st fun d S' => put i (.val d) S'
/-- what follows a store of a value -/
theorem put_val {ow : Ow} {S : En} {σ : St} {H : Hp} {D : Ends} {d : PyData} {v : V} (r : Rl X.K C ow S σ H) (rd : RD X.K (av C ow) H v d) (k : sst X.K X.mg W C ow H D (put i (.val d) S)) : D.nx (σ.set i (some v)) H := by
  unfold put at k
  by_cases hi : noio S[i]? = true
  · rw [if_pos hi] at k
    exact k _ _ H (r.putV hi rd) (Ext.refl _ _) (grow_set fun a z => by cases z)
  · rw [if_neg hi] at k
    exact k.elim
theorem s_set {tg : Expr} (he : PE X e (xE X.K X.mg W C se)) (hp : ∀ {t : TE}, PE X e t → PS X (.Assign [tg] e pos) (tAsg t (gName i))) : PS X (.Assign [tg] e pos) (xS X.K X.mg W C (sSet i se)) :=
  ps_imp (hp he) fun D σ H ⟨ow, S, r, q⟩ => seqS r q fun S' d v H' r' x rd k => put_val r' rd k
def sSetNew (i : Nat) (sn : SN) : SS := fun S => (sn S).st fun ds S' => put i (.own ds) S'
theorem put_new {ow : Ow} {S : En} {σ : St} {H H' : Hp} {D : Ends} {ds : List PyData} {v : V} (rd : relN X.K C ow σ S H H' v ds) (k : sst X.K X.mg W C ow H D (put i (.own ds) S)) : D.nx (σ.set i (some v)) H' := by
  obtain ⟨p, vs, Hm, h1, h2, h3, h4, h5, h6⟩ := rd
  unfold put at k
  by_cases hi : noio S[i]? = true
  · rw [if_pos hi] at k
    subst h1
    subst h3
    exact k _ _ _ (h5.putN hi h2 h6) (h4.trans (Grow.refl _ _) (Ext.same (same_new h2))) (Grow.trans (Grow.refl _ _) h4 (grow_set fun a z => by cases z; exact h2))
  · rw [if_neg hi] at k
    exact k.elim
theorem s_setNew {tg : Expr} (he : PE X e (xN X.K X.mg W C sn)) (hp : ∀ {t : TE}, PE X e t → PS X (.Assign [tg] e pos) (tAsg t (gName i))) : PS X (.Assign [tg] e pos) (xS X.K X.mg W C (sSetNew i sn)) :=
  ps_imp (hp he) fun D σ H ⟨ow, S, r, q⟩ => by
    change sst X.K X.mg W C ow H D ((sn S).st fun ds S' => put i (.own ds) S') at q
    refine ⟨ow, S, r, ?_⟩
    show pst X.K X.mg W C (relN X.K) ow σ H _ (sn S)
    cases e : sn S with
    | no => rw [e] at q; exact q
    | ex c S' => rw [e] at q; exact fun H' r' x => q ow σ H' r' x (Grow.refl _ _)
    | ok ds S' =>
      rw [e] at q
      exact fun v H' r' x rd => put_new rd q
end
end Ds
end

section
set_option Elab.async false
set_option linter.all false
set_option maxRecDepth 100000
set_option maxHeartbeats 4000000
namespace Ds
open PySem PySem.Spec PyProof.Rows L2

section
variable {K : PySem.W.Frag} {mg : Str → Option Value} {C : Cn} {ow : Ow} {S S' : En} {σ : St} {H H' : Hp}
/-- behind a change of the lists that the slots in P own -/
theorem Rl.after (P : Nat → Prop) (r : Rl K C ow S σ H) (hlen : S'.length = S.length) (sh : ∀ i, ¬ P i → S'[i]? = S[i]?)
    (shP : ∀ i, P i → (∃ ds es, S[i]? = some (.own ds) ∧ S'[i]? = some (.own es)) ∨ (∃ ds es, S[i]? = some (.io ds) ∧ S'[i]? = some (.io es)))
    (e : ∀ a o, H a = some o → (∀ i, P i → ow i ≠ some a) → H' a = some o)
    (nw : ∀ i es a, P i → own? S'[i]? = some es → ow i = some a → ∃ vs, H' a = some (.lst vs) ∧ RDs K (av C ow) H' vs es) : Rl K C ow S' σ H' ∧ Ext (av C ow) H H' := by
  have x : Ext (av C ow) H H' := fun a o n h => e a o h fun i _ z => n (.inr ⟨i, z⟩)
  have tr : ∀ i, P i → ∀ a, ow i = some a → ∃ o, H' a = some o := fun i hi a h => by
    rcases shP i hi with ⟨ds, es, _, h2⟩ | ⟨ds, es, _, h2⟩
    · obtain ⟨vs, h3, _⟩ := nw i es a hi (by rw [h2]; rfl) h
      exact ⟨_, h3⟩
    · obtain ⟨vs, h3, _⟩ := nw i es a hi (by rw [h2]; rfl) h
      exact ⟨_, h3⟩
  have nP : ∀ i, P i → nn S[i]? = true ∧ nn S'[i]? = true := fun i hi => by
    rcases shP i hi with ⟨ds, es, h1, h2⟩ | ⟨ds, es, h1, h2⟩ <;> rw [h1, h2] <;> exact ⟨rfl, rfl⟩
  have nE : ∀ (i : Nat) dss, S'[i]? = some (.nst dss) ↔ S[i]? = some (.nst dss) := fun i dss => by
    by_cases hi : P i
    · obtain ⟨h1, h2⟩ := nP i hi
      constructor
      · intro z; rw [z] at h2; cases h2
      · intro z; rw [z] at h1; cases h1
    · rw [sh i hi]
  have nA : ∀ i j, P i → NstAt S j → j ≠ i := fun i j hi q => q.ne (nP i hi).1 (by
    have : i < S.length := by
      rcases shP i hi with ⟨ds, es, h1, h2⟩ | ⟨ds, es, h1, h2⟩ <;> exact (List.getElem?_eq_some_iff.mp h1).1
    have := r.ns.big
    omega)
  refine ⟨⟨hlen.trans r.len, fun i d h => ?_, fun i ds h => ?_, fun i a h => ?_, r.inj, fun i ds a h1 h2 => ?_, fun i ds h => ?_, fun i a h => ?_, fun a h => ?_, fun a o h1 h2 => ?_, r.ns.move (by rw [hlen]; exact r.ns.big) (fun j d q => (nE j d).mp q) (fun _ _ => rfl) (fun _ _ _ _ => rfl) (fun j a o q e1 e2 => e a o e2 fun i hi z => nA i j hi q (r.inj j i a e1 z)) (fun ws ds q => RDs.mono x (Grow.refl _ _) ds ws q) (fun _ _ _ _ z => z)⟩, x⟩
  · by_cases hi : P i
    · rcases shP i hi with ⟨ds, es, _, h2⟩ | ⟨ds, es, _, h2⟩ <;> rw [h2] at h <;> cases h
    · rw [sh i hi] at h
      obtain ⟨v, h1, h2⟩ := r.val i d h
      exact ⟨v, h1, RD.mono x (Grow.refl _ _) d v h2⟩
  · by_cases hi : P i
    · have : ∃ es, own? S[i]? = some es := by
        rcases shP i hi with ⟨ds, es, h1, _⟩ | ⟨ds, es, h1, _⟩ <;> exact ⟨ds, by rw [h1]; rfl⟩
      obtain ⟨es, h1⟩ := this
      obtain ⟨a, vs, h2, h3, h4, h5⟩ := r.own i es h1
      obtain ⟨ws, h6, h7⟩ := nw i ds a hi h h2
      exact ⟨a, ws, h2, h3, h6, h7⟩
    · rw [sh i hi] at h
      obtain ⟨a, vs, h2, h3, h4, h5⟩ := r.own i ds h
      refine ⟨a, vs, h2, h3, e a _ h4 fun j hj z => hi ?_, RDs.mono x (Grow.refl _ _) ds vs h5⟩
      rw [r.inj i j a h2 z]
      exact hj
  · by_cases hi : P i
    · rcases shP i hi with ⟨ds, es, _, h2⟩ | ⟨ds, es, _, h2⟩ <;> exact .inl ⟨es, by rw [h2]; rfl⟩
    · rw [sh i hi]
      exact (r.ows i a h).imp id fun z => z.of fun j d q => (nE j d).mpr q
  · by_cases hi : P i
    · rcases shP i hi with ⟨es, fs, h3, h4⟩ | ⟨es, fs, h3, h4⟩
      · exact r.frs i es a h3 h2
      · rw [h4] at h1; cases h1
    · rw [sh i hi] at h1
      exact r.frs i ds a h1 h2
  · by_cases hi : P i
    · rcases shP i hi with ⟨es, fs, h3, h4⟩ | ⟨es, fs, h3, h4⟩
      · rw [h4] at h; cases h
      · exact r.ios i es h3
    · rw [sh i hi] at h
      exact r.ios i ds h
  · obtain ⟨h1, ds, h2⟩ := r.iok i a h
    refine ⟨h1, ?_⟩
    by_cases hi : P i
    · rcases shP i hi with ⟨es, fs, h3, h4⟩ | ⟨es, fs, h3, h4⟩
      · rw [h3] at h2; cases h2
      · exact ⟨fs, h4⟩
    · exact ⟨ds, by rw [sh i hi]; exact h2⟩
  · obtain ⟨o, h1⟩ := r.trk a h
    by_cases hp : ∃ i, P i ∧ ow i = some a
    · obtain ⟨i, hi, z⟩ := hp
      exact tr i hi a z
    · exact ⟨o, e a o h1 fun i hi z => hp ⟨i, hi, z⟩⟩
  · refine e a o (r.ext a o h1 h2) fun i hi z => ?_
    rcases shP i hi with ⟨es, fs, h3, h4⟩ | ⟨es, fs, h3, h4⟩
    · rw [(r.frs i es a h3 z).1] at h1; cases h1
    · exact h2 i ((r.ios i es h3).trans z)
end

/-! ### a list in a slot, changed -/
def upO (x : Option Sl) (es : List PyData) : Option Sl := match x with
  | some (.own _) => some (.own es)
  | some (.io _) => some (.io es)
  | _ => none
def upL (i : Nat) (es : List PyData) (S : En) : En := match S[i]? with
  | some (.own _) => S.set i (.own es)
  | some (.io _) => S.set i (.io es)
  | _ => S
section
variable {K : PySem.W.Frag} {C : Cn} {ow : Ow} {S S' : En} {σ : St} {H H' : Hp}
theorem upL_len {i : Nat} {es : List PyData} : (upL i es S).length = S.length := by
  unfold upL
  split
  · exact List.length_set
  · exact List.length_set
  · rfl
theorem upL_ne {i j : Nat} {es : List PyData} (h : j ≠ i) : (upL i es S)[j]? = S[j]? := by
  unfold upL
  split
  · exact List.getElem?_set_ne (Ne.symm h)
  · exact List.getElem?_set_ne (Ne.symm h)
  · rfl
theorem upL_at {i : Nat} {ds es : List PyData} (h : own? S[i]? = some ds) : (∃ ds es', S[i]? = some (.own ds) ∧ (upL i es S)[i]? = some (.own es') ∧ es' = es) ∨ (∃ ds es', S[i]? = some (.io ds) ∧ (upL i es S)[i]? = some (.io es') ∧ es' = es) := by
  unfold upL
  cases e : S[i]? with
  | none => rw [e] at h; cases h
  | some x =>
    have hl : i < S.length := (List.getElem?_eq_some_iff.mp e).1
    cases x with
    | nil => rw [e] at h; cases h
    | val d => rw [e] at h; cases h
    | own d => exact .inl ⟨d, es, rfl, List.getElem?_set_self hl, rfl⟩
    | io d => exact .inr ⟨d, es, rfl, List.getElem?_set_self hl, rfl⟩
    | nst d => rw [e] at h; cases h
    | pair d ds => rw [e] at h; cases h
/-- the list of slot i becomes another -/
theorem Rl.up (r : Rl K C ow S σ H) {i : Nat} {ds es : List PyData} {a : Addr} {vs : List V} (h : own? S[i]? = some ds) (ha : ow i = some a) (rd : RDs K (av C ow) H vs es) :
    Rl K C ow (upL i es S) σ (upd H a (.lst vs)) ∧ Ext (av C ow) H (upd H a (.lst vs)) := by
  have x : Ext (av C ow) H (upd H a (.lst vs)) := fun b o n e => by
    rw [upd_ne (show b ≠ a from fun z => n (by rw [z]; exact .inr ⟨i, ha⟩))]
    exact e
  refine r.after (fun j => j = i) upL_len (fun j hj => upL_ne hj) (fun j hj => ?_) (fun b o e n => ?_) fun j fs b hj e1 e2 => ?_
  · subst hj
    rcases upL_at (es := es) h with ⟨d, e', h1, h2, _⟩ | ⟨d, e', h1, h2, _⟩
    · exact .inl ⟨d, e', h1, h2⟩
    · exact .inr ⟨d, e', h1, h2⟩
  · rw [upd_ne (show b ≠ a from fun z => n i rfl (by rw [z]; exact ha))]
    exact e
  · subst hj
    rw [ha] at e2; cases e2
    refine ⟨vs, upd_same, ?_⟩
    have : fs = es := by
      rcases upL_at (es := es) h with ⟨d, e', h1, h2, h3⟩ | ⟨d, e', h1, h2, h3⟩ <;> rw [h2] at e1 <;> cases e1 <;> exact h3
    rw [this]
    exact RDs.mono x (Grow.refl _ _) es vs rd
end
section
variable {X : Cx} {W : WX} {C : Cn} {pos : Pos} {e c : Expr} {se : SE} {i : Nat}
/-- l.append(e) -/
def sApp (i : Nat) (se : SE) : SE := fun S => (se S).bind fun d S1 => match own? S1[i]? with
  | some ds => if ds.length < sizeLine then .ok .none (upL i (ds ++ [d]) S1) else .no
  | none => .no
theorem t_app {σ : St} {H : Hp} {Q : VK} (h : xE X.K X.mg W C (fun S => if (own? S[i]?).isSome = true then sApp i se S else .no) σ H Q) : tBM X.K "list" rAppend (tVar i) (tCons (xE X.K X.mg W C se) tNil) σ H Q := by
  obtain ⟨ow, S, r, q⟩ := h
  change pst X.K X.mg W C (relE X.K) ow σ H Q (if (own? S[i]?).isSome = true then sApp i se S else .no) at q
  cases e : own? S[i]? with
  | none => rw [e] at q; exact q.elim
  | some ds =>
    rw [e] at q
    obtain ⟨a, vs, h0, h1, h2, h3⟩ := r.own i ds e
    refine ⟨.ref a, h1, .inl ⟨rfl, vs, SqL.of h2⟩, seq early_E r q fun S1 d x H1 r1 x1 rd k1 => ?_⟩
    cases e1 : own? S1[i]? with
    | none => rw [e1] at k1; exact k1.elim
    | some es =>
      rw [e1] at k1
      obtain ⟨b, ws, g0, g1, g2, g3⟩ := r1.own i es e1
      rw [h0] at g0; cases g0
      by_cases z : es.length < sizeLine
      · simp only [if_pos z] at k1
        obtain ⟨r2, x2⟩ := r1.up (es := es ++ [d]) (vs := ws ++ [x]) e1 h0 (g3.append (.cons rd .nil))
        exact ⟨a, ws, x, rfl, rfl, g2, by rw [g3.len]; exact z, k1 _ _ r2 x2 .non⟩
      · simp only [if_neg z] at k1
        exact k1.elim
def sAppend (i : Nat) (se : SE) : SE := fun S => if (own? S[i]?).isSome = true then sApp i se S else .no
theorem e_app (hp : ∀ {t : TE}, PE X e t → PE X c (tBM X.K "list" rAppend (tVar i) (tCons t tNil))) (he : PE X e (xE X.K X.mg W C se)) : PE X c (xE X.K X.mg W C (sAppend i se)) :=
  pe_imp (hp he) fun _ _ _ h => t_app h
/-- l.clear() -/
def sClear (i : Nat) : SE := fun S => match own? S[i]? with
  | some _ => .ok .none (upL i [] S)
  | none => .no
theorem e_clear (hp : PE X c (tBM0 X.K "list" rClear (tVar i))) : PE X c (xE X.K X.mg W C (sClear i)) := pe_imp hp fun σ H Q ⟨ow, S, r, q⟩ => by
  change pst X.K X.mg W C (relE X.K) ow σ H Q (sClear i S) at q
  unfold sClear at q
  cases e : own? S[i]? with
  | none => rw [e] at q; exact q.elim
  | some ds =>
    rw [e] at q
    obtain ⟨a, vs, h0, h1, h2, h3⟩ := r.own i ds e
    obtain ⟨r2, x2⟩ := r.up (es := []) (vs := []) e h0 .nil
    exact ⟨.ref a, h1, .inl ⟨rfl, vs, SqL.of h2⟩, a, vs, rfl, rfl, h2, q _ _ r2 x2 .non⟩
/-- l.pop(e) -/
def popI (ds : List PyData) (d : PyData) : Option (PyData × List PyData) := match d with
  | .int k => if 0 ≤ k ∧ k < ds.length ∧ k < 2 ^ 63 then (ds[k.toNat]?).map fun x => (x, ds.eraseIdx k.toNat) else none
  | _ => none
def sPop (i : Nat) (se : SE) : SE := fun S => if (own? S[i]?).isSome = true then (se S).bind fun d S1 => match own? S1[i]? with
  | some ds => match popI ds d with
    | some (x, es) => .ok x (upL i es S1)
    | none => .no
  | none => .no
  else .no
theorem e_pop (hp : ∀ {t : TE}, PE X e t → PE X c (tBM X.K "list" rPopAt (tVar i) (tCons t tNil))) (he : PE X e (xE X.K X.mg W C se)) : PE X c (xE X.K X.mg W C (sPop i se)) :=
  pe_imp (hp he) fun σ H Q ⟨ow, S, r, q⟩ => by
    change pst X.K X.mg W C (relE X.K) ow σ H Q (sPop i se S) at q
    unfold sPop at q
    cases e : own? S[i]? with
    | none => rw [e] at q; exact q.elim
    | some ds =>
      rw [e] at q
      obtain ⟨a, vs, h0, h1, h2, h3⟩ := r.own i ds e
      refine ⟨.ref a, h1, .inl ⟨rfl, vs, SqL.of h2⟩, seq early_E r q fun S1 d x H1 r1 x1 rd k1 => ?_⟩
      cases e1 : own? S1[i]? with
      | none => rw [e1] at k1; exact k1.elim
      | some es =>
        rw [e1] at k1
        obtain ⟨b, ws, g0, g1, g2, g3⟩ := r1.own i es e1
        rw [h0] at g0; cases g0
        cases rd with
        | int j =>
          change pst X.K X.mg W C (relE X.K) ow σ H1 Q (match popI es (.int j) with | some (x, es) => .ok x (upL i es S1) | none => .no) at k1
          unfold popI at k1
          by_cases z : 0 ≤ j ∧ j < es.length ∧ j < 2 ^ 63
          · simp only [if_pos z] at k1
            have lt : j.toNat < es.length := by omega
            rw [List.getElem?_eq_getElem lt] at k1
            obtain ⟨y, hy, ry⟩ := g3.get (List.getElem?_eq_getElem lt)
            obtain ⟨r2, x2⟩ := r1.up (es := es.eraseIdx j.toNat) (vs := ws.eraseIdx j.toNat) e1 h0 (g3.erase _)
            have hw : ws.length = es.length := g3.len
            exact ⟨a, ws, j, j.toNat, y, rfl, rfl, g2, by omega, z.2.2, (ixN_seq (show ixN ws.length j = some j.toNat by unfold ixN; rw [if_pos z.1, if_pos (by omega)])).1, hy, k1 _ _ r2 x2 (RD.mono x2 (Grow.refl _ _) _ _ ry)⟩
          · simp only [if_neg z] at k1
            exact k1.elim
        | _ => exact k1.elim
end
end Ds
end

section
set_option Elab.async false
set_option linter.all false
set_option maxRecDepth 100000
set_option maxHeartbeats 4000000
namespace Ds
open PySem PySem.Spec PyProof.Rows L2

/-! ### the promise of a def -/
def argOk (K : PySem.W.Frag) (av : Addr → Prop) (H : Hp) (v : V) : Sl → Prop
  | .val d => RD K av H v d
  | .io ds => ∃ a vs, v = .ref a ∧ av a ∧ H a = some (.lst vs) ∧ RDs K av H vs ds
  | _ => False
structure Pre (K : PySem.W.Frag) (av : Addr → Prop) (H : Hp) (vs : List V) (S0 : En) : Prop where
  len : S0.length = vs.length
  arg : ∀ (i : Nat) x, S0[i]? = some x → ∃ v, vs[i]? = some v ∧ argOk K av H v x
  dis : ∀ (i j : Nat) ds es a, S0[i]? = some (.io ds) → S0[j]? = some (.io es) → vs[i]? = some (.ref a) → vs[j]? = some (.ref a) → i = j
  trk : ∀ a, av a → ∃ o, H a = some o
structure Post (K : PySem.W.Frag) (av : Addr → Prop) (H : Hp) (vs : List V) (S0 S1 : En) (H' : Hp) : Prop where
  ext : ∀ a o, H a = some o → (∀ (i : Nat) ds, S0[i]? = some (.io ds) → vs[i]? ≠ some (.ref a)) → H' a = some o
  io : ∀ (i : Nat) ds, S0[i]? = some (.io ds) → ∃ es, S1[i]? = some (.io es) ∧ ∀ a, vs[i]? = some (.ref a) → ∃ ws, H' a = some (.lst ws) ∧ RDs K av H' ws es
abbrev Mf := En → R Sl
def spM (K : PySem.W.Frag) (mg : Str → Option Value) (m : Mf) (n : Nat) : Sp := fun vs H Q E => vs.length = n ∧ ∃ av S0, Pre K av H vs S0 ∧ match m S0 with
  | .ok (.val d) S1 => ∀ v H', Post K av H vs S0 S1 H' → RD K av H' v d → Q v H'
  | .ok (.own ds) S1 => ∀ p ws Hm, Post K av H vs S0 S1 Hm → Hm p = none → RDs K av Hm ws ds → Q (.ref p) (upd Hm p (.lst ws))
  | .ok (.pair d ds) S1 => ∀ q p x ws o Hm, Post K av H vs S0 S1 Hm → Hm p = none → Hm q = none → p ≠ q → RD K av Hm x d → RDs K av Hm ws ds → Q (.ref q) (upd (upd Hm p (.lst ws)) q (.frz o (.tup [x, .ref p])))
  | .ex c S1 => ∀ H', Post K av H vs S0 S1 H' → E (clOf mg c) none H'
  | _ => False
/-- a body's def -/
def mB (N : Nat) (s : SS) : Mf := fun S0 => match s (S0 ++ List.replicate (N - S0.length) .nil) with
  | .rt r S => .ok r S
  | .nx S => .ok (.val .none) S
  | .ex c S => .ex c S
  | _ => .no
section
variable {P : Program} {w : World} {K : PySem.W.Frag} {mg : Str → Option Value} {base : Heap}
def ioOf (S0 : En) (vs : List V) : Ow := fun i => match S0[i]?, vs[i]? with
  | some (.io _), some (.ref a) => some a
  | _, _ => none
theorem ioOf_some {S0 : En} {vs : List V} {i : Nat} {a : Addr} (h : ioOf S0 vs i = some a) : ∃ ds, S0[i]? = some (.io ds) ∧ vs[i]? = some (.ref a) := by
  unfold ioOf at h
  split at h
  · rename_i ds b e1 e2
    cases h
    exact ⟨ds, e1, e2⟩
  · cases h
theorem ioOf_mk {S0 : En} {vs : List V} {i : Nat} {a : Addr} {ds : List PyData} (h : S0[i]? = some (.io ds)) (h2 : vs[i]? = some (.ref a)) : ioOf S0 vs i = some a := by
  unfold ioOf
  rw [h, h2]
theorem start_get {N : List Str} {vs : List V} {i : Nat} {v : V} (h : vs[i]? = some v) : (L2.start N vs)[i]? = some (some v) := by
  have hl := (List.getElem?_eq_some_iff.mp h).1
  unfold L2.start
  rw [List.getElem?_append_left (by rw [List.length_map]; exact hl), List.getElem?_map, h]
  rfl
/-- the state at a def's entry -/
theorem Pre.start {av' : Addr → Prop} {H : Hp} {vs : List V} {S0 : En} {N : List Str} (p : Pre K av' H vs S0) (hN : vs.length ≤ N.length) (hb : N.length ≤ 4096) :
    Rl K ⟨av', H, ioOf S0 vs⟩ (ioOf S0 vs) (S0 ++ List.replicate (N.length - S0.length) .nil) (L2.start N vs) H := by
  have hl := p.len
  have ga : ∀ {i : Nat} {x : Sl}, (S0 ++ List.replicate (N.length - S0.length) .nil)[i]? = some x → x = .nil ∨ S0[i]? = some x := fun {i x} h => by
    by_cases hi : i < S0.length
    · rw [List.getElem?_append_left hi] at h
      exact .inr h
    · rw [List.getElem?_append_right (Nat.le_of_not_lt hi)] at h
      exact .inl (List.eq_of_mem_replicate (List.mem_of_getElem? h))
  have gb : ∀ {i : Nat} {x : Sl}, S0[i]? = some x → (S0 ++ List.replicate (N.length - S0.length) .nil)[i]? = some x := fun {i x} h => by
    rw [List.getElem?_append_left (List.getElem?_eq_some_iff.mp h).1]
    exact h
  have lt : ∀ a, av ⟨av', H, ioOf S0 vs⟩ (ioOf S0 vs) a → av' a := fun a z => by
    rcases z with z | ⟨i, z⟩
    · exact z
    · obtain ⟨ds, h1, h2⟩ := ioOf_some z
      obtain ⟨v, h3, b, ws, h4, h5, _⟩ := p.arg i _ h1
      rw [h2] at h3; cases h3; cases h4
      exact h5
  have nn0 : ∀ (i : Nat) dss, (S0 ++ List.replicate (N.length - S0.length) .nil)[i]? ≠ some (.nst dss) := fun i dss h => by
    rcases ga h with z | z
    · cases z
    · obtain ⟨v, _, h2⟩ := p.arg i _ z
      exact h2.elim
  refine ⟨?_, fun i d h => ?_, fun i ds h => ?_, fun i a h => ?_, fun i j a h1 h2 => ?_, fun i ds a h1 _ => ?_, fun i ds h => rfl, fun i a h => ?_, p.trk, fun a o h _ => h, ⟨by rw [List.length_append, List.length_replicate]; omega, fun i dss h => absurd h (nn0 i dss), fun i a h => ?_⟩⟩
  · unfold L2.start
    rw [List.length_append, List.length_append, List.length_replicate, List.length_map, List.length_replicate]
    omega
  · rcases ga h with z | z
    · cases z
    · obtain ⟨v, h1, h2⟩ := p.arg i _ z
      exact ⟨v, start_get h1, rd_less h2 lt⟩
  · have : ∃ es, (S0 ++ List.replicate (N.length - S0.length) .nil)[i]? = some (.io es) ∧ es = ds := by
      cases e : (S0 ++ List.replicate (N.length - S0.length) .nil)[i]? with
      | none => rw [e] at h; cases h
      | some x =>
        rw [e] at h
        cases x with
        | nil => cases h
        | val d => cases h
        | own d =>
          rcases ga e with z | z
          · cases z
          · obtain ⟨v, _, h2⟩ := p.arg i _ z
            exact h2.elim
        | io d => exact ⟨d, rfl, by cases h; rfl⟩
        | nst d => cases h
        | pair d ds => cases h
    obtain ⟨es, e, z⟩ := this
    subst z
    rcases ga e with z | z
    · cases z
    · obtain ⟨v, h1, b, ws, h4, h5, h6, h7⟩ := p.arg i _ z
      subst h4
      exact ⟨b, ws, ioOf_mk z h1, start_get h1, h6, rds_less h7 lt⟩
  · obtain ⟨ds, h1, h2⟩ := ioOf_some h
    exact .inl ⟨ds, by rw [gb h1]; rfl⟩
  · obtain ⟨ds, e1, e2⟩ := ioOf_some h1
    obtain ⟨es, e3, e4⟩ := ioOf_some h2
    exact p.dis i j ds es a e1 e3 e2 e4
  · rcases ga h1 with z | z
    · cases z
    · obtain ⟨v, _, h2⟩ := p.arg i _ z
      exact h2.elim
  · obtain ⟨ds, h1, h2⟩ := ioOf_some h
    refine ⟨?_, ds, gb h1⟩
    obtain ⟨v, h3, b, ws, h4, h5, _⟩ := p.arg i _ h1
    rw [h2] at h3; cases h3; cases h4
    exact h5
  · rcases h with ⟨d, h⟩ | ⟨m, k, d, _, h, _⟩
    · exact absurd h (nn0 i d)
    · exact absurd h (nn0 m d)
/-- what is true behind the body -/
theorem Pre.post {av' : Addr → Prop} {H H' : Hp} {vs : List V} {S0 S' : En} {σ' : St} {ow' : Ow} (p : Pre K av' H vs S0) (r : Rl K ⟨av', H, ioOf S0 vs⟩ ow' S' σ' H') : Post K av' H vs S0 S' H' := by
  refine ⟨fun a o h n => r.ext a o h fun i z => ?_, fun i ds h => ?_⟩
  · obtain ⟨ds, h1, h2⟩ := ioOf_some z
    exact n i ds h1 h2
  · obtain ⟨v, h3, b, ws, h4, h5, _⟩ := p.arg i _ h
    subst h4
    have hio := ioOf_mk h h3
    obtain ⟨_, es, h6⟩ := r.iok i b hio
    refine ⟨es, h6, fun a ha => ?_⟩
    rw [h3] at ha; cases ha
    obtain ⟨c, us, g1, g2, g3, g4⟩ := r.own i es (by rw [h6]; rfl)
    have e : c = b := by
      have z := r.ios i es h6
      rw [g1] at z
      exact Option.some.inj (z.symm.trans hio)
    subst e
    exact ⟨us, g3, rds_less g4 fun a z => .inl z⟩
/-- the promise of a def, where nothing is being shown around it -/
structure FnG (P : Program) (w : World) (K : PySem.W.Frag) (mg : Str → Option Value) (base : Heap) (k : Nat) (f : Addr) (fd : FuncData) (ps : List Str) (sp : Sp) : Prop where
  len : ∀ vs H Q E, sp vs H Q E → vs.length = ps.length
  run : ∀ (A : Around) (outer : List Env) (s : Shared) (H : Hp) (args : Args) (us : List Value) (vs : List V) (Q : VK) (E : XK), A.guards = some [] → Room k A → Env0 P w K mg base A outer s H → BindsTo s fd args (ps.zip us) → Vals vs us → sp vs H Q E →
    codeAny (model P w) A (.call (.ref f) args) (CR (L2.CX P w) outer P w H s Q E) s
theorem FnG.mono {j k : Nat} {f : Addr} {fd : FuncData} {ps : List Str} {sp : Sp} (F : FnG P w K mg base j f fd ps sp) (h : j ≤ k) : FnG P w K mg base k f fd ps sp :=
  ⟨F.len, fun A outer s H args us vs Q E g r => F.run A outer s H args us vs Q E g (r.mono h)⟩
/-- by its body -/
theorem fn_byBody {x qual : Str} {st : Stmt} {f : Addr} {fd : FuncData} {N ps : List Str} {k : Nat} {sp : Sp} (F : Fun K x qual st f fd) (S : FnScope N ps (defScope st)) (len : ∀ vs H Q E, sp vs H Q E → vs.length = ps.length)
    (hbody : ∀ (cdv : Value) (A : Around) (outer : List Env) (s : Shared) (H : Hp) (vs : List V) (Q : VK) (E : XK), A.guards = some [] → Room k (A.deeper (envOfC qual (defScope st) s.heap.objs.size f cdv)) → sp vs H Q E →
      ∃ t, PSs (cxOf (L2.CX P w) P w K mg base N qual (defScope st) f cdv A outer s H E) (defBody st) t ∧ t { nx := fun _ H' => Q .non H', rt := Q } (L2.start N vs) H) : FnG P w K mg base (k + 1) f fd ps sp := by
  obtain ⟨oc, od, kV, doc, pm, an, cdv, ct, osl, rfl, lk, hcd⟩ := F.ex
  refine ⟨len, fun A outer s H args us vs Q E gd hr e0 hbt rv hsp => ?_⟩
  have hl := len _ _ _ _ hsp
  have up : ∀ b o, base.get? b = some o → s.heap.get? b = some o := fun b o e => (e0.bs b o e).1
  have KX : K.In s.heap := e0.mod.kin.keeps up
  have lim : s.heap.NoLimit := e0.mod.nolimit.keeps up
  refine codeAny_call_function hr.depth (KX _ _ lk) rfl S.co S.gen rfl (PySem.W.codeRec_of KX hcd) (hbt _ _ _ _ ?_)
  refine wpAny_newFunctionEnv_cells S.kind (fun ⟨n, v⟩ hy => (S.par n (List.of_mem_zip hy).1).imp id fun q => ⟨q, PySem.W.cellsFrom_some _ _ _ (.inl q)⟩) fun env he s1 xs => ?_
  subst he
  refine ⟨lim.keeps xs.toInCall.keep, codeAny_func ?_⟩
  obtain ⟨t, ht, hq⟩ := hbody cdv A outer s H vs Q E gd (hr.deeper _) hsp
  have I := inv_start (CX := L2.CX P w) (E := E) S hr.hd e0 hl rv xs
  refine wpAny_mono (ht.run [] s1 (L2.start N vs) H _ I hq) (fun fl s' hs => ?_) fun e s' hs => hs
  cases fl with
  | ret u => exact let ⟨v, σ', H', J, rr, q⟩ := hs; ⟨v, H', J.os, J.bare, J.base, J.hok, rr, q⟩
  | next => exact let ⟨σ', H', J, q⟩ := hs; ⟨V.non, H', J.os, J.bare, J.base, J.hok, rfl, q⟩
  | brk => exact let ⟨_, _, _, q⟩ := hs; q.elim
  | cont => exact let ⟨_, _, _, q⟩ := hs; q.elim
theorem fn_ok {x qual : Str} {st : Stmt} {f : Addr} {fd : FuncData} {N ps : List Str} {k : Nat} {s : SS} (F : Fun K x qual st f fd) (S : FnScope N ps (defScope st))
    (hb : ∀ (cdv : Value) (A : Around) (outer : List Env) (sh : Shared) (H : Hp) (E : XK) (C : Cn), A.guards = some [] → Room k (A.deeper (envOfC qual (defScope st) sh.heap.objs.size f cdv)) →
      PSs (cxOf (L2.CX P w) P w K mg base N qual (defScope st) f cdv A outer sh H E) (defBody st) (xS K mg (fun cls d _ H => E cls d H) C s)) (hbig : N.length ≤ 4096 := by decide) :
    FnG P w K mg base (k + 1) f fd ps (spM K mg (mB N.length s) ps.length) := by
  have hN : ps.length ≤ N.length := by
    have := S.pre
    rw [← this, List.length_take]
    exact Nat.min_le_right _ _
  refine fn_byBody F S (fun vs H Q E h => h.1) fun cdv A outer sh H vs Q E gd hr h => ?_
  obtain ⟨hl, av', S0, p, h⟩ := h
  refine ⟨_, hb cdv A outer sh H E ⟨av', H, ioOf S0 vs⟩ gd hr, ioOf S0 vs, _, p.start (by rw [hl]; exact hN) hbig, ?_⟩
  unfold mB at h
  cases e : s (S0 ++ List.replicate (N.length - S0.length) .nil) with
  | nx S' =>
    rw [e] at h
    exact fun ow' σ' H' r _ _ => h .non H' (p.post r) .non
  | rt d S' =>
    rw [e] at h
    cases d with
    | val d => exact fun ow' σ' v H' r _ _ rd => h v H' (p.post r) (rd_less rd fun a z => .inl z)
    | own ds =>
      intro ow' σ' v H' r _ _ rd
      obtain ⟨q, ws, Hm, ow2, S2, h1, h2, h3, h4, h5, h6, h7, h8⟩ := rd
      subst h1
      subst h5
      refine h q ws Hm ⟨(p.post h7).ext, fun i ds' hi => ?_⟩ h4 (rds_less h6 fun a z => .inl z)
      obtain ⟨es, g1, g2⟩ := (p.post h7).io i ds' hi
      obtain ⟨fs, g3, _⟩ := (p.post r).io i ds' hi
      have := h8 i fs g3
      rw [g1] at this
      cases this
      exact ⟨es, g3, g2⟩
    | pair d ds =>
      intro ow' σ' v H' r _ _ rd
      obtain ⟨q, b, x, ws, o, Hm, ow2, S2, h1, h2, h3, h4, h4b, h4c, h5, h6a, h6, h7, h8⟩ := rd
      subst h1
      subst h5
      refine h q b x ws o Hm ⟨(p.post h7).ext, fun i ds' hi => ?_⟩ h4 h4b h4c (rd_less h6a fun a z => .inl z) (rds_less h6 fun a z => .inl z)
      obtain ⟨es, g1, g2⟩ := (p.post h7).io i ds' hi
      obtain ⟨fs, g3, _⟩ := (p.post r).io i ds' hi
      have := h8 i fs g3
      rw [g1] at this
      cases this
      exact ⟨es, g3, g2⟩
    | nil => exact h.elim
    | io ds => exact h.elim
    | nst ds => exact h.elim
  | bk S' => rw [e] at h; exact h.elim
  | ct S' => rw [e] at h; exact h.elim
  | ex c S' =>
    rw [e] at h
    exact fun ow' σ' H' r _ _ => h H' (p.post r)
  | no => rw [e] at h; exact h.elim
end

/-! ### a call -/
inductive Ag where
  | v (d : PyData)
  /-- the list of this slot, to be changed -/
  | r (i : Nat)
abbrev SG := En → R (List Ag)
def relG (K : PySem.W.Frag) : Rel (List V) (List Ag) := fun C ow σ S' H H' vs gs => vs.length = gs.length ∧ ∀ (i : Nat) g, gs[i]? = some g → ∃ v, vs[i]? = some v ∧ match g with
  | .v d => RD K (av C ow) H' v d
  | .r j => ∃ a, v = .ref a ∧ ow j = some a
theorem early_G {K : PySem.W.Frag} : Early K (relG K) := fun _ _ _ _ _ _ _ _ _ _ _ _ _ _ h => h
abbrev xAg (K : PySem.W.Frag) (mg : Str → Option Value) (W : WX) (C : Cn) (s : SG) : TA := xG K mg W C (relG K) s
section
variable {X : Cx} {W : WX} {C : Cn} {pos : Pos} {e : Expr} {es : List Expr} {se : SE} {sg : SG} {i : Nat}
def sG0 : SG := fun S => .ok [] S
def sGv (se : SE) (sg : SG) : SG := fun S => (se S).bind fun d S1 => (sg S1).bind fun gs S2 => .ok (.v d :: gs) S2
def sGr (i : Nat) (sg : SG) : SG := fun S => if (own? S[i]?).isSome = true then (sg S).bind fun gs S2 => .ok (.r i :: gs) S2 else .no
theorem g_nil : PA X [] (xAg X.K X.mg W C sG0) := pa_imp pa_nil fun σ H Q ⟨ow, S, rl, q⟩ => pst_ok (mg := X.mg) (W := W) (rel := relG X.K) (d := []) rl q ⟨rfl, fun i g h => by simp at h⟩
theorem g_val (ha : PE X e (xE X.K X.mg W C se)) (hr : PA X es (xAg X.K X.mg W C sg)) (hs : starEach (e :: es) X.env = (false, eval e X.env) :: starEach es X.env := by rfl) : PA X (e :: es) (xAg X.K X.mg W C (sGv se sg)) :=
  pa_imp (pa_cons ha hr hs) fun σ H Q ⟨ow, S, rl, q⟩ => seq early_G rl q fun S1 d x H1 r1 x1 rd k1 => seq early_G r1 k1 fun S2 gs vs H2 r2 x2 rg k2 => pst_ok r2 k2 (by
    refine ⟨by rw [List.length_cons, List.length_cons, rg.1], fun i g h => ?_⟩
    cases i with
    | zero =>
      obtain rfl : Ag.v d = g := by simpa using h
      exact ⟨x, rfl, RD.mono x2 (Grow.refl _ _) d x rd⟩
    | succ i => exact rg.2 i g (by simpa using h))
theorem g_ref (ha : PE X e (tVar i)) (hr : PA X es (xAg X.K X.mg W C sg)) (hs : starEach (e :: es) X.env = (false, eval e X.env) :: starEach es X.env := by rfl) : PA X (e :: es) (xAg X.K X.mg W C (sGr i sg)) :=
  pa_imp (pa_cons ha hr hs) fun σ H Q ⟨ow, S, rl, q⟩ => by
    change pst X.K X.mg W C (relG X.K) ow σ H Q (sGr i sg S) at q
    unfold sGr at q
    cases e : own? S[i]? with
    | none => rw [e] at q; exact q.elim
    | some ds =>
      rw [e] at q
      obtain ⟨a, vs, h0, h1, h2, h3⟩ := rl.own i ds e
      refine ⟨.ref a, h1, seq early_G rl q fun S2 gs vs H2 r2 x2 rg k2 => pst_ok r2 k2 ?_⟩
      refine ⟨by rw [List.length_cons, List.length_cons, rg.1], fun j g h => ?_⟩
      cases j with
      | zero =>
        obtain rfl : Ag.r i = g := by simpa using h
        exact ⟨.ref a, rfl, a, rfl, h0⟩
      | succ j => exact rg.2 j g (by simpa using h)
/-- the callee's slots -/
def toSl (S : En) : Ag → Option Sl
  | .v d => some (.val d)
  | .r i => (own? S[i]?).map .io
def refs (gs : List Ag) : List Nat := gs.filterMap fun g => match g with
  | .r i => some i
  | _ => none
def toSls (S : En) : List Ag → Option En
  | [] => some []
  | g :: gs => match toSl S g, toSls S gs with
    | some x, some r => some (x :: r)
    | _, _ => none
def argS (S : En) (gs : List Ag) : Option En := if (refs gs).Nodup then toSls S gs else none
theorem toSls_get {S : En} : ∀ {gs : List Ag} {S0 : En}, toSls S gs = some S0 → S0.length = gs.length ∧ ∀ (k : Nat) x, S0[k]? = some x → ∃ g, gs[k]? = some g ∧ toSl S g = some x
  | [], S0, h => by
    cases h
    exact ⟨rfl, fun k x e => by simp at e⟩
  | g :: gs, S0, h => by
    unfold toSls at h
    split at h
    · rename_i x r e1 e2
      cases h
      obtain ⟨h1, h2⟩ := toSls_get e2
      refine ⟨by rw [List.length_cons, List.length_cons, h1], fun k y e => ?_⟩
      cases k with
      | zero =>
        obtain rfl : x = y := by simpa using e
        exact ⟨g, rfl, e1⟩
      | succ k =>
        obtain ⟨g', h3, h4⟩ := h2 k y (by simpa using e)
        exact ⟨g', by simpa using h3, h4⟩
    · cases h
theorem mem_refs {gs : List Ag} {i : Nat} : i ∈ refs gs ↔ Ag.r i ∈ gs := by
  unfold refs
  rw [List.mem_filterMap]
  constructor
  · rintro ⟨g, h1, h2⟩
    cases g with
    | v d => cases h2
    | r j => cases h2; exact h1
  · exact fun h => ⟨.r i, h, rfl⟩
theorem refs_at {gs : List Ag} {i : Nat} (hn : (refs gs).Nodup) : ∀ (j k : Nat), gs[j]? = some (.r i) → gs[k]? = some (.r i) → j = k := by
  induction gs with
  | nil => intro j k h; simp at h
  | cons g gs ih =>
    intro j k h1 h2
    have tail : (refs gs).Nodup := by
      cases g with
      | v d => exact hn
      | r m => exact (List.nodup_cons.mp (show (m :: refs gs).Nodup from hn)).2
    have head : g = .r i → Ag.r i ∉ gs := fun e z => by
      subst e
      exact (List.nodup_cons.mp (show (i :: refs gs).Nodup from hn)).1 (mem_refs.mpr z)
    cases j with
    | zero =>
      cases k with
      | zero => rfl
      | succ k => exact absurd (List.mem_of_getElem? (by simpa using h2)) (head (by simpa using h1))
    | succ j =>
      cases k with
      | zero => exact absurd (List.mem_of_getElem? (by simpa using h1)) (head (by simpa using h2))
      | succ k => rw [ih tail j k (by simpa using h1) (by simpa using h2)]
/-- the lists come back -/
def back : List Ag → En → En → En
  | .r i :: gs, .io es :: T, S => back gs T (upL i es S)
  | _ :: gs, _ :: T, S => back gs T S
  | _, _, S => S
theorem back_spec : ∀ (gs : List Ag) (T S : En), (refs gs).Nodup → (back gs T S).length = S.length ∧ (∀ j, j ∉ refs gs → (back gs T S)[j]? = S[j]?) ∧
    ∀ (k i : Nat) es, gs[k]? = some (.r i) → T[k]? = some (.io es) → (∃ ds, own? S[i]? = some ds) → (∃ ds, S[i]? = some (.own ds) ∧ (back gs T S)[i]? = some (.own es)) ∨ (∃ ds, S[i]? = some (.io ds) ∧ (back gs T S)[i]? = some (.io es))
  | [], T, S, _ => ⟨rfl, fun _ _ => rfl, fun k i es h => by simp at h⟩
  | g :: gs, [], S, _ => by
    have e : back (g :: gs) [] S = S := by cases g <;> rfl
    rw [e]
    exact ⟨rfl, fun _ _ => rfl, fun k i es _ h => by simp at h⟩
  | .v d :: gs, x :: T, S, hn => by
    obtain ⟨h1, h2, h3⟩ := back_spec gs T S hn
    have e : back (.v d :: gs) (x :: T) S = back gs T S := by cases x <;> rfl
    rw [e]
    refine ⟨h1, h2, fun k i es e1 e2 => ?_⟩
    cases k with
    | zero => simp at e1
    | succ k => exact h3 k i es (by simpa using e1) (by simpa using e2)
  | .r j :: gs, x :: T, S, hn => by
    have hn' := List.nodup_cons.mp (show (j :: refs gs).Nodup from hn)
    by_cases hx : ∃ fs, x = .io fs
    · obtain ⟨fs, rfl⟩ := hx
      obtain ⟨h1, h2, h3⟩ := back_spec gs T (upL j fs S) hn'.2
      show (back gs T (upL j fs S)).length = S.length ∧ (∀ i, i ∉ j :: refs gs → (back gs T (upL j fs S))[i]? = S[i]?) ∧ _
      refine ⟨h1.trans upL_len, fun i hi => ?_, fun k i es e1 e2 e3 => ?_⟩
      · rw [h2 i fun z => hi (List.mem_cons_of_mem _ z), upL_ne fun z => hi (by rw [z]; exact List.mem_cons_self)]
      · cases k with
        | zero =>
          obtain rfl : j = i := by simpa using e1
          obtain rfl : fs = es := by simpa using e2
          obtain ⟨ds, e3⟩ := e3
          have e4 := h2 j hn'.1
          rcases upL_at (es := fs) e3 with ⟨d, f, g1, g2, g3⟩ | ⟨d, f, g1, g2, g3⟩
          · subst g3
            exact .inl ⟨d, g1, e4.trans g2⟩
          · subst g3
            exact .inr ⟨d, g1, e4.trans g2⟩
        | succ k =>
          have e1' : gs[k]? = some (.r i) := by simpa using e1
          have ne : i ≠ j := fun z => hn'.1 (by rw [← z]; exact mem_refs.mpr (List.mem_of_getElem? e1'))
          have := h3 k i es e1' (by simpa using e2) (by rw [upL_ne ne]; exact e3)
          rw [upL_ne ne] at this
          exact this
    · have e : back (.r j :: gs) (x :: T) S = back gs T S := by
        cases x with
        | io fs => exact absurd ⟨fs, rfl⟩ hx
        | _ => rfl
      obtain ⟨h1, h2, h3⟩ := back_spec gs T S hn'.2
      rw [e]
      refine ⟨h1, fun i hi => h2 i fun z => hi (List.mem_cons_of_mem _ z), fun k i es e1 e2 => ?_⟩
      cases k with
      | zero => exact absurd ⟨es, by simpa using e2⟩ hx
      | succ k => exact h3 k i es (by simpa using e1) (by simpa using e2)
def sCall (m : Mf) (sg : SG) (S : En) : R Sl := (sg S).bind fun gs S1 => match argS S1 gs with
  | none => .no
  | some S0 => match m S0 with
    | .ok d T => .ok d (back gs T S1)
    | .ex c T => .ex c (back gs T S1)
    | .no => .no
def asV (x : Sl) : Option PyData := match x with
  | .val d => some d
  | _ => none
def asN (x : Sl) : Option (List PyData) := match x with
  | .own ds => some ds
  | _ => none
theorem asV_some {x : Sl} {d : PyData} (h : asV x = some d) : x = .val d := by
  match x, h with
  | .val _, h => cases h; rfl
theorem asN_some {x : Sl} {d : List PyData} (h : asN x = some d) : x = .own d := by
  match x, h with
  | .own _, h => cases h; rfl
section
variable {K : PySem.W.Frag} {ow : Ow} {S S0 T : En} {σ : St} {H H' : Hp} {gs : List Ag} {vs : List V}
theorem toSl_io {g : Ag} {ds : List PyData} (h : toSl S g = some (.io ds)) : ∃ i, g = .r i ∧ own? S[i]? = some ds := by
  cases g with
  | v d => cases h
  | r i =>
    refine ⟨i, rfl, ?_⟩
    change (own? S[i]?).map Sl.io = some (.io ds) at h
    cases e : own? S[i]? with
    | none => rw [e] at h; cases h
    | some es => rw [e] at h; cases h; rfl
theorem Rl.pre (r : Rl K C ow S σ H) (rg : relG K C ow σ S H H vs gs) (h : argS S gs = some S0) : (refs gs).Nodup ∧ Pre K (av C ow) H vs S0 := by
  unfold argS at h
  by_cases hn : (refs gs).Nodup
  · rw [if_pos hn] at h
    obtain ⟨h1, h2⟩ := toSls_get h
    refine ⟨hn, h1.trans rg.1.symm, fun i x e => ?_, fun i j ds es a e1 e2 e3 e4 => ?_, r.tracked⟩
    · obtain ⟨g, e1, e2⟩ := h2 i x e
      obtain ⟨v, e3, e4⟩ := rg.2 i g e1
      refine ⟨v, e3, ?_⟩
      cases g with
      | v d => cases e2; exact e4
      | r j =>
        obtain ⟨a, e5, e6⟩ := e4
        subst e5
        change (own? S[j]?).map Sl.io = some x at e2
        cases e7 : own? S[j]? with
        | none => rw [e7] at e2; cases e2
        | some ds =>
          rw [e7] at e2
          cases e2
          obtain ⟨b, ws, f1, f2, f3, f4⟩ := r.own j ds e7
          rw [e6] at f1; cases f1
          exact ⟨a, ws, rfl, .inr ⟨j, e6⟩, f3, f4⟩
    · obtain ⟨g1, f1, f2⟩ := h2 i _ e1
      obtain ⟨g2, f3, f4⟩ := h2 j _ e2
      obtain ⟨m, rfl, _⟩ := toSl_io f2
      obtain ⟨n, rfl, _⟩ := toSl_io f4
      obtain ⟨v1, k1, b, k2, k3⟩ := rg.2 i _ f1
      obtain ⟨v2, k4, c, k5, k6⟩ := rg.2 j _ f3
      subst k2
      subst k5
      rw [e3] at k1
      rw [e4] at k4
      cases k1
      cases k4
      have emn := r.inj m n a k3 k6
      subst emn
      exact refs_at hn i j f1 f3
  · rw [if_neg hn] at h
    cases h
theorem Rl.back (r : Rl K C ow S σ H) (rg : relG K C ow σ S H H vs gs) (h : argS S gs = some S0) (p : Post K (av C ow) H vs S0 T H') : Rl K C ow (back gs T S) σ H' ∧ Ext (av C ow) H H' := by
  obtain ⟨hn, _⟩ := r.pre rg h
  unfold argS at h
  rw [if_pos hn] at h
  obtain ⟨g1, g2⟩ := toSls_get h
  obtain ⟨b1, b2, b3⟩ := back_spec gs T S hn
  -- a handed list: its place among the arguments, its slot, what came back
  have gown : ∀ (k i : Nat) {x : Sl}, toSl S (.r i) = some x → ∃ ds, own? S[i]? = some ds := fun k i x e => by
    change (own? S[i]?).map Sl.io = some x at e
    cases q : own? S[i]? with
    | none => rw [q] at e; cases e
    | some ds => exact ⟨ds, rfl⟩
  have look : ∀ i, i ∈ refs gs → ∃ (k : Nat) (ds : List PyData) (a : Addr) (es : List PyData) (ws : List V), gs[k]? = some (.r i) ∧ own? S[i]? = some ds ∧ ow i = some a ∧ vs[k]? = some (.ref a) ∧ S0[k]? = some (.io ds) ∧ T[k]? = some (.io es) ∧ H' a = some (.lst ws) ∧ RDs K (av C ow) H' ws es := fun i hi => by
    obtain ⟨k, hk⟩ := List.getElem?_of_mem (mem_refs.mp hi)
    have hk0 : k < S0.length := by rw [g1]; exact (List.getElem?_eq_some_iff.mp hk).1
    obtain ⟨g, e1, e2⟩ := g2 k _ (List.getElem?_eq_getElem hk0)
    rw [hk] at e1; cases e1
    obtain ⟨v, e3, a, e4, e5⟩ := rg.2 k _ hk
    subst e4
    obtain ⟨ds, e6⟩ := gown k i e2
    have e7 : S0[k]? = some (.io ds) := by
      rw [List.getElem?_eq_getElem hk0, ← e2]
      show (own? S[i]?).map Sl.io = some (.io ds)
      rw [e6]
      rfl
    obtain ⟨es, e8, e9⟩ := p.io k ds e7
    obtain ⟨ws, e10, e11⟩ := e9 a e3
    exact ⟨k, ds, a, es, ws, hk, e6, e5, e3, e7, e8, e10, e11⟩
  refine r.after (fun i => i ∈ refs gs) b1 (fun i hi => b2 i hi) (fun i hi => ?_) (fun a o e n => p.ext a o e fun k ds e1 e2 => ?_) fun i es a hi e1 e2 => ?_
  · obtain ⟨k, ds, a, es, ws, h1, h2, h3, h4, h5, h6, h7, h8⟩ := look i hi
    rcases b3 k i es h1 h6 ⟨ds, h2⟩ with ⟨d, z1, z2⟩ | ⟨d, z1, z2⟩
    · exact .inl ⟨d, es, z1, z2⟩
    · exact .inr ⟨d, es, z1, z2⟩
  · obtain ⟨g, e3, e4⟩ := g2 k _ e1
    obtain ⟨i, rfl, _⟩ := toSl_io e4
    obtain ⟨v, f1, b, f2, f3⟩ := rg.2 k _ e3
    subst f2
    rw [e2] at f1; cases f1
    exact n i (mem_refs.mpr (List.mem_of_getElem? e3)) f3
  · obtain ⟨k, ds, b, fs, ws, h1, h2, h3, h4, h5, h6, h7, h8⟩ := look i hi
    rw [h3] at e2; cases e2
    refine ⟨ws, h7, ?_⟩
    have : es = fs := by
      rcases b3 k i fs h1 h6 ⟨ds, h2⟩ with ⟨d, z1, z2⟩ | ⟨d, z1, z2⟩ <;> rw [z2] at e1 <;> cases e1 <;> rfl
    rw [this]
    exact h8
end
def sCallV (m : Mf) (sg : SG) : SE := fun S => (sCall m sg S).bind fun x S1 => R.opt (asV x) S1
def sCallN (m : Mf) (sg : SG) : SN := fun S => (sCall m sg S).bind fun x S1 => R.opt (asN x) S1
variable {x : Str} {p : Pos} {f : Addr} {fd : FuncData} {ps : List Str} {k n : Nat} {m : Mf}
theorem run_callV {σ : St} {H : Hp} {Q : VK} (h : xE X.K X.mg W C (sCallV m sg) σ H Q) (hn : ∀ S gs S1, sg S = .ok gs S1 → gs.length = n) : tCallS (spM X.K X.mg m n) (WE W) (xAg X.K X.mg W C sg) σ H Q := by
  obtain ⟨ow, S, r, q⟩ := h
  change pst X.K X.mg W C (relE X.K) ow σ H Q ((sCall m sg S).bind fun x S1 => R.opt (asV x) S1) at q
  unfold sCall at q
  have hn' := hn S
  refine ⟨ow, S, r, ?_⟩
  show pst X.K X.mg W C (relG X.K) ow σ H _ (sg S)
  cases e : sg S with
  | no => rw [e] at q; exact q
  | ex c S' => rw [e] at q; exact q
  | ok gs S1 =>
    rw [e] at q
    intro vs H1 r1 x1 rg
    refine ⟨by rw [rg.1]; exact hn' gs S1 e, ?_⟩
    change pst X.K X.mg W C (relE X.K) ow σ H Q ((match argS S1 gs with
      | none => R.no
      | some S0 => match m S0 with
        | .ok d T => .ok d (back gs T S1)
        | .ex c T => .ex c (back gs T S1)
        | .no => .no).bind fun x S1 => R.opt (asV x) S1) at q
    cases ea : argS S1 gs with
    | none => rw [ea] at q; exact q.elim
    | some S0 =>
      simp only [ea] at q
      refine ⟨av C ow, S0, (r1.pre rg ea).2, ?_⟩
      cases em : m S0 with
      | no => simp only [em] at q; exact q.elim
      | ex c T =>
        simp only [em] at q
        intro H' p
        obtain ⟨r2, x2⟩ := r1.back rg ea p
        exact q H' r2 (x1.trans (Grow.refl _ _) x2)
      | ok d T =>
        simp only [em, bind_ok] at q
        cases ed : asV d with
        | none => rw [ed] at q; exact q.elim
        | some z =>
          rw [ed] at q
          have ed' := asV_some ed
          subst ed'
          intro v H' p rd
          obtain ⟨r2, x2⟩ := r1.back rg ea p
          exact q v H' r2 (x1.trans (Grow.refl _ _) x2) rd
theorem run_callN {σ : St} {H : Hp} {Q : VK} (h : xN X.K X.mg W C (sCallN m sg) σ H Q) (hn : ∀ S gs S1, sg S = .ok gs S1 → gs.length = n) : tCallS (spM X.K X.mg m n) (WE W) (xAg X.K X.mg W C sg) σ H Q := by
  obtain ⟨ow, S, r, q⟩ := h
  change pst X.K X.mg W C (relN X.K) ow σ H Q ((sCall m sg S).bind fun x S1 => R.opt (asN x) S1) at q
  unfold sCall at q
  have hn' := hn S
  refine ⟨ow, S, r, ?_⟩
  show pst X.K X.mg W C (relG X.K) ow σ H _ (sg S)
  cases e : sg S with
  | no => rw [e] at q; exact q
  | ex c S' => rw [e] at q; exact q
  | ok gs S1 =>
    rw [e] at q
    intro vs H1 r1 x1 rg
    refine ⟨by rw [rg.1]; exact hn' gs S1 e, ?_⟩
    change pst X.K X.mg W C (relN X.K) ow σ H Q ((match argS S1 gs with
      | none => R.no
      | some S0 => match m S0 with
        | .ok d T => .ok d (back gs T S1)
        | .ex c T => .ex c (back gs T S1)
        | .no => .no).bind fun x S1 => R.opt (asN x) S1) at q
    cases ea : argS S1 gs with
    | none => rw [ea] at q; exact q.elim
    | some S0 =>
      simp only [ea] at q
      refine ⟨av C ow, S0, (r1.pre rg ea).2, ?_⟩
      cases em : m S0 with
      | no => simp only [em] at q; exact q.elim
      | ex c T =>
        simp only [em] at q
        intro H' p
        obtain ⟨r2, x2⟩ := r1.back rg ea p
        exact q H' r2 (x1.trans (Grow.refl _ _) x2)
      | ok d T =>
        simp only [em, bind_ok] at q
        cases ed : asN d with
        | none => rw [ed] at q; exact q.elim
        | some z =>
          rw [ed] at q
          have ed' := asN_some ed
          subst ed'
          intro a ws Hm p na rds
          obtain ⟨r2, x2⟩ := r1.back rg ea p
          exact q (.ref a) _ (r2.same (same_new na)) ((x1.trans (Grow.refl _ _) x2).trans (Grow.refl _ _) (Ext.same (same_new na))) ⟨a, ws, Hm, rfl, na, rfl, x1.trans (Grow.refl _ _) x2, r2, rds⟩
/-- the call itself -/
theorem pe_callG {sp : Sp} (F : FnG X.prog X.w X.K X.mg X.base k f fd ps sp) (gd : X.A.guards = some []) (hr : Room k X.A) (hg : Gl X x) (hm : X.mg x = some (.ref f)) (hk : PySem.W.keepIn X.K (.ref f) = true) (hb : Binds X.K fd ps []) (tk : Takes X W) {t : TA}
    (ha : PA X (e :: es) t) (hdb : (x == ("__debug__" : Str)) = false) (he : starEach (e :: es) X.env = (false, eval e X.env) :: starEach es X.env) (hpl : (backTo pos (starEach es X.env)).any (·.1) = false) : PE X (.Call (.Name x p) (e :: es) [] pos) (tCallS sp (WE W) t) := by
  refine ⟨fun pins s σ H Q I h => wpAny_Call_Name_kw (ld_glob I hg hm ?_ hdb)⟩
  refine PySem.W.callWith_K (h₀ := X.base) I.ok.mod.kin hk (thn (ha.run pos pins s σ H _ I h) fun us s1 ⟨vs, H1, I1, r, q⟩ => ⟨I1.kIn, ?_⟩) he hpl
  have hl : us.length = ps.length := r.length.symm.trans (F.len _ _ _ _ q)
  have b := hb s1 us I1.kIn (by rw [List.append_nil]; exact hl)
  rw [List.append_nil] at b
  refine wpAny_call (codeAny_mono (F.run X.A X.stack s1 H1 ⟨us, []⟩ us vs Q (WE W σ) gd hr I1.env0 b r q) fun o s' hq => ?_)
  match o, hq with
  | .error e, hq => exact passAt tk σ pins H1 s1 e s' I1 hq
  | .ok (.ret u), hq => exact I1.after hq
  | .ok .next, hq => exact hq.elim
  | .ok .brk, hq => exact hq.elim
  | .ok .cont, hq => exact hq.elim
theorem e_call (F : FnG X.prog X.w X.K X.mg X.base k f fd ps (spM X.K X.mg m n)) (gd : X.A.guards = some []) (hr : Room k X.A) (hg : Gl X x) (hm : X.mg x = some (.ref f)) (hk : PySem.W.keepIn X.K (.ref f) = true) (hb : Binds X.K fd ps []) (tk : Takes X W)
    (ha : PA X (e :: es) (xAg X.K X.mg W C sg)) (hn : ∀ S gs S1, sg S = .ok gs S1 → gs.length = n) (hdb : (x == ("__debug__" : Str)) = false := by decide) (he : starEach (e :: es) X.env = (false, eval e X.env) :: starEach es X.env := by rfl) (hpl : (backTo pos (starEach es X.env)).any (·.1) = false := by rfl) :
    PE X (.Call (.Name x p) (e :: es) [] pos) (xE X.K X.mg W C (sCallV m sg)) :=
  pe_imp (pe_callG F gd hr hg hm hk hb tk ha hdb he hpl) fun _ _ _ h => run_callV h hn
theorem n_call (F : FnG X.prog X.w X.K X.mg X.base k f fd ps (spM X.K X.mg m n)) (gd : X.A.guards = some []) (hr : Room k X.A) (hg : Gl X x) (hm : X.mg x = some (.ref f)) (hk : PySem.W.keepIn X.K (.ref f) = true) (hb : Binds X.K fd ps []) (tk : Takes X W)
    (ha : PA X (e :: es) (xAg X.K X.mg W C sg)) (hn : ∀ S gs S1, sg S = .ok gs S1 → gs.length = n) (hdb : (x == ("__debug__" : Str)) = false := by decide) (he : starEach (e :: es) X.env = (false, eval e X.env) :: starEach es X.env := by rfl) (hpl : (backTo pos (starEach es X.env)).any (·.1) = false := by rfl) :
    PE X (.Call (.Name x p) (e :: es) [] pos) (xN X.K X.mg W C (sCallN m sg)) :=
  pe_imp (pe_callG F gd hr hg hm hk hb tk ha hdb he hpl) fun _ _ _ h => run_callN h hn
/-- how many arguments -/
theorem ln0 : ∀ S gs S1, sG0 S = .ok gs S1 → gs.length = 0 := fun S gs S1 h => by cases h; rfl
theorem lnv {n : Nat} (h : ∀ S gs S1, sg S = .ok gs S1 → gs.length = n) : ∀ S gs S1, sGv se sg S = .ok gs S1 → gs.length = n + 1 := fun S gs S1 e => by
  unfold sGv at e
  cases e1 : se S with
  | no => rw [e1] at e; cases e
  | ex c T => rw [e1] at e; cases e
  | ok d T =>
    rw [e1, bind_ok] at e
    cases e2 : sg T with
    | no => rw [e2] at e; cases e
    | ex c T => rw [e2] at e; cases e
    | ok ds T2 =>
      rw [e2, bind_ok] at e
      cases e
      rw [List.length_cons, h T ds _ e2]
theorem lnr {n : Nat} (h : ∀ S gs S1, sg S = .ok gs S1 → gs.length = n) : ∀ S gs S1, sGr i sg S = .ok gs S1 → gs.length = n + 1 := fun S gs S1 e => by
  unfold sGr at e
  split at e
  · cases e2 : sg S with
    | no => rw [e2] at e; cases e
    | ex c T => rw [e2] at e; cases e
    | ok ds T2 =>
      rw [e2, bind_ok] at e
      cases e
      rw [List.length_cons, h S ds _ e2]
  · cases e
end
end Ds
end

section
set_option Elab.async false
set_option linter.all false
set_option maxRecDepth 100000
set_option maxHeartbeats 4000000
namespace Ds
open PySem PySem.Spec PyProof.Rows L2

/-! ### what is walked -/
/-- from H on the walk J gives the data ds -/
def ItD (K : PySem.W.Frag) (J : It) (av1 : Addr → Prop) (H : Hp) (ds : List PyData) : Prop :=
  ∀ (av2 : Addr → Prop) (H1 : Hp), Ext av1 H H1 → Grow av1 av2 H → (∀ a, av2 a → ∃ o, H1 a = some o) →
    (∀ i, i < ds.length → J.go i H1) ∧ J.stop ds.length H1 ∧ ∀ (i : Nat) d v H2, ds[i]? = some d → J.yld i H1 v H2 → Same H1 H2 ∧ RD K av2 H2 v d
def relI (K : PySem.W.Frag) : Rel It (List PyData) := fun C ow _ _ _ H' J ds => ItD K J (av C ow) H' ds
theorem early_I {K : PySem.W.Frag} : Early K (relI K) := fun _ _ _ _ _ _ _ _ _ _ _ _ _ _ h => h
abbrev xI (K : PySem.W.Frag) (mg : Str → Option Value) (W : WX) (C : Cn) (s : SN) : TI := xG K mg W C (relI K) s
section
variable {X : Cx} {W : WX} {C : Cn} {pos : Pos} {e tg iter : Expr} {se : SE} {sn : SN} {i : Nat}
theorem pi_imp {t t' : TI} (h : PI X tg iter t) (f : ∀ σ H R, t' σ H R → t σ H R) : PI X tg iter t' := ⟨fun pins s σ H Q I q => h.run pins s σ H Q I (f σ H Q q)⟩
theorem itd_list {K : PySem.W.Frag} {av1 : Addr → Prop} {H : Hp} {a : Addr} {vs : List V} {ds : List PyData} (h : LK K av1 H a vs) (r : RDs K av1 H vs ds) : ItD K (Itl K a) av1 H ds := fun av2 H1 x g _ => by
  have q := (h.mono x g).sq
  have r' := RDs.mono x g ds vs r
  have hl := r.len
  refine ⟨fun i hi => ⟨vs, vs[i]'(by omega), q, List.getElem?_eq_getElem _⟩, ⟨vs, q, by omega⟩, fun i d v H2 e y => ?_⟩
  obtain ⟨y1, y2⟩ := y
  subst y1
  obtain ⟨w, e1, e2⟩ := r'.get e
  have := y2 vs q
  rw [e1] at this
  cases this
  exact ⟨Same.refl _, e2⟩
theorem itd_tup {K : PySem.W.Frag} {av1 : Addr → Prop} {H : Hp} {a : Addr} {vs : List V} {ds : List PyData} (h : TK K av1 H a vs) (r : RDs K av1 H vs ds) : ItD K (Itt K a) av1 H ds := fun av2 H1 x g _ => by
  have q := (h.mono x g).sq
  have r' := RDs.mono x g ds vs r
  have hl := r.len
  refine ⟨fun i hi => ⟨vs, vs[i]'(by omega), q, List.getElem?_eq_getElem _⟩, ⟨vs, q, by omega⟩, fun i d v H2 e y => ?_⟩
  obtain ⟨y1, y2⟩ := y
  subst y1
  obtain ⟨w, e1, e2⟩ := r'.get e
  have := y2 vs q
  rw [e1] at this
  cases this
  exact ⟨Same.refl _, e2⟩
def sIL (se : SE) : SN := fun S => (se S).bind fun d S1 => R.opt (asL d) S1
def asT (d : PyData) : Option (List PyData) := match d with
  | .tuple ds => some ds
  | _ => none
theorem asT_some {d : PyData} {ds : List PyData} (h : asT d = some ds) : d = .tuple ds := by
  match d, h with
  | .tuple _, h => cases h; rfl
def sIT (se : SE) : SN := fun S => (se S).bind fun d S1 => R.opt (asT d) S1
/-- over a list, a tuple -/
theorem i_list (h : PE X e (xE X.K X.mg W C se)) : PI X tg e (xI X.K X.mg W C (sIL se)) := pi_imp (pi_list h) fun σ H R ⟨ow, S, r, q⟩ =>
  seq early_I r q fun S1 d v H1 r1 x1 rd k => by
    cases e : asL d with
    | none => rw [e] at k; exact k.elim
    | some ds =>
      rw [e] at k
      have ed := asL_some e
      subst ed
      cases rd with
      | lst h1 h2 => exact ⟨_, rfl, ⟨_, h1.sq⟩, pst_ok r1 k (itd_list h1 h2)⟩
theorem i_tup (h : PE X e (xE X.K X.mg W C se)) : PI X tg e (xI X.K X.mg W C (sIT se)) := pi_imp (pi_tup h) fun σ H R ⟨ow, S, r, q⟩ =>
  seq early_I r q fun S1 d v H1 r1 x1 rd k => by
    cases e : asT d with
    | none => rw [e] at k; exact k.elim
    | some ds =>
      rw [e] at k
      have ed := asT_some e
      subst ed
      cases rd with
      | tup h1 h2 => exact ⟨_, rfl, ⟨_, h1.sq⟩, pst_ok r1 k (itd_tup h1 h2)⟩
theorem itd_range {K : PySem.W.Frag} {av1 : Addr → Prop} {H : Hp} {lo : Int} {n : Nat} : ItD K (Itr lo n) av1 H ((List.range n).map fun i => .int (lo + (i : Nat))) := fun av2 H1 x g _ => by
  refine ⟨fun i hi => by show i < n; simpa using hi, by show n ≤ _; simp, fun i d v H2 e y => ?_⟩
  obtain ⟨y1, y2⟩ := y
  subst y1
  subst y2
  rw [List.getElem?_map] at e
  cases q : (List.range n)[i]? with
  | none => rw [q] at e; cases e
  | some j =>
    rw [q] at e
    cases e
    have hi := (List.getElem?_eq_some_iff.mp q)
    obtain ⟨h1, h2⟩ := hi
    rw [List.getElem_range] at h2
    subst h2
    exact ⟨Same.refl _, .int _⟩
def rng (lo hi : Int) : List PyData := (List.range (hi - lo).toNat).map fun i => .int (lo + (i : Nat))
def smallI (i : Int) : Bool := decide (-(2 ^ 62) ≤ i) && decide (i < 2 ^ 62)
theorem smallI_of {i : Int} (h : smallI i = true) : -(2 ^ 62) ≤ i ∧ i < 2 ^ 62 := by
  unfold smallI at h
  rw [Bool.and_eq_true] at h
  exact ⟨of_decide_eq_true h.1, of_decide_eq_true h.2⟩
def rng1 (ds : List PyData) : Option (List PyData) := match ds with
  | [.int j] => if smallI j = true then some (rng 0 j) else none
  | _ => none
def rng2 (ds : List PyData) : Option (List PyData) := match ds with
  | [.int i, .int j] => if smallI i = true ∧ smallI j = true then some (rng i j) else none
  | _ => none
def sRng1 (sr : SN) : SN := fun S => (sr S).bind fun ds S1 => R.opt (rng1 ds) S1
def sRng2 (sr : SN) : SN := fun S => (sr S).bind fun ds S1 => R.opt (rng2 ds) S1
theorem i_rng1 {a : Expr} {sr : SN} {p : Pos} (hg : Gl X "range") (hm : X.mg "range" = none) (ha : PA X [a] (xA X.K X.mg W C sr)) (hs : starEach [a] X.env = [(false, eval a X.env)] := by rfl) : PI X tg (.Call (.Name "range" p) [a] [] pos) (xI X.K X.mg W C (sRng1 sr)) :=
  pi_imp (pi_range1 hg hm ha hs) fun σ H Q ⟨ow, S, r, q⟩ => seq early_I r q fun S1 ds vs H1 r1 x1 rd k => by
    match ds, rd, k with
    | [.int j], .cons (.int _) .nil, k =>
      change pst X.K X.mg W C (relI X.K) ow σ H1 Q (R.opt (if smallI j = true then some (rng 0 j) else none) S1) at k
      by_cases z : smallI j = true
      · rw [if_pos z] at k
        have b := smallI_of z
        refine ⟨j, rfl, b.1, b.2, pst_ok r1 k ?_⟩
        have := itd_range (K := X.K) (av1 := av C ow) (H := H1) (lo := 0) (n := j.toNat)
        unfold rng
        rw [Int.sub_zero]
        exact this
      · rw [if_neg z] at k
        exact k.elim
theorem i_rng2 {a b : Expr} {sr : SN} {p : Pos} (hg : Gl X "range") (hm : X.mg "range" = none) (ha : PA X [a, b] (xA X.K X.mg W C sr)) (hs : starEach [a, b] X.env = [(false, eval a X.env), (false, eval b X.env)] := by rfl) (hs2 : starEach [b] X.env = [(false, eval b X.env)] := by rfl) :
    PI X tg (.Call (.Name "range" p) [a, b] [] pos) (xI X.K X.mg W C (sRng2 sr)) :=
  pi_imp (pi_range2 hg hm ha hs hs2) fun σ H Q ⟨ow, S, r, q⟩ => seq early_I r q fun S1 ds vs H1 r1 x1 rd k => by
    match ds, rd, k with
    | [.int i, .int j], .cons (.int _) (.cons (.int _) .nil), k =>
      change pst X.K X.mg W C (relI X.K) ow σ H1 Q (R.opt (if smallI i = true ∧ smallI j = true then some (rng i j) else none) S1) at k
      by_cases z : smallI i = true ∧ smallI j = true
      · rw [if_pos z] at k
        have b := smallI_of z.1
        have c := smallI_of z.2
        exact ⟨i, j, rfl, ⟨b.1, b.2, c.1, c.2⟩, pst_ok r1 k itd_range⟩
      · rw [if_neg z] at k
        exact k.elim

/-! ### targets -/
def Tch (ts : List Nat) (σ σ' : St) : Prop := σ'.length = σ.length ∧ ∀ j, j ∉ ts → σ'[j]? = σ[j]?
abbrev GT := PyData → En → RS
def xT (K : PySem.W.Frag) (C : Cn) (g : GT) (ts : List Nat) : TG := fun v σ H Q => ∃ ow S d, Rl K C ow S σ H ∧ RD K (av C ow) H v d ∧ match g d S with
  | .nx S' => ∀ σ' H', Rl K C ow S' σ' H' → Ext (av C ow) H H' → Tch ts σ σ' → Q σ' H'
  | _ => False
abbrev GTs := List PyData → En → RS
def xTs (K : PySem.W.Frag) (C : Cn) (g : GTs) (ts : List Nat) : TGs := fun vs σ H Q => ∃ ow S ds, Rl K C ow S σ H ∧ RDs K (av C ow) H vs ds ∧ match g ds S with
  | .nx S' => ∀ σ' H', Rl K C ow S' σ' H' → Ext (av C ow) H H' → Tch ts σ σ' → Q σ' H'
  | _ => False
theorem pg_imp {t t' : TG} (h : PG X tg t) (f : ∀ v σ H Q, t' v σ H Q → t v σ H Q) : PG X tg t' := ⟨fun pins s σ H v u Q I r q => h.run pins s σ H v u Q I r (f v σ H Q q)⟩
theorem pgs_imp {tgs : List Expr} {t t' : TGs} (h : PGs X tgs t) (f : ∀ v σ H Q, t' v σ H Q → t v σ H Q) : PGs X tgs t' := ⟨fun pins s σ H v u Q I r q => h.run pins s σ H v u Q I r (f v σ H Q q)⟩
/-- a slot that owns nothing -/
def bare (o : Option Sl) : Bool := match o with
  | some .nil => true
  | some (.val _) => true
  | _ => false
theorem bare_noio {o : Option Sl} (h : bare o = true) : noio o = true ∧ own? o = none := by
  match o, h with
  | some .nil, _ => exact ⟨rfl, rfl⟩
  | some (.val _), _ => exact ⟨rfl, rfl⟩
theorem Rl.owNone {K : PySem.W.Frag} {ow : Ow} {S : En} {σ : St} {H : Hp} (r : Rl K C ow S σ H) {i : Nat} (h : own? S[i]? = none) (hn : nn S[i]? = true) (hi : i < 4096) : ow i = none := by
  cases e : ow i with
  | none => rfl
  | some a =>
    rcases r.ows i a e with ⟨ds, z⟩ | z
    · rw [h] at z; cases z
    · exact absurd rfl (z.ne hn hi)
theorem Rl.lt4 {K : PySem.W.Frag} {ow : Ow} {S : En} {σ : St} {H : Hp} (r : Rl K C ow S σ H) {i : Nat} {x : Sl} (h : S[i]? = some x) : i < 4096 := by
  have := (List.getElem?_eq_some_iff.mp h).1
  have := r.ns.big
  omega
theorem bare_lt {K : PySem.W.Frag} {ow : Ow} {S : En} {σ : St} {H : Hp} (r : Rl K C ow S σ H) {i : Nat} (h : bare S[i]? = true) : nn S[i]? = true ∧ i < 4096 := by
  cases e : S[i]? with
  | none => rw [e] at h; cases h
  | some x =>
    refine ⟨?_, r.lt4 e⟩
    rw [e] at h
    match x, h with
    | .nil, _ => rfl
    | .val _, _ => rfl
theorem owSet_id {ow : Ow} {i : Nat} {o : Option Addr} (h : ow i = o) : owSet ow i o = ow := by
  funext j
  unfold owSet
  by_cases e : j = i
  · rw [if_pos e, e, h]
  · rw [if_neg e]
def gNm (i : Nat) : GT := fun d S => if bare S[i]? = true then .nx (S.set i (.val d)) else .no
theorem g_name (h : PG X tg (gName i)) : PG X tg (xT X.K C (gNm i) [i]) := pg_imp h fun v σ H Q ⟨ow, S, d, r, rd, q⟩ => by
  unfold gNm at q
  by_cases hi : bare S[i]? = true
  · rw [if_pos hi] at q
    have b := bare_noio hi
    have p := r.putV b.1 rd
    rw [owSet_id (r.owNone b.2 (bare_lt r hi).1 (bare_lt r hi).2)] at p
    exact q _ H p (Ext.refl _ _) ⟨List.length_set, fun j hj => List.getElem?_set_ne fun z => hj (by simp [z])⟩
  · rw [if_neg hi] at q
    exact q.elim
def gN0 : GTs := fun ds S => match ds with
  | [] => .nx S
  | _ => .no
def gNC (g : GT) (gs : GTs) : GTs := fun ds S => match ds with
  | d :: ds => match g d S with
    | .nx S1 => gs ds S1
    | _ => .no
  | [] => .no
theorem gs_nil : PGs X [] (xTs X.K C gN0 []) := pgs_imp pgs_nil fun vs σ H Q ⟨ow, S, ds, r, rd, q⟩ => by
  cases rd with
  | nil => exact ⟨rfl, q σ H r (Ext.refl _ _) ⟨rfl, fun _ _ => rfl⟩⟩
  | cons h1 h2 => exact q.elim
theorem gs_cons {tgs : List Expr} {g : GT} {gs : GTs} {ts us : List Nat} (h1 : PG X tg (xT X.K C g ts)) (h2 : PGs X tgs (xTs X.K C gs us)) (hs : (assignEach (tg :: tgs) X.env).map (·.2) = assign tg X.env :: (assignEach tgs X.env).map (·.2) := by rfl) : PGs X (tg :: tgs) (xTs X.K C (gNC g gs) (ts ++ us)) :=
  pgs_imp (pgs_cons h1 h2 hs) fun vs σ H Q ⟨ow, S, ds, r, rd, q⟩ => by
    cases rd with
    | nil => exact q.elim
    | @cons v vs d ds h1 h2 =>
      refine ⟨v, vs, rfl, ow, S, d, r, h1, ?_⟩
      change (match (match g d S with | .nx S1 => gs ds S1 | _ => .no) with | .nx S' => ∀ σ' H', Rl X.K C ow S' σ' H' → Ext (av C ow) H H' → Tch (ts ++ us) σ σ' → Q σ' H' | _ => False) at q
      cases e : g d S with
      | nx S1 =>
        simp only [e] at q
        intro σ1 H1 r1 x1 c1
        refine ⟨ow, S1, ds, r1, RDs.mono x1 (Grow.refl _ _) ds vs h2, ?_⟩
        cases e2 : gs ds S1 with
        | nx S2 =>
          simp only [e2] at q
          exact fun σ2 H2 r2 x2 c2 => q σ2 H2 r2 (x1.trans (Grow.refl _ _) x2) ⟨c2.1.trans c1.1, fun j hj => (c2.2 j fun z => hj (List.mem_append_right _ z)).trans (c1.2 j fun z => hj (List.mem_append_left _ z))⟩
        | _ => simp only [e2] at q
      | _ => simp only [e] at q
def gTp (gs : GTs) : GT := fun d S => match d with
  | .tuple ds => gs ds S
  | _ => .no
theorem g_tup {tgs : List Expr} {gs : GTs} {k n : Nat} {ts : List Nat} (hc : X.calm = true) (h : PGs X tgs (xTs X.K C gs ts)) (hl : ∀ ds S S', gs ds S = .nx S' → ds.length = n) (hn : (assignEach tgs X.env).length = n := by rfl) (hst : (assignEach tgs X.env).findIdx? (·.1) = none := by rfl) :
    PG X (.Tuple tgs k pos) (xT X.K C (gTp gs) ts) := pg_imp (pg_tup hc h hn hst) fun v σ H Q ⟨ow, S, d, r, rd, q⟩ => by
  cases rd with
  | @tup a xs ds h1 h2 =>
    change (match gs ds S with | .nx S' => ∀ σ' H', Rl X.K C ow S' σ' H' → Ext (av C ow) H H' → Tch ts σ σ' → Q σ' H' | _ => False) at q
    refine ⟨a, xs, rfl, h1.sq, ?_, ow, S, ds, r, h2, q⟩
    cases e : gs ds S with
    | nx S' => rw [h2.len]; exact hl ds S S' e
    | _ => simp only [e] at q
  | _ => exact q.elim
theorem gl0 : ∀ ds S S', gN0 ds S = .nx S' → ds.length = 0 := fun ds S S' h => by
  cases ds with
  | nil => rfl
  | cons d ds => cases h
theorem glc {g : GT} {gs : GTs} {n : Nat} (h : ∀ ds S S', gs ds S = .nx S' → ds.length = n) : ∀ ds S S', gNC g gs ds S = .nx S' → ds.length = n + 1 := fun ds S S' e => by
  cases ds with
  | nil => cases e
  | cons d ds =>
    change (match g d S with | .nx S1 => gs ds S1 | _ => .no) = .nx S' at e
    cases e2 : g d S with
    | nx S1 => simp only [e2] at e; rw [List.length_cons, h ds S1 S' e]
    | _ => simp only [e2] at e; cases e
/-- target = e -/
def sAsg (g : GT) (se : SE) : SS := fun S => (se S).st fun d S1 => g d S1
theorem sst_g {ow : Ow} {S : En} {σ : St} {H : Hp} {D : Ends} {g : GT} {d : PyData} {v : V} {ts : List Nat} (hg : ∀ d S, (∃ S', g d S = .nx S') ∨ g d S = .no) (r : Rl X.K C ow S σ H) (rd : RD X.K (av C ow) H v d) (k : sst X.K X.mg W C ow H D (g d S)) : xT X.K C g ts v σ H D.nx := by
  refine ⟨ow, S, d, r, rd, ?_⟩
  rcases hg d S with ⟨S', e⟩ | e
  · rw [e] at k ⊢
    exact fun σ' H' r' x _ => k ow σ' H' r' x (Grow.refl _ _)
  · rw [e] at k
    exact k.elim
def Plain (g : GT) : Prop := ∀ d S, (∃ S', g d S = .nx S') ∨ g d S = .no
def Plains (g : GTs) : Prop := ∀ d S, (∃ S', g d S = .nx S') ∨ g d S = .no
theorem plain_nm : Plain (gNm i) := fun d S => by
  unfold gNm
  split
  · exact .inl ⟨_, rfl⟩
  · exact .inr rfl
theorem plains_0 : Plains gN0 := fun ds S => by
  cases ds with
  | nil => exact .inl ⟨S, rfl⟩
  | cons d ds => exact .inr rfl
theorem plains_c {g : GT} {gs : GTs} (h1 : Plain g) (h2 : Plains gs) : Plains (gNC g gs) := fun ds S => by
  cases ds with
  | nil => exact .inr rfl
  | cons d ds =>
    show (∃ S', (match g d S with | .nx S1 => gs ds S1 | _ => .no) = .nx S') ∨ (match g d S with | .nx S1 => gs ds S1 | _ => .no) = .no
    rcases h1 d S with ⟨S1, e⟩ | e
    · rw [e]
      exact h2 ds S1
    · rw [e]
      exact .inr rfl
theorem plain_t {gs : GTs} (h : Plains gs) : Plain (gTp gs) := fun d S => by
  cases d with
  | tuple ds => exact h ds S
  | _ => exact .inr rfl
theorem s_asg {g : GT} {ts : List Nat} (hp : Plain g) (he : PE X e (xE X.K X.mg W C se)) (hg : PG X tg (xT X.K C g ts)) (hp2 : ∀ {t : TE} {u : TG}, PE X e t → PG X tg u → PS X (.Assign [tg] e pos) (tAsg t u)) : PS X (.Assign [tg] e pos) (xS X.K X.mg W C (sAsg g se)) :=
  ps_imp (hp2 he hg) fun D σ H ⟨ow, S, r, q⟩ => seqS r q fun S1 d v H1 r1 x1 rd k => sst_g hp r1 rd k

/-! ### for -/
def loopL (g : GT) (b : SS) : List PyData → SS
  | [], S => .nx S
  | d :: ds, S => match g d S with
    | .nx S1 => match b S1 with
      | .nx S2 => loopL g b ds S2
      | .ct S2 => loopL g b ds S2
      | .bk S2 => .nx S2
      | r => r
    | r => r
def sFor (it : SN) (g : GT) (b : SS) : SS := fun S => (it S).st fun ds S1 => loopL g b ds S1
theorem s_for {body : List Stmt} {g : GT} {sb : SS} {it : SN} {ts : List Nat} (hp : PassesOwn (model X.prog X.w) X.A X.env X.xe) (hc : X.calm = true) (hpl : Plain g) (hi : PI X tg iter (xI X.K X.mg W C it)) (hg : PG X tg (xT X.K C g ts)) (hb : PSs X body (xS X.K X.mg W C sb))
    (hs : ∀ x, foldedSetIterable iter X.env x = pure x := by intro _; rfl) : PS X (.For tg iter body [] pos) (xS X.K X.mg W C (sFor it g sb)) :=
  ps_imp (ps_for hp hc hi hg hb hs) fun D σ H ⟨ow, S, r, q⟩ => seqS r q fun S1 ds J H1 r1 x1 id k => by
    refine ⟨fun i m σ2 H2 => m = ds.length - i ∧ i ≤ ds.length ∧ ∃ ow2 S2, Rl X.K C ow2 S2 σ2 H2 ∧ Ext (av C ow) H1 H2 ∧ Grow (av C ow) (av C ow2) H1 ∧ sst X.K X.mg W C ow2 H2 D (loopL g sb (ds.drop i) S2),
      ⟨ds.length, by omega, by omega, ow, S1, r1, Ext.refl _ _, Grow.refl _ _, k⟩, ?_⟩
    rintro i m σ2 H2 ⟨rfl, hi, ow2, S2, r2, x2, g2, k2⟩
    obtain ⟨w1, w2, w3⟩ := id (av C ow2) H2 x2 g2 r2.tracked
    by_cases hlt : i < ds.length
    · refine .inr ⟨w1 i hlt, _, fun σ3 H3 z => ⟨ds.length - (i + 1), by omega, z⟩, fun v H3 y => ?_⟩
      have ed : ds[i]? = some ds[i] := List.getElem?_eq_getElem hlt
      obtain ⟨sm, rd⟩ := w3 i ds[i] v H3 ed y
      rw [List.drop_eq_getElem_cons hlt] at k2
      change sst X.K X.mg W C ow2 H2 D (match g ds[i] S2 with
        | .nx S1 => match sb S1 with
          | .nx S2 => loopL g sb (ds.drop (i + 1)) S2
          | .ct S2 => loopL g sb (ds.drop (i + 1)) S2
          | .bk S2 => .nx S2
          | r => r
        | r => r) at k2
      refine ⟨ow2, S2, ds[i], r2.same sm, rd, ?_⟩
      rcases hpl ds[i] S2 with ⟨S3, e⟩ | e
      · rw [e] at k2 ⊢
        intro σ3 H4 r3 x3 _
        have x23 : Ext (av C ow2) H2 H4 := (Ext.same sm).trans (Grow.refl _ _) x3
        have g23 : Grow (av C ow2) (av C ow2) H2 := Grow.refl _ _
        refine ⟨ow2, S3, r3, ?_⟩
        have k3 := sst_from x23 g23 k2
        change sst X.K X.mg W C ow2 H4 D (match sb S3 with
          | .nx S2 => loopL g sb (ds.drop (i + 1)) S2
          | .ct S2 => loopL g sb (ds.drop (i + 1)) S2
          | .bk S2 => .nx S2
          | r => r) at k3
        cases eb : sb S3 with
        | nx S4 =>
          rw [eb] at k3
          exact fun ow4 σ4 H5 r4 x4 g4 => ⟨rfl, hlt, ow4, S4, r4, (x2.trans g2 (x23.trans g23 x4)), g2.trans x2 (g23.trans x23 g4), sst_from x4 g4 k3⟩
        | ct S4 =>
          rw [eb] at k3
          exact fun ow4 σ4 H5 r4 x4 g4 => ⟨rfl, hlt, ow4, S4, r4, (x2.trans g2 (x23.trans g23 x4)), g2.trans x2 (g23.trans x23 g4), sst_from x4 g4 k3⟩
        | bk S4 => rw [eb] at k3; exact k3
        | rt v S4 => rw [eb] at k3; exact k3
        | ex c S4 => rw [eb] at k3; exact k3
        | no => rw [eb] at k3; exact k3
      · rw [e] at k2
        exact k2.elim
    · have e : i = ds.length := by omega
      subst e
      rw [List.drop_length] at k2
      exact .inl ⟨w2, k2 ow2 σ2 H2 r2 (Ext.refl _ _) (Grow.refl _ _)⟩

/-! ### while: n turns at most -/
def loopW (c : STt) (b : SS) : Nat → SS
  | 0, _ => .no
  | n + 1, S => (c S).st fun t S1 => if t = true then match b S1 with
      | .nx S2 => loopW c b n S2
      | .ct S2 => loopW c b n S2
      | .bk S2 => .nx S2
      | r => r
    else .nx S1
theorem s_while {c : Expr} {body : List Stmt} {sc : STt} {sb : SS} (n : Nat) (hp : PassesOwn (model X.prog X.w) X.A X.env X.xe) (hc : PT X c (xB X.K X.mg W C sc)) (hb : PSs X body (xS X.K X.mg W C sb)) : PS X (.While c body [] pos) (xS X.K X.mg W C (loopW sc sb n)) :=
  ps_imp (ps_while hp hc hb) fun D σ H ⟨ow, S, r, q⟩ => by
    refine ⟨fun m σ2 H2 => ∃ ow2 S2, Rl X.K C ow2 S2 σ2 H2 ∧ sst X.K X.mg W C ow2 H2 D (loopW sc sb m S2), ⟨n, ow, S, r, q⟩, ?_⟩
    rintro m σ2 H2 ⟨ow2, S2, r2, k2⟩
    cases m with
    | zero => exact k2.elim
    | succ m =>
      refine seqS r2 k2 fun S3 t b H3 r3 x3 eb k3 => ?_
      cases eb
      cases t with
      | false => exact k3 ow2 σ2 H3 r3 (Ext.refl _ _) (Grow.refl _ _)
      | true =>
        refine ⟨_, fun σ3 H4 z => ⟨m, by omega, z⟩, ow2, S3, r3, ?_⟩
        change sst X.K X.mg W C ow2 H3 D (match sb S3 with
          | .nx S2 => loopW sc sb m S2
          | .ct S2 => loopW sc sb m S2
          | .bk S2 => .nx S2
          | r => r) at k3
        cases eb : sb S3 with
        | nx S4 =>
          rw [eb] at k3
          exact fun ow4 σ4 H5 r4 x4 g4 => ⟨ow4, S4, r4, sst_from x4 g4 k3⟩
        | ct S4 =>
          rw [eb] at k3
          exact fun ow4 σ4 H5 r4 x4 g4 => ⟨ow4, S4, r4, sst_from x4 g4 k3⟩
        | bk S4 => rw [eb] at k3; exact k3
        | rt v S4 => rw [eb] at k3; exact k3
        | ex c S4 => rw [eb] at k3; exact k3
        | no => rw [eb] at k3; exact k3
end
end Ds
end

section
set_option Elab.async false
set_option linter.all false
set_option maxRecDepth 100000
set_option maxHeartbeats 4000000
namespace Ds
open PySem PySem.Spec PyProof.Rows L2

/-- one more owned address -/
def Cn.plus (C : Cn) (p : Addr) (vs : List V) : Cn := ⟨fun a => C.A0 a ∨ a = p, upd C.H0 p (.lst vs), C.io⟩
section
variable {K : PySem.W.Frag} {C : Cn} {ow : Ow} {S S' : En} {σ : St} {H H' : Hp} {p : Addr} {us : List V}
theorem av_plus {a : Addr} : av (C.plus p us) ow a ↔ av C ow a ∨ a = p := by
  constructor
  · rintro ((h | h) | h)
    · exact .inl (.inl h)
    · exact .inr h
    · exact .inl (.inr h)
  · rintro ((h | h) | h)
    · exact .inl (.inl h)
    · exact .inr h
    · exact .inl (.inr h)
theorem grow_plus (hp : H p = none) : Grow (av C ow) (av (C.plus p us) ow) H := fun a h => (av_plus.mp h).imp id fun e => by rw [e]; exact hp
/-- a new list at p is kept aside -/
theorem Rl.plus (r : Rl K C ow S σ H) (hp : H p = none) (vs : List V) : Rl K (C.plus p vs) ow S σ (upd H p (.lst vs)) := by
  have sm : Same H (upd H p (.lst vs)) := same_new hp
  have f0 := r.fresh0 hp
  have n := r.fresh hp
  refine ⟨r.len, fun i d e => ?_, fun i ds e => ?_, r.ows, r.inj, fun i ds a h1 h2 => ?_, r.ios, fun i a e => ?_, fun a h => ?_, fun a o h1 h2 => ?_, r.ns.move r.ns.big (fun _ _ q => q) (fun _ _ => rfl) (fun _ _ _ _ => rfl) (fun _ a o _ _ q => sm a o q) (fun ws ds q => RDs.mono (Ext.same sm) (grow_plus hp) ds ws q) (fun j a _ q z => ?_)⟩
  · obtain ⟨v, h1, h2⟩ := r.val i d e
    exact ⟨v, h1, RD.mono (Ext.same sm) (grow_plus hp) d v h2⟩
  · obtain ⟨a, ws, h1, h2, h3, h4⟩ := r.own i ds e
    exact ⟨a, ws, h1, h2, sm a _ h3, RDs.mono (Ext.same sm) (grow_plus hp) ds ws h4⟩
  · obtain ⟨g1, g2⟩ := r.frs i ds a h1 h2
    have ne : a ≠ p := fun e => n (by rw [← e]; exact .inr ⟨i, h2⟩)
    refine ⟨?_, fun z => z.elim g2 ne⟩
    show upd C.H0 p (.lst vs) a = none
    rw [upd_ne ne]
    exact g1
  · obtain ⟨g1, g2⟩ := r.iok i a e
    exact ⟨.inl g1, g2⟩
  · rcases h with h | h
    · obtain ⟨o, e⟩ := r.trk a h
      exact ⟨o, sm a o e⟩
    · rw [h]; exact ⟨_, upd_same⟩
  · change upd C.H0 p (.lst vs) a = some o at h1
    by_cases e : a = p
    · rw [e, upd_same] at h1 ⊢
      exact h1
    · rw [upd_ne e] at h1
      exact sm a o (r.ext a o h1 h2)
  · have ne : a ≠ p := fun e => n (by rw [← e]; exact .inr ⟨j, q⟩)
    refine ⟨?_, fun w => w.elim z.2 ne⟩
    show upd C.H0 p (.lst vs) a = none
    rw [upd_ne ne]
    exact z.1
/-- its content -/
theorem Rl.at (r : Rl K (C.plus p us) ow S σ H) (hA : ¬ C.A0 p) (hio : ∀ i a, C.io i = some a → C.A0 a) : H p = some (.lst us) :=
  r.ext p _ (show upd C.H0 p (.lst us) p = _ from upd_same) fun i z => hA (hio i p z)
/-- it changes -/
theorem Rl.replus (r : Rl K (C.plus p us) ow S σ H) (hA : ¬ C.A0 p) (hio : ∀ i a, C.io i = some a → C.A0 a) (ws : List V) : Rl K (C.plus p ws) ow S σ (upd H p (.lst ws)) := by
  have ap : av (C.plus p us) ow p := .inl (.inr rfl)
  have x : Ext (av (C.plus p us) ow) H (upd H p (.lst ws)) := fun a o n e => by
    rw [upd_ne (show a ≠ p from fun z => n (by rw [z]; exact ap))]
    exact e
  have np : ∀ i ds, S[i]? = some (.own ds) → ow i ≠ some p := fun i ds h z => (r.frs i ds p h z).2 (.inr rfl)
  have np2 : ∀ i ds, own? S[i]? = some ds → ow i ≠ some p := fun i ds e z => by
    cases q : S[i]? with
    | none => rw [q] at e; cases e
    | some x =>
      rw [q] at e
      cases x with
      | own d => exact np i d q z
      | io d => exact hA (hio i p ((r.ios i d q).trans z))
      | nil => cases e
      | val d => cases e
      | nst d => cases e
      | pair d ds => cases e
  have np3 : ∀ i a, NstAt S i → ow i = some a → a ≠ p := fun i a h e z => (r.ns.frn i a h e).2 (by rw [z]; exact .inr rfl)
  refine ⟨r.len, fun i d e => ?_, fun i ds e => ?_, r.ows, r.inj, fun i ds a h1 h2 => ?_, r.ios, r.iok, fun a h => ?_, fun a o h1 h2 => ?_, r.ns.move r.ns.big (fun _ _ q => q) (fun _ _ => rfl) (fun _ _ _ _ => rfl) (fun j a o q e1 e2 => by rw [upd_ne (np3 j a q e1)]; exact e2) (fun ws' ds q => RDs.mono x (Grow.refl _ _) ds ws' q) (fun j a q e z => ⟨?_, z.2⟩)⟩
  · obtain ⟨v, h1, h2⟩ := r.val i d e
    exact ⟨v, h1, RD.mono x (Grow.refl _ _) d v h2⟩
  · obtain ⟨a, vs, h1, h2, h3, h4⟩ := r.own i ds e
    refine ⟨a, vs, h1, h2, ?_, RDs.mono x (Grow.refl _ _) ds vs h4⟩
    rw [upd_ne (show a ≠ p from fun z => np2 i ds e (by rw [h1, z]))]
    exact h3
  · obtain ⟨g1, g2⟩ := r.frs i ds a h1 h2
    refine ⟨?_, g2⟩
    have ne : a ≠ p := fun z => np i ds h1 (by rw [h2, z])
    change upd C.H0 p (.lst us) a = none at g1
    show upd C.H0 p (.lst ws) a = none
    rw [upd_ne ne] at g1 ⊢
    exact g1
  · by_cases e : a = p
    · rw [e]; exact ⟨_, upd_same⟩
    · rw [upd_ne e]; exact r.trk a h
  · change upd C.H0 p (.lst ws) a = some o at h1
    by_cases e : a = p
    · rw [e, upd_same] at h1 ⊢
      exact h1
    · rw [upd_ne e] at h1 ⊢
      exact r.ext a o (show upd C.H0 p (.lst us) a = some o by rw [upd_ne e]; exact h1) h2
  · have ne := np3 j a q e
    have z1 := z.1
    change upd C.H0 p (.lst us) a = none at z1
    show upd C.H0 p (.lst ws) a = none
    rw [upd_ne ne] at z1 ⊢
    exact z1
/-- it is forgotten -/
theorem Rl.minus (r : Rl K (C.plus p us) ow S σ H) (h0 : C.H0 p = none) (hA : ¬ C.A0 p) (hio : ∀ i a, C.io i = some a → C.A0 a) : Rl K C ow S σ (del H p) := by
  have ap : av (C.plus p us) ow p := .inl (.inr rfl)
  have lt : ∀ a, av C ow a → av (C.plus p us) ow a := fun a z => av_plus.mpr (.inl z)
  have np3 : ∀ i a, NstAt S i → ow i = some a → a ≠ p := fun i a h e z => (r.ns.frn i a h e).2 (by rw [z]; exact .inr rfl)
  have np : ∀ i, ow i ≠ some p := fun i z => by
    by_cases eN : NstAt S i
    · exact np3 i p eN z rfl
    obtain ⟨ds, e⟩ := (r.ows i p z).resolve_right eN
    cases q : S[i]? with
    | none => rw [q] at e; cases e
    | some x =>
      rw [q] at e
      cases x with
      | own d => exact (r.frs i d p q z).2 (.inr rfl)
      | io d => exact hA (hio i p ((r.ios i d q).trans z))
      | nil => cases e
      | val d => cases e
      | nst d => cases e
      | pair d ds => cases e
  refine ⟨r.len, fun i d e => ?_, fun i ds e => ?_, r.ows, r.inj, fun i ds a h1 h2 => ?_, r.ios, fun i a e => ?_, fun a h => ?_, fun a o h1 h2 => ?_, r.ns.move r.ns.big (fun _ _ q => q) (fun _ _ => rfl) (fun _ _ _ _ => rfl) (fun j a o q e1 e2 => by rw [del_ne (np3 j a q e1)]; exact e2) (fun ws' ds q => RDs.mono (ext_del ap) (fun a z => .inl (lt a z)) ds ws' q) (fun j a q e z => ⟨?_, fun w => z.2 (.inl w)⟩)⟩
  · obtain ⟨v, h1, h2⟩ := r.val i d e
    exact ⟨v, h1, RD.mono (ext_del ap) (fun a z => .inl (lt a z)) d v h2⟩
  · obtain ⟨a, ws, h1, h2, h3, h4⟩ := r.own i ds e
    refine ⟨a, ws, h1, h2, ?_, RDs.mono (ext_del ap) (fun a z => .inl (lt a z)) ds ws h4⟩
    rw [del_ne (show a ≠ p from fun z => np i (by rw [h1, z]))]
    exact h3
  · obtain ⟨g1, g2⟩ := r.frs i ds a h1 h2
    refine ⟨?_, fun z => g2 (.inl z)⟩
    have ne : a ≠ p := fun z => np i (by rw [h2, z])
    change upd C.H0 p (.lst us) a = none at g1
    rw [upd_ne ne] at g1
    exact g1
  · exact ⟨hio i a e, (r.iok i a e).2⟩
  · rw [del_ne (show a ≠ p from fun z => hA (by rw [← z]; exact h))]
    exact r.trk a (.inl h)
  · have ne : a ≠ p := fun z => by rw [z, h0] at h1; cases h1
    rw [del_ne ne]
    exact r.ext a o (show upd C.H0 p (.lst us) a = some o by rw [upd_ne ne]; exact h1) h2
  · have ne := np3 j a q e
    have z1 := z.1
    change upd C.H0 p (.lst us) a = none at z1
    rw [upd_ne ne] at z1
    exact z1
/-- a slot that owns nothing is emptied -/
theorem Rl.wipe1 (r : Rl K C ow S σ H) {i : Nat} (hi : own? S[i]? = none) (hn : nn S[i]? = true) : Rl K C ow (S.set i .nil) (σ.set i none) H := by
  have gs : ∀ j, j ≠ i → (S.set i .nil)[j]? = S[j]? := fun j e => List.getElem?_set_ne (Ne.symm e)
  have gσ : ∀ j, j ≠ i → (σ.set i none)[j]? = σ[j]? := fun j e => List.getElem?_set_ne (Ne.symm e)
  have gi : ∀ x, (S.set i .nil)[i]? = some x → x = .nil := fun x h => by
    by_cases hl : i < S.length
    · rw [List.getElem?_set_self hl] at h; cases h; rfl
    · rw [List.getElem?_eq_none (by rw [List.length_set]; omega)] at h; cases h
  have key : ∀ j, own? (S.set i .nil)[j]? = own? S[j]? := fun j => by
    by_cases hj : j = i
    · subst hj
      rw [hi]
      cases e : (S.set j .nil)[j]? with
      | none => rfl
      | some x => rw [gi x e]; rfl
    · rw [gs j hj]
  refine ⟨by rw [List.length_set, List.length_set]; exact r.len, fun j d e => ?_, fun j ds e => ?_, fun j a e => ?_, r.inj, fun j ds a h1 h2 => ?_, fun j ds e => ?_, fun j a e => ?_, r.trk, r.ext, r.ns.move (by rw [List.length_set]; exact r.ns.big) (fun _ _ q => (nst_set hn rfl).mp q) (fun _ _ => rfl) (fun j d q _ => gσ j fun z => by rw [← z, q] at hn; cases hn) (fun _ _ _ _ _ q => q) (fun _ _ q => q) (fun _ _ _ _ z => z)⟩
  · by_cases hj : j = i
    · subst hj; have := gi _ e; cases this
    · rw [gs j hj] at e
      rw [gσ j hj]
      exact r.val j d e
  · rw [key j] at e
    obtain ⟨a, vs, h1, h2, h3, h4⟩ := r.own j ds e
    refine ⟨a, vs, h1, ?_, h3, h4⟩
    rw [gσ j fun z => by rw [z, hi] at e; cases e]
    exact h2
  · rw [key j]; exact (r.ows j a e).imp id fun z => z.of fun _ _ q => (nst_set hn rfl).mpr q
  · by_cases hj : j = i
    · subst hj; have := gi _ h1; cases this
    · rw [gs j hj] at h1
      exact r.frs j ds a h1 h2
  · by_cases hj : j = i
    · subst hj; have := gi _ e; cases this
    · rw [gs j hj] at e
      exact r.ios j ds e
  · obtain ⟨h1, ds, h2⟩ := r.iok j a e
    refine ⟨h1, ds, ?_⟩
    rw [gs j fun z => by rw [← z, h2] at hi; cases hi]
    exact h2
def wipeS : List Nat → En → En
  | [], S => S
  | v :: vs, S => (wipeS vs S).set v .nil
theorem wipeS_own {vs : List Nat} (h : ∀ v ∈ vs, own? S[v]? = none) : ∀ j : Nat, own? (wipeS vs S)[j]? = own? S[j]? := by
  induction vs with
  | nil => exact fun _ => rfl
  | cons v vs ih =>
    intro j
    have ih := ih fun w hw => h w (List.mem_cons_of_mem _ hw)
    show own? ((wipeS vs S).set v .nil)[j]? = own? S[j]?
    by_cases hj : v = j
    · subst hj
      rw [h v List.mem_cons_self]
      by_cases hl : v < (wipeS vs S).length
      · rw [List.getElem?_set_self hl]; rfl
      · rw [List.getElem?_eq_none (by rw [List.length_set]; omega)]; rfl
    · rw [List.getElem?_set_ne hj, ih]
theorem wipeS_nn {vs : List Nat} (h : ∀ v ∈ vs, nn S[v]? = true) : ∀ j : Nat, nn S[j]? = true → nn (wipeS vs S)[j]? = true := by
  induction vs with
  | nil => exact fun _ h => h
  | cons v vs ih =>
    intro j hj
    have ih := ih (fun w hw => h w (List.mem_cons_of_mem _ hw)) j hj
    show nn ((wipeS vs S).set v .nil)[j]? = true
    by_cases e : v = j
    · subst e
      by_cases hl : v < (wipeS vs S).length
      · rw [List.getElem?_set_self hl]; rfl
      · rw [List.getElem?_eq_none (by rw [List.length_set]; omega)]; rfl
    · rw [List.getElem?_set_ne e]; exact ih
theorem Rl.wipe (r : Rl K C ow S σ H) : ∀ {vs : List Nat}, (∀ v ∈ vs, own? S[v]? = none ∧ nn S[v]? = true) → Rl K C ow (wipeS vs S) (L2.wipe σ vs) H
  | [], _ => r
  | v :: vs, h => (Rl.wipe r fun w hw => h w (List.mem_cons_of_mem _ hw)).wipe1 (by rw [wipeS_own fun w hw => (h w (List.mem_cons_of_mem _ hw)).1]; exact (h v List.mem_cons_self).1) (wipeS_nn (fun w hw => (h w (List.mem_cons_of_mem _ hw)).2) v (h v List.mem_cons_self).2)
theorem Rl.quiet {C' : Cn} {S4 : En} {σ4 : St} {H4 : Hp} {w : Nat} (r : Rl K C ow S σ H) (h : own? S[w]? = none ∧ nn S[w]? = true) (r5 : Rl K C' ow S4 σ4 H4) : own? S4[w]? = none ∧ nn S4[w]? = true := by
  by_cases hw : w < 4096
  · have on := r.owNone h.1 h.2 hw
    refine ⟨?_, ?_⟩
    · cases e : own? S4[w]? with
      | none => rfl
      | some ds =>
        obtain ⟨a, _, h1, _⟩ := r5.own w ds e
        rw [on] at h1; cases h1
    · cases e : S4[w]? with
      | none => rfl
      | some x =>
        cases x with
        | nst d =>
          obtain ⟨a, _, h1, _⟩ := r5.ns.nst w d e
          rw [on] at h1; cases h1
        | _ => rfl
  · have := r5.ns.big
    rw [List.getElem?_eq_none (by omega)]
    exact ⟨rfl, rfl⟩
theorem Rl.wiped {vs : List Nat} {w : Nat} (r : Rl K C ow S (L2.wipe σ vs) H) (hw : (L2.wipe σ vs)[w]? = none ∨ (L2.wipe σ vs)[w]? = some none) : own? S[w]? = none ∧ nn S[w]? = true := by
  refine ⟨?_, ?_⟩
  · cases e : own? S[w]? with
    | none => rfl
    | some ds =>
      obtain ⟨a, _, _, h1, _⟩ := r.own w ds e
      rcases hw with hw | hw <;> rw [hw] at h1 <;> cases h1
  · cases e : S[w]? with
    | none => rfl
    | some x =>
      cases x with
      | nst d =>
        obtain ⟨a, _, _, h1, _⟩ := r.ns.nst w d e
        rcases hw with hw | hw <;> rw [hw] at h1 <;> cases h1
      | _ => rfl
/-- the slots vs as they were in S0 -/
def unwipe : List Nat → En → En → En
  | [], _, S => S
  | v :: vs, S0, S => match S0[v]? with
    | some x => (unwipe vs S0 S).set v x
    | none => unwipe vs S0 S
theorem unwipe_len : ∀ {vs : List Nat} {S0 S : En}, (unwipe vs S0 S).length = S.length
  | [], _, _ => rfl
  | v :: vs, S0, S => by
    unfold unwipe
    split
    · rw [List.length_set, unwipe_len]
    · exact unwipe_len
theorem unwipe_get : ∀ {vs : List Nat} {S0 S : En}, S0.length = S.length → ∀ j, (unwipe vs S0 S)[j]? = if j ∈ vs then S0[j]? else S[j]?
  | [], _, _, _, j => by rw [if_neg (by simp)]; rfl
  | v :: vs, S0, S, hl, j => by
    have ih := unwipe_get (vs := vs) hl
    unfold unwipe
    by_cases hj : v = j
    · subst hj
      rw [if_pos List.mem_cons_self]
      split
      · rename_i x e
        have := (List.getElem?_eq_some_iff.mp e).1
        rw [List.getElem?_set_self (by rw [unwipe_len]; omega), e]
      · rename_i e
        rw [ih v]
        have h1 := List.getElem?_eq_none_iff.mp e
        have h2 : S[v]? = none := List.getElem?_eq_none_iff.mpr (by omega)
        split <;> simp [e, h2]
    · have : ∀ T : En, (if j ∈ v :: vs then S0[j]? else S[j]?) = if j ∈ vs then S0[j]? else S[j]? := fun _ => by
        have : j ∈ v :: vs ↔ j ∈ vs := by
          rw [List.mem_cons]
          exact ⟨fun z => z.elim (fun z => absurd z.symm hj) id, .inr⟩
        simp only [this]
      rw [this S]
      split
      · rw [List.getElem?_set_ne hj, ih j]
      · exact ih j
theorem Rl.unwipe {C2 : Cn} {S0 : En} {H0 : Hp} {vs : List Nat} (r : Rl K C2 ow S (L2.wipe σ vs) H) (r0 : Rl K C ow S0 σ H0) (x : Ext (av C ow) H0 H) (gw : Grow (av C ow) (av C2 ow) H0) (h0' : ∀ v ∈ vs, own? S0[v]? = none ∧ nn S0[v]? = true) : Rl K C2 ow (Ds.unwipe vs S0 S) σ H := by
  have hl : S0.length = S.length := by rw [r0.len, r.len, wipe_length]
  have g := unwipe_get (vs := vs) hl
  have h0 : ∀ v ∈ vs, own? S0[v]? = none := fun v hv => (h0' v hv).1
  have nS : ∀ v ∈ vs, own? S[v]? = none := fun v hv => (r0.quiet (h0' v hv) r).1
  have nN : ∀ (j : Nat) dss, (Ds.unwipe vs S0 S)[j]? = some (.nst dss) ↔ S[j]? = some (.nst dss) := fun j dss => by
    rw [g j]
    by_cases hj : j ∈ vs
    · rw [if_pos hj]
      have h1 := (h0' j hj).2
      have h2 := (r0.quiet (h0' j hj) r).2
      constructor
      · intro z; rw [z] at h1; cases h1
      · intro z; rw [z] at h2; cases h2
    · rw [if_neg hj]
  have key : ∀ j, own? (Ds.unwipe vs S0 S)[j]? = own? S[j]? := fun j => by
    rw [g j]
    by_cases hj : j ∈ vs
    · rw [if_pos hj, h0 j hj, nS j hj]
    · rw [if_neg hj]
  refine ⟨by rw [unwipe_len, r.len, wipe_length], fun j d e => ?_, fun j ds e => ?_, fun j a e => ?_, r.inj, fun j ds a h1 h2 => ?_, fun j ds e => ?_, fun j a e => ?_, r.trk, r.ext, r.ns.move (by rw [unwipe_len]; exact r.ns.big) (fun j d q => (nN j d).mp q) (fun _ _ => rfl) (fun j d q _ => ?_) (fun _ _ _ _ _ q => q) (fun _ _ q => q) (fun _ _ _ _ z => z)⟩
  · rw [g j] at e
    by_cases hj : j ∈ vs
    · rw [if_pos hj] at e
      obtain ⟨v, h1, h2⟩ := r0.val j d e
      exact ⟨v, h1, RD.mono x gw d v h2⟩
    · rw [if_neg hj] at e
      obtain ⟨v, h1, h2⟩ := r.val j d e
      exact ⟨v, (wipe_some h1).1, h2⟩
  · rw [key j] at e
    obtain ⟨a, ws, h1, h2, h3, h4⟩ := r.own j ds e
    exact ⟨a, ws, h1, (wipe_some h2).1, h3, h4⟩
  · rw [key j]; exact (r.ows j a e).imp id fun z => z.of fun j d q => (nN j d).mpr q
  · rw [g j] at h1
    by_cases hj : j ∈ vs
    · rw [if_pos hj] at h1
      have := h0 j hj
      rw [h1] at this; cases this
    · rw [if_neg hj] at h1
      exact r.frs j ds a h1 h2
  · have e' := e
    rw [g j] at e
    by_cases hj : j ∈ vs
    · rw [if_pos hj] at e
      have := h0 j hj
      rw [e] at this; cases this
    · rw [if_neg hj] at e
      exact r.ios j ds e
  · obtain ⟨h1, ds, h2⟩ := r.iok j a e
    refine ⟨h1, ds, ?_⟩
    rw [g j, if_neg fun hj => ?_]
    · exact h2
    · have := nS j hj
      rw [h2] at this; cases this
  · obtain ⟨a, _, _, h1, _⟩ := r.ns.nst j d q
    rw [h1, (wipe_some h1).1]
end

/-! ### comprehensions -/
def lcL (g : GT) (t : STt) (e : SE) (vs : List Nat) : List PyData → En → R (List PyData)
  | [], S => .ok [] S
  | d :: ds, S => match g d S with
    | .nx S2 => (t S2).bind fun b S3 => if b = true then (e S3).bind fun y S4 => (lcL g t e vs ds (wipeS vs S4)).bind fun ys S5 => .ok (y :: ys) S5 else lcL g t e vs ds (wipeS vs S3)
    | _ => .no
def noEx {α : Type} (x : R α) : R α := match x with
  | .ok a S => .ok a S
  | _ => .no
@[simp] theorem noEx_ok {α : Type} (a : α) (S : En) : noEx (.ok a S) = .ok a S := rfl
def sLc (it : SN) (g : GT) (t : STt) (e : SE) (vs : List Nat) : SN := fun S => (it S).bind fun ds S1 =>
  if (vs.all fun v => (own? S1[v]?).isNone && nn S1[v]?) = true ∧ ds.length < sizeLine then (noEx (lcL g t e vs ds (wipeS vs S1))).bind fun ys S2 => .ok ys (unwipe vs S1 S2) else .no
def sYes : STt := fun S => .ok true S
abbrev W0 : WX := fun _ _ _ _ => False
section
variable {X : Cx} {W : WX} {C : Cn} {elt tg iter : Expr} {ifs : List Expr} {pos : Pos} {it : SN} {g : GT} {t : STt} {se : SE} {vs : List Nat}
theorem ts_nil : PTs X [] (xB X.K X.mg W C sYes) := ⟨fun pins s σ H Q I ⟨ow, S, r, q⟩ => pts_nil.run pins s σ H Q I (pst_ok (mg := X.mg) (W := W) (rel := relB) (d := true) r q rfl)⟩
theorem ts_one {c : Expr} (h : PT X c (xB X.K X.mg W C t)) : PTs X [c] (xB X.K X.mg W C t) := pts_one h
theorem wipe_get : ∀ {vs : List Nat} {σ : St} (j : Nat), (L2.wipe σ vs)[j]? = if j ∈ vs then (σ[j]?).map (fun _ => none) else σ[j]?
  | [], σ, j => by rw [if_neg (by simp)]; rfl
  | v :: vs, σ, j => by
    have ih := wipe_get (vs := vs) (σ := σ) j
    show ((L2.wipe σ vs).set v none)[j]? = _
    by_cases hj : v = j
    · subst hj
      rw [if_pos List.mem_cons_self]
      by_cases hl : v < (L2.wipe σ vs).length
      · have hl' : v < σ.length := by rw [← wipe_length σ vs]; exact hl
        rw [List.getElem?_set_self hl, List.getElem?_eq_getElem hl']
        rfl
      · have hl' : ¬ v < σ.length := by rw [← wipe_length σ vs]; exact hl
        rw [List.getElem?_eq_none (by rw [List.length_set]; omega), List.getElem?_eq_none (by omega)]
        rfl
    · rw [List.getElem?_set_ne hj, ih]
      have : j ∈ v :: vs ↔ j ∈ vs := by
        rw [List.mem_cons]
        exact ⟨fun z => z.elim (fun z => absurd z.symm hj) id, .inr⟩
      simp only [this]
theorem wipe_eq {vs : List Nat} {σ σ' : St} (hl : σ'.length = σ.length) (h : ∀ j, j ∉ vs → σ'[j]? = (L2.wipe σ vs)[j]?) : L2.wipe σ' vs = L2.wipe σ vs := by
  apply List.ext_getElem?
  intro j
  rw [wipe_get j]
  by_cases hj : j ∈ vs
  · rw [if_pos hj, wipe_get j, if_pos hj]
    by_cases h1 : j < σ.length
    · rw [List.getElem?_eq_getElem h1, List.getElem?_eq_getElem (by omega : j < σ'.length)]
      rfl
    · rw [List.getElem?_eq_none (by omega : σ.length ≤ j), List.getElem?_eq_none (by omega : σ'.length ≤ j)]
  · rw [if_neg hj]
    exact h j hj
/-- the loop of a comprehension -/
theorem lc_fin {σ : St} {H : Hp} {Q : VK} {K : PySem.W.Frag} {mg : Str → Option Value} {ts : List Nat} (hpl : Plain g) (hts : ∀ j ∈ ts, j ∈ vs) (h : xN K mg W C (sLc it g t se vs) σ H Q) :
    tLc (xI K mg W C it) (fun v σ' H' Q' => ∃ C', xT K C' g ts v σ' H' Q') (fun σ' H' Q' => ∃ C', xB K mg W0 C' t σ' H' Q') (fun σ' H' Q' => ∃ C', xE K mg W0 C' se σ' H' Q') vs σ H Q := by
  obtain ⟨ow, S, r, q⟩ := h
  change pst K mg W C (relN K) ow σ H Q (sLc it g t se vs S) at q
  unfold sLc at q
  refine ⟨ow, S, r, ?_⟩
  show pst K mg W C (relI K) ow σ H _ (it S)
  cases e0 : it S with
  | no => rw [e0] at q; exact q
  | ex c S' => rw [e0] at q; exact q
  | ok ds S1 =>
    rw [e0, bind_ok] at q
    intro J H1 r1 x1 id D hD
    by_cases z : (vs.all fun v => (own? S1[v]?).isNone && nn S1[v]?) = true ∧ ds.length < sizeLine
    · rw [if_pos z] at q
      have hv : ∀ v ∈ vs, own? S1[v]? = none ∧ nn S1[v]? = true := fun v hv => by
        have w := List.all_eq_true.mp z.1 v hv
        rw [Bool.and_eq_true] at w
        exact ⟨Option.isNone_iff_eq_none.mp w.1, w.2⟩
      have wz : ∀ w ∈ vs, (L2.wipe σ vs)[w]? = none ∨ (L2.wipe σ vs)[w]? = some none := fun w hw => by
        rw [wipe_get w, if_pos hw]
        cases σ[w]? with
        | none => exact .inl rfl
        | some o => exact .inr rfl
      have f0 := r1.fresh0 hD
      have hio : ∀ i a, C.io i = some a → C.A0 a := fun i a e => (r1.iok i a e).1
      have nD : ¬ av C ow D := r1.fresh hD
      cases eL : lcL g t se vs ds (wipeS vs S1) with
      | no => rw [eL] at q; exact q.elim
      | ex c S' => rw [eL] at q; exact q.elim
      | ok zs S2 =>
        rw [eL, noEx_ok, bind_ok] at q
        refine ⟨fun i m H2 => m = ds.length - i ∧ i ≤ ds.length ∧ ∃ T acc ys us, Rl K (C.plus D acc) ow T (wipe σ vs) H2 ∧ Ext (av C ow) H1 (del H2 D) ∧ H2 D = some (.lst acc) ∧ RDs K (av (C.plus D acc) ow) H2 acc ys ∧ acc.length ≤ i ∧ lcL g t se vs (ds.drop i) T = .ok us S2 ∧ ys ++ us = zs,
          ⟨ds.length, by omega, by omega, wipeS vs S1, [], [], zs, (r1.plus hD []).wipe hv, fun a o n e => ?_, upd_same, .nil, Nat.le_refl _, eL, rfl⟩, ?_⟩
        · have ne : a ≠ D := fun w => by rw [w, hD] at e; cases e
          rw [del_ne ne, upd_ne ne]
          exact e
        rintro i m H2 ⟨rfl, hi, T, acc, ys, us, r2, x2, hacc, rds, hlen, eT, eys⟩
        have xD : ∀ {A B : Hp}, Ext (av C ow) A (del B D) → Ext (av C ow) A B := fun {A B} x a o n e => by
          have w := x a o n e
          by_cases ne : a = D
          · rw [ne, del_same] at w; cases w
          · rw [del_ne ne] at w; exact w
        obtain ⟨w1, w2, w3⟩ := id (av (C.plus D acc) ow) H2 (xD x2) (grow_plus hD) r2.tracked
        by_cases hlt : i < ds.length
        · refine .inr ⟨w1 i hlt, _, fun H3 z => ⟨ds.length - (i + 1), by omega, z⟩, fun v H3 y => ?_⟩
          have ed : ds[i]? = some ds[i] := List.getElem?_eq_getElem hlt
          obtain ⟨sm, rd⟩ := w3 i ds[i] v H3 ed y
          rw [List.drop_eq_getElem_cons hlt] at eT
          change (match g ds[i] T with
            | .nx S2 => (t S2).bind fun b S3 => if b = true then (se S3).bind fun y S4 => (lcL g t se vs (ds.drop (i + 1)) (wipeS vs S4)).bind fun ys S5 => .ok (y :: ys) S5 else lcL g t se vs (ds.drop (i + 1)) (wipeS vs S3)
            | _ => .no) = .ok us S2 at eT
          refine ⟨C.plus D acc, ow, T, ds[i], r2.same sm, rd, ?_⟩
          rcases hpl ds[i] T with ⟨S3, e⟩ | e
          · rw [e] at eT ⊢
            simp only at eT
            intro σ3 H4 r3 x3 c3
            have ew : L2.wipe σ3 vs = L2.wipe σ vs := wipe_eq (c3.1.trans (wipe_length σ vs)) fun j hj => c3.2 j fun w => hj (hts j w)
            refine ⟨ew, C.plus D acc, ow, S3, r3, ?_⟩
            -- what stays
            have xx : ∀ {B : Hp}, Ext (av (C.plus D acc) ow) H4 B → Ext (av C ow) H1 (del B D) := fun {B} x a o n e => by
              have e2 := x2 a o n e
              have ne : a ≠ D := fun w => by rw [w, hD] at e; cases e
              rw [del_ne ne] at e2 ⊢
              have nn : ¬ av (C.plus D acc) ow a := fun w => (av_plus.mp w).elim n ne
              exact x a o nn (x3 a o nn (sm a o e2))
            show pst K mg W0 (C.plus D acc) relB ow σ3 H4 _ (t S3)
            cases et : t S3 with
            | no => rw [et] at eT; cases eT
            | ex c S' => rw [et] at eT; cases eT
            | ok b S4 =>
              rw [et, bind_ok] at eT
              intro b' H5 r5 x5 eb
              have eb' : b' = b := eb
              subst eb'
              have r5w := r5.wipe (vs := vs) fun w hw => r2.quiet (r2.wiped (wz w hw)) r5
              rw [ew] at r5w
              have sA : Ext (av (C.plus D acc) ow) H2 H5 := (Ext.same sm).trans (Grow.refl _ _) (x3.trans (Grow.refl _ _) x5)
              cases b' with
              | false => exact iteF ⟨rfl, hlt, wipeS vs S4, acc, ys, us, r5w, xx x5, r5.at f0.2 hio, RDs.mono sA (Grow.refl _ _) ys acc rds, by omega, eT, eys⟩
              | true =>
                refine iteT ⟨C.plus D acc, ow, S4, r5, ?_⟩
                show pst K mg W0 (C.plus D acc) (relE K) ow σ3 H5 _ (se S4)
                simp only [if_true] at eT
                cases es : se S4 with
                | no => rw [es] at eT; cases eT
                | ex c S' => rw [es] at eT; cases eT
                | ok yd S6 =>
                  rw [es, bind_ok] at eT
                  intro yv H6 r6 x6 ry
                  cases eR : lcL g t se vs (ds.drop (i + 1)) (wipeS vs S6) with
                  | no => rw [eR] at eT; cases eT
                  | ex c S' => rw [eR] at eT; cases eT
                  | ok us' S7 =>
                    rw [eR, bind_ok] at eT
                    cases eT
                    have r6w := r6.wipe (vs := vs) fun w hw => r5w.quiet (r5w.wiped (wz w hw)) r6
                    rw [ew] at r6w
                    have rp := r6w.replus f0.2 hio (acc ++ [yv])
                    have nx : Ext (av (C.plus D acc) ow) H6 (upd H6 D (.lst (acc ++ [yv]))) := fun a o n e => by
                      rw [upd_ne (show a ≠ D from fun w => n (by rw [w]; exact .inl (.inr rfl)))]
                      exact e
                    refine ⟨acc, r6.at f0.2 hio, by omega, rfl, hlt, wipeS vs S6, acc ++ [yv], ys ++ [yd], us', rp, xx ((x5.trans (Grow.refl _ _) x6).trans (Grow.refl _ _) nx), upd_same, ?_, by rw [List.length_append, List.length_singleton]; omega, eR, by rw [List.append_assoc]; exact eys⟩
                    have q1 := RDs.mono ((sA.trans (Grow.refl _ _) x6).trans (Grow.refl _ _) nx) (Grow.refl _ _) ys acc rds
                    exact q1.append (.cons (RD.mono nx (Grow.refl _ _) yd yv ry) .nil)
          · rw [e] at eT
            cases eT
        · have e : i = ds.length := by omega
          subst e
          rw [List.drop_length] at eT
          cases eT
          rw [List.append_nil] at eys
          subst eys
          refine .inl ⟨w2, ?_⟩
          have rm := r2.minus f0.1 f0.2 hio
          have r0 := rm.unwipe r1 x2 (Grow.refl _ _) hv
          have rds' := RDs.mono (ext_del (H := H2) (av := av (C.plus D acc) ow) (.inl (.inr rfl))) (fun a w => .inl (av_plus.mpr (.inl w))) ys acc rds
          have e2 : H2 = upd (del H2 D) D (.lst acc) := (upd_del hacc).symm
          rw [e2]
          exact q _ _ (r0.same (same_new del_same)) ((x1.trans (Grow.refl _ _) x2).trans (Grow.refl _ _) (Ext.same (same_new del_same))) ⟨D, acc, del H2 D, rfl, del_same, rfl, x1.trans (Grow.refl _ _) x2, r0, rds'⟩
    · rw [if_neg z] at q
      exact q.elim
end
end Ds
end

section
set_option Elab.async false
set_option linter.all false
set_option maxRecDepth 100000
set_option maxHeartbeats 4000000
namespace Ds
open PySem PySem.Spec PyProof.Rows L2
section
variable {X : Cx} {W : WX} {C : Cn} {elt tg iter e : Expr} {ifs : List Expr} {pos : Pos} {it sn : SN} {g : GT} {t : STt} {se : SE} {vs ts : List Nat} {scope : Scope} {own : List (Str × Nat)} {i : Nat}
theorem n_lc (hc : X.calm = true) (hN : X.N.Nodup) (hpl : Plain g) (hts : ∀ j ∈ ts, j ∈ own.map (·.2)) (hi : PI X tg iter (xI X.K X.mg W C it)) (ok : BlkOk X.N X.env.scope scope own)
    (hg : ∀ (s : Shared) (H : Hp) (A : Addr) (cl : List (Str × Addr)) (fp : List Addr) (C' : Cn), PG (X.blk s H scope (compEnvC scope cl A X.env) fp) tg (xT X.K C' g ts))
    (ht : ∀ (s : Shared) (H : Hp) (A : Addr) (cl : List (Str × Addr)) (fp : List Addr) (C' : Cn), PTs (X.blk s H scope (compEnvC scope cl A X.env) fp) ifs (xB X.K X.mg W0 C' t))
    (he : ∀ (s : Shared) (H : Hp) (A : Addr) (cl : List (Str × Addr)) (fp : List Addr) (C' : Cn), PE (X.blk s H scope (compEnvC scope cl A X.env) fp) elt (xE X.K X.mg W0 C' se))
    (hs : ∀ x, foldedSetIterable iter X.env x = pure x := by intro _; rfl) : PE X (.ListComp elt [⟨tg, iter, ifs, 0⟩] scope pos) (xN X.K X.mg W C (sLc it g t se (own.map (·.2)))) :=
  pe_imp (pe_lc (g := fun v σ' H' Q' => ∃ C', xT X.K C' g ts v σ' H' Q') (tt := fun σ' H' Q' => ∃ C', xB X.K X.mg W0 C' t σ' H' Q') (te := fun σ' H' Q' => ∃ C', xE X.K X.mg W0 C' se σ' H' Q') hc hN hi ok
    (fun s H A cl fp => ⟨fun pins s' σ H' v u Q I r ⟨C', q⟩ => (hg s H A cl fp C').run pins s' σ H' v u Q I r q⟩)
    (fun s H A cl fp => ⟨fun pins s' σ H' Q I ⟨C', q⟩ => (ht s H A cl fp C').run pins s' σ H' Q I q⟩)
    (fun s H A cl fp => ⟨fun pins s' σ H' Q I ⟨C', q⟩ => (he s H A cl fp C').run pins s' σ H' Q I q⟩) hs) fun σ H Q h => lc_fin hpl hts h
theorem asgN {σ : St} {H : Hp} {D : Ends} (h : xS X.K X.mg W C (sSetNew i sn) D σ H) : xN X.K X.mg W C sn σ H fun v H1 => D.nx (σ.set i (some v)) H1 := by
  obtain ⟨ow, S, r, q⟩ := h
  change sst X.K X.mg W C ow H D ((sn S).st fun ds S' => put i (.own ds) S') at q
  refine ⟨ow, S, r, ?_⟩
  show pst X.K X.mg W C (relN X.K) ow σ H _ (sn S)
  cases e : sn S with
  | no => rw [e] at q; exact q
  | ex c S' => rw [e] at q; exact fun H' r' x => q ow σ H' r' x (Grow.refl _ _)
  | ok ds S' =>
    rw [e] at q
    exact fun v H' r' x rd => put_new rd q
theorem asgE {σ : St} {H : Hp} {D : Ends} (h : xS X.K X.mg W C (sSet i (sNE sn)) D σ H) : xN X.K X.mg W C sn σ H fun v H1 => D.nx (σ.set i (some v)) H1 := by
  obtain ⟨ow, S, r, q⟩ := h
  change sst X.K X.mg W C ow H D (((sn S).bind fun ds S' => .ok (.list ds) S').st fun d S' => put i (.val d) S') at q
  refine ⟨ow, S, r, ?_⟩
  show pst X.K X.mg W C (relN X.K) ow σ H _ (sn S)
  cases e : sn S with
  | no => rw [e] at q; exact q
  | ex c S' => rw [e] at q; exact fun H' r' x => q ow σ H' r' x (Grow.refl _ _)
  | ok ds S' =>
    rw [e] at q
    rintro v H' r' x ⟨a, ws, Hm, h1, h2, h3, h4, h5, h6⟩
    subst h1
    subst h3
    exact put_val r' (rd_newL h5.tracked h6 h2) (sst_from x (Grow.refl _ _) q)
section
variable {y : Str} {py spos : Pos}
theorem lc_set {P : TS} (hc : X.calm = true) (hN : X.N.Nodup) (hy : X.N[i]? = some y) (hyl : X.env.scope.names.lookup y = some .local) (hsw : swapsWith (.ListComp elt [⟨tg, iter, ifs, 0⟩] scope pos) (some (.Name y py)) spos.line X.env = pure true)
    (hpl : Plain g) (hts : ∀ j ∈ ts, j ∈ own.map (·.2)) (hi : PI X tg iter (xI X.K X.mg W C it)) (ok : BlkOk X.N X.env.scope scope own)
    (hg : ∀ (s : Shared) (H : Hp) (A : Addr) (cl : List (Str × Addr)) (fp : List Addr) (C' : Cn), PG (X.blk s H scope (compEnvC scope cl A X.env) fp) tg (xT X.K C' g ts))
    (ht : ∀ (s : Shared) (H : Hp) (A : Addr) (cl : List (Str × Addr)) (fp : List Addr) (C' : Cn), PTs (X.blk s H scope (compEnvC scope cl A X.env) fp) ifs (xB X.K X.mg W0 C' t))
    (he : ∀ (s : Shared) (H : Hp) (A : Addr) (cl : List (Str × Addr)) (fp : List Addr) (C' : Cn), PE (X.blk s H scope (compEnvC scope cl A X.env) fp) elt (xE X.K X.mg W0 C' se))
    (hsn : ∀ D σ H, P D σ H → xN X.K X.mg W C (sLc it g t se (own.map (·.2))) σ H fun v H1 => D.nx (σ.set i (some v)) H1)
    (hs : ∀ x, foldedSetIterable iter X.env x = pure x := by intro _; rfl) : PS X (.Assign [.Name y py] (.ListComp elt [⟨tg, iter, ifs, 0⟩] scope pos) spos) P :=
  ps_imp (ps_setLc (g := fun v σ' H' Q' => ∃ C', xT X.K C' g ts v σ' H' Q') (tt := fun σ' H' Q' => ∃ C', xB X.K X.mg W0 C' t σ' H' Q') (te := fun σ' H' Q' => ∃ C', xE X.K X.mg W0 C' se σ' H' Q') hc hN hy hyl hsw hi ok
    (fun s H A cl fp => ⟨fun pins s' σ H' v u Q I r ⟨C', q⟩ => (hg s H A cl fp C').run pins s' σ H' v u Q I r q⟩)
    (fun s H A cl fp => ⟨fun pins s' σ H' Q I ⟨C', q⟩ => (ht s H A cl fp C').run pins s' σ H' Q I q⟩)
    (fun s H A cl fp => ⟨fun pins s' σ H' Q I ⟨C', q⟩ => (he s H A cl fp C').run pins s' σ H' Q I q⟩) hs) fun D σ H h => lc_fin hpl hts (hsn D σ H h)
end

/-! ### a list given up -/
theorem Rl.freeze {K : PySem.W.Frag} {ow : Ow} {S : En} {σ : St} {H : Hp} (r : Rl K C ow S σ H) {ds : List PyData} (hi : S[i]? = some (.own ds)) : ∃ ow', Rl K C ow' (S.set i (.val (.list ds))) σ H ∧ Grow (av C ow) (av C ow') H := by
  obtain ⟨p, vs, h1, h2, h3, h4⟩ := r.own i ds (by rw [hi]; rfl)
  have hl : i < S.length := (List.getElem?_eq_some_iff.mp hi).1
  have f := r.frs i ds p hi h1
  have lt : ∀ a, av C (owSet ow i none) a → av C ow a := fun a z => (av_set z).elim id fun z => by cases z
  have np : ¬ av C (owSet ow i none) p := fun z => by
    rcases z with z | ⟨j, z⟩
    · exact f.2 z
    · unfold owSet at z
      by_cases hj : j = i
      · rw [if_pos hj] at z; cases z
      · rw [if_neg hj] at z
        exact hj (r.inj j i p z h1)
  have gs : ∀ j, j ≠ i → (S.set i (.val (.list ds)))[j]? = S[j]? := fun j e => List.getElem?_set_ne (Ne.symm e)
  have gi : (S.set i (.val (.list ds)))[i]? = some (.val (.list ds)) := List.getElem?_set_self hl
  have oj : ∀ j, j ≠ i → owSet ow i none j = ow j := fun j e => if_neg e
  have oi : owSet ow i none i = none := if_pos rfl
  have hn : nn S[i]? = true := by rw [hi]; rfl
  have h4' : i < 4096 := Nat.lt_of_lt_of_le hl r.ns.big
  refine ⟨owSet ow i none, ⟨by rw [List.length_set]; exact r.len, fun j d e => ?_, fun j es e => ?_, fun j a e => ?_, fun j k a e1 e2 => ?_, fun j es a e1 e2 => ?_, fun j es e => ?_, fun j a e => ?_, r.trk, r.ext, r.ns.move (by rw [List.length_set]; exact r.ns.big) (fun _ _ q => (nst_set hn rfl).mp q) (fun j q => oj j (q.ne hn h4')) (fun _ _ _ _ => rfl) (fun _ _ _ _ _ q => q) (fun _ _ q => rds_less q lt) (fun _ _ _ _ z => z)⟩, fun a z => .inl (lt a z)⟩
  · by_cases hj : j = i
    · subst hj
      rw [gi] at e
      cases e
      exact ⟨.ref p, h2, .lst (.inl ⟨.inl h3, np⟩) (rds_less h4 lt)⟩
    · rw [gs j hj] at e
      obtain ⟨w, e1, e2⟩ := r.val j d e
      exact ⟨w, e1, rd_less e2 lt⟩
  · by_cases hj : j = i
    · subst hj; rw [gi] at e; cases e
    · rw [gs j hj] at e
      obtain ⟨a, ws, e1, e2, e3, e4⟩ := r.own j es e
      exact ⟨a, ws, by rw [oj j hj]; exact e1, e2, e3, rds_less e4 lt⟩
  · by_cases hj : j = i
    · subst hj; rw [oi] at e; cases e
    · rw [oj j hj] at e
      rw [gs j hj]
      exact (r.ows j a e).imp id fun z => z.of fun _ _ q => (nst_set hn rfl).mpr q
  · by_cases hj : j = i
    · subst hj; rw [oi] at e1; cases e1
    · by_cases hk : k = i
      · subst hk; rw [oi] at e2; cases e2
      · rw [oj j hj] at e1
        rw [oj k hk] at e2
        exact r.inj j k a e1 e2
  · by_cases hj : j = i
    · subst hj; rw [gi] at e1; cases e1
    · rw [gs j hj] at e1
      rw [oj j hj] at e2
      exact r.frs j es a e1 e2
  · by_cases hj : j = i
    · subst hj; rw [gi] at e; cases e
    · rw [gs j hj] at e
      rw [oj j hj]
      exact r.ios j es e
  · obtain ⟨g1, es, g2⟩ := r.iok j a e
    refine ⟨g1, es, ?_⟩
    rw [gs j fun z => by rw [z, hi] at g2; cases g2]
    exact g2
def sFrz (i : Nat) (s : SS) : SS := fun S => match own1? S[i]? with
  | some ds => s (S.set i (.val (.list ds)))
  | none => .no
theorem ss_frz {sts : List Stmt} {s : SS} (i : Nat) (h : PSs X sts (xS X.K X.mg W C s)) : PSs X sts (xS X.K X.mg W C (sFrz i s)) := pss_imp h fun D σ H ⟨ow, S, r, q⟩ => by
  change sst X.K X.mg W C ow H D (sFrz i s S) at q
  unfold sFrz at q
  cases e : own1? S[i]? with
  | none => rw [e] at q; exact q.elim
  | some ds =>
    rw [e] at q
    obtain ⟨ow', r', g'⟩ := r.freeze (own1?_some e)
    exact ⟨ow', _, r', sst_from (Ext.refl _ _) g' q⟩

/-! ### l[k] = e -/
def setI (ds : List PyData) (k d : PyData) : Option (List PyData) := match k with
  | .int j => if 0 ≤ j ∧ j < ds.length then some (ds.set j.toNat d) else none
  | _ => none
def sSetIx (i : Nat) (sk se : SE) : SS := fun S => (se S).st fun d S1 => if (own? S1[i]?).isSome = true then (sk S1).st fun k S2 => match own? S2[i]? with
  | some ds => match setI ds k d with
    | some es => .nx (upL i es S2)
    | none => .no
  | none => .no
  else .no
theorem s_setIx {sk : SE} {k : Expr} (he : PE X e (xE X.K X.mg W C se)) (hk : PE X k (xE X.K X.mg W C sk)) (hp : ∀ {t u : TE}, PE X e t → PE X k u → PS X (.Assign [tg] e pos) (tAsg t (gSub (tVar i) u rSetL))) : PS X (.Assign [tg] e pos) (xS X.K X.mg W C (sSetIx i sk se)) :=
  ps_imp (hp he hk) fun D σ H ⟨ow, S, r, q⟩ => seqS r q fun S1 d x H1 r1 x1 rd k1 => by
    cases e1 : own? S1[i]? with
    | none => rw [e1] at k1; exact k1.elim
    | some ds =>
      rw [e1] at k1
      obtain ⟨a, vs, h0, h1, h2, h3⟩ := r1.own i ds e1
      refine ⟨.ref a, h1, seqS r1 k1 fun S2 kd kv H2 r2 x2 rk k2 => ?_⟩
      cases e2 : own? S2[i]? with
      | none => rw [e2] at k2; exact k2.elim
      | some es =>
        rw [e2] at k2
        obtain ⟨b, ws, g0, g1, g2, g3⟩ := r2.own i es e2
        rw [h0] at g0; cases g0
        cases rk with
        | int j =>
          change sst X.K X.mg W C ow H2 D (match setI es (.int j) d with | some es => .nx (upL i es S2) | none => .no) at k2
          unfold setI at k2
          by_cases z : 0 ≤ j ∧ j < es.length
          · simp only [if_pos z] at k2
            have hw : ws.length = es.length := g3.len
            obtain ⟨r3, x3⟩ := r2.up (es := es.set j.toNat d) (vs := ws.set j.toNat x) e2 h0 (RDs.set (RD.mono x2 (Grow.refl _ _) d x rd) j.toNat g3)
            exact ⟨a, ws, j, j.toNat, rfl, rfl, g2, by unfold ixN; rw [if_pos z.1, if_pos (by omega)], k2 ow σ _ r3 x3 (Grow.refl _ _)⟩
          · simp only [if_neg z] at k2
            exact k2.elim
        | _ => exact k2.elim
/-- a new list at p, kept aside, comes into slot i -/
theorem Rl.adopt {K : PySem.W.Frag} {ow : Ow} {S : En} {σ : St} {H : Hp} {p : Addr} {vs : List V} {ds : List PyData} (r : Rl K (C.plus p vs) ow S σ H) (h0 : C.H0 p = none) (hA : ¬ C.A0 p) (hio : ∀ i a, C.io i = some a → C.A0 a) (hi : noio S[i]? = true) (rd : RDs K (av (C.plus p vs) ow) H vs ds) :
    Rl K C (owSet ow i (some p)) (S.set i (.own ds)) (σ.set i (some (.ref p))) H := by
  have hm := r.minus h0 hA hio
  have e := r.at hA hio
  have rd' := RDs.mono (ext_del (H := H) (av := av (C.plus p vs) ow) (.inl (.inr rfl))) (fun a w => .inl (av_plus.mpr (.inl w))) ds vs rd
  have := hm.putN hi del_same rd'
  rw [upd_del e] at this
  exact this
/-- x, y = e1, e2, two new lists -/
def sPar (i j : Nat) (s1 s2 : SN) : SS := fun S => (s1 S).st fun ds S1 => (noEx (s2 S1)).st fun es S2 => match put i (.own ds) S2 with
  | .nx S3 => put j (.own es) S3
  | _ => .no
theorem s_par {e1 e2 : Expr} {s1 s2 : SN} {j : Nat} {tgs : List Expr} {k2 pt2} (h1 : PE X e1 (xN X.K X.mg W C s1)) (h2 : ∀ C', PE X e2 (xN X.K X.mg W C' s2)) (hij : i ≠ j)
    (hp : ∀ {t u : TE}, PE X e1 t → PE X e2 u → PS X (.Assign tgs (.Tuple [e1, e2] k2 pt2) pos) (tPar i j (tCons t (tCons u tNil)))) : PS X (.Assign tgs (.Tuple [e1, e2] k2 pt2) pos) (xS X.K X.mg W C (sPar i j s1 s2)) :=
  ps_imp (hp (u := fun σ H Q => ∃ C', xN X.K X.mg W C' s2 σ H Q) h1 ⟨fun pins s σ H Q I ⟨C', q⟩ => (h2 C').run pins s σ H Q I q⟩) fun D σ H ⟨ow, S, r, q⟩ => by
    change sst X.K X.mg W C ow H D ((s1 S).st fun ds S1 => (noEx (s2 S1)).st fun es S2 => match put i (.own ds) S2 with | .nx S3 => put j (.own es) S3 | _ => .no) at q
    refine ⟨ow, S, r, ?_⟩
    show pst X.K X.mg W C (relN X.K) ow σ H _ (s1 S)
    cases ea : s1 S with
    | no => rw [ea] at q; exact q
    | ex c S' => rw [ea] at q; exact fun H' r' x => q ow σ H' r' x (Grow.refl _ _)
    | ok ds S1 =>
      rw [ea] at q
      rintro v H1 r1 x1 ⟨a, vs, Hm, e1, e2, e3, e4, e5, e6⟩
      subst e1
      subst e3
      have f0 := e5.fresh0 e2
      have hio : ∀ i a, C.io i = some a → C.A0 a := fun i a e => (e5.iok i a e).1
      have rp := e5.plus e2 vs
      refine ⟨C.plus a vs, ow, S1, rp, ?_⟩
      show pst X.K X.mg W (C.plus a vs) (relN X.K) ow σ _ _ (s2 S1)
      rw [st_ok] at q
      cases eb : s2 S1 with
      | no => rw [eb] at q; exact q
      | ex c S' => rw [eb] at q; exact q.elim
      | ok es S2 =>
        rw [eb, noEx_ok, st_ok] at q
        rintro w H2 r2 x2 ⟨b, ws, Hn, g1, g2, g3, g4, g5, g6⟩
        subst g1
        subst g3
        refine ⟨.ref a, .ref b, rfl, ?_⟩
        unfold put at q
        by_cases hi : noio S2[i]? = true
        · simp only [if_pos hi] at q
          by_cases hj : noio (S2.set i (.own ds))[j]? = true
          · simp only [if_pos hj] at q
            have rds := RDs.mono ((Ext.same (same_new e2)).trans (grow_plus (us := vs) e2) g4) (grow_plus (us := vs) e2) ds vs e6
            have ra := g5.adopt (i := i) f0.1 f0.2 hio hi rds
            have ex1 : Ext (av C ow) Hm Hn := fun c o n e => g4 c o (fun z => (av_plus.mp z).elim n fun z => by rw [z, e2] at e; cases e) ((same_new e2) c o e)
            have gr : Grow (av C ow) (av C (owSet ow i (some a))) Hm := grow_set fun c z => by cases z; exact e2
            have g6' : RDs X.K (av C (owSet ow i (some a))) Hn ws es := rds_less g6 fun c z => av_plus.mpr ((av_set z).imp id fun z => by cases z; rfl)
            have rb := ra.putN (i := j) hj g2 g6'
            refine q _ _ _ rb ?_ ?_
            · exact (e4.trans (Grow.refl _ _) ex1).trans (Grow.refl _ _) (Ext.same (same_new g2))
            · exact Grow.trans (Grow.refl _ _) e4 (gr.trans ex1 (grow_set fun c z => by cases z; exact g2))
          · simp only [if_neg hj] at q
            exact q.elim
        · simp only [if_neg hi] at q
          exact q.elim
end
end Ds
end

section
set_option Elab.async false
set_option linter.all false
set_option maxRecDepth 100000
set_option maxHeartbeats 4000000
namespace Ds
open PySem PySem.Spec PyProof.Rows L2
section
variable {X : Cx}
/-! ### operators, by values -/
/-- l + m for lists of any kind -/
def rCatS (K : PySem.W.Frag) : R2 := fun x y H Q => ∃ l b xs zs, x = .ref l ∧ y = .ref b ∧ SqL K H l xs ∧ SqL K H b zs ∧ xs.length + zs.length ≤ sizeLine ∧ ∀ p, H p = none → Q (.ref p) (upd H p (.lst (xs ++ zs)))
theorem op_catS : OpR X (binaryOp .Add) (rCatS X.K) := by
  intro pins s σ H x y v u Q I rx ry h
  obtain ⟨l, b, xs, zs, rfl, rfl, hH, hB, hz, q⟩ := h
  cases rx
  cases ry
  obtain ⟨its, r, p1, z1⟩ := I.list hH
  obtain ⟨its2, r2, p2, z2⟩ := I.list hB
  obtain ⟨⟨c, dd, dt, sl⟩, n, e, h1, h2, h3⟩ := p1
  obtain ⟨⟨c', dd', dt', sl'⟩, n', e', h1', h2', h3'⟩ := p2
  simp only at h1 h2 h3 h1' h2' h3'
  subst h1 h2 h3 h1' h2' h3'
  have es : its.toArray ++ its2.toArray = (its ++ its2).toArray := by simp
  refine concat_meets ⟨_, e, rfl⟩ ⟨_, e', rfl⟩ noFill_list_add seq_list_add PySem.F.slot_list_add PySem.F.entry_list_add (PySem.F.args_list_add_2 _ _) (list_addW l b its.toArray its2.toArray n n' none none sl sl' (by rw [List.size_toArray, List.size_toArray, ← r.length, ← r2.length]; exact hz)) ⟨e, e', ?_⟩
  rw [es]
  exact ⟨.ref _, _, I.lnew (t' := s.toks) (r.append r2) (by rw [List.length_append]; exact hz), rfl, q _ I.fresh⟩

variable {K : PySem.W.Frag}
/-- x + y -/
def gAdd : PyData → PyData → Option PyData
  | .int i, .int j => some (.int (i + j))
  | .str x, .str y => if x.length + y.length ≤ sizeLine then some (.str (x ++ y)) else none
  | .tuple xs, .tuple ys => if xs.length + ys.length ≤ sizeLine then some (.tuple (xs ++ ys)) else none
  | .list xs, .list ys => if xs.length + ys.length ≤ sizeLine then some (.list (xs ++ ys)) else none
  | _, _ => none
def rCatF (K : PySem.W.Frag) : R2 := fun x y H Q => ∃ a b xs ys, x = .ref a ∧ y = .ref b ∧ SqT K H a xs ∧ SqT K H b ys ∧ xs.length + ys.length ≤ sizeLine ∧ (xs = [] → Q (.ref b) H) ∧ (xs ≠ [] → ys = [] → Q (.ref a) H) ∧ (xs ≠ [] → ys ≠ [] → NT H (xs ++ ys) Q)
theorem op_catF {X : Cx} : OpR X (binaryOp .Add) (rCatF X.K) := by
  intro pins s σ H x y v u Q I rx ry h
  obtain ⟨a, b, xs, ys, rfl, rfl, ha, hb, hz, q0, q1, q2⟩ := h
  cases rx
  cases ry
  obtain ⟨us, r1, p1, _⟩ := I.tuple ha
  obtain ⟨ws, r2, p2, _⟩ := I.tuple hb
  by_cases hx : xs = []
  · subst hx
    cases r1
    exact cat_tup0 p1 p2 ⟨.ref b, H, I, rfl, q0 rfl⟩
  · refine HT.cat_tup p1 p2 (fun z => hx (r1.nil_iff.mp z)) (fun z => ⟨.ref a, H, I, rfl, q1 hx (r2.nil_iff.mp z)⟩) (fun z => ?_) (by rw [← r1.length, ← r2.length]; exact hz)
    exact (q2 hx fun w => z (r2.nil_iff.mpr w)).run (tk := s.toks) I (r1.append r2) (by rw [List.length_append]; exact hz)
def rAddA (K : PySem.W.Frag) : R2 := fun x y H Q => (rI0 fun i j => .int (i + j)) x y H Q ∨ ((∃ i j, x = .str i ∧ y = .str j ∧ i.length + j.length ≤ sizeLine ∧ Q (.str (i ++ j)) H) ∨ (rCatF K x y H Q ∨ rCatS K x y H Q))
theorem or_add : OpR X (binaryOp .Add) (rAddA X.K) := op_add.or (op_add_str.or (op_catF.or op_catS))
theorem od_add : OpD K (rAddA K) gAdd := fun av H x y d e z Q tr rx ry g q => by
  cases rx with
  | int i =>
    cases ry with
    | int j =>
      cases g
      exact .inl ⟨i, j, rfl, rfl, q _ H (Same.refl H) (.int _)⟩
    | _ => cases g
  | str a =>
    cases ry with
    | str b =>
      change (if a.length + b.length ≤ sizeLine then some (PyData.str (a ++ b)) else none) = some z at g
      by_cases h : a.length + b.length ≤ sizeLine
      · rw [if_pos h] at g
        cases g
        exact .inr (.inl ⟨a, b, rfl, rfl, h, q _ H (Same.refl H) (.str _)⟩)
      · rw [if_neg h] at g; cases g
    | _ => cases g
  | @tup a xs ds h1 h2 =>
    cases ry with
    | @tup b ys es h3 h4 =>
      change (if ds.length + es.length ≤ sizeLine then some (PyData.tuple (ds ++ es)) else none) = some z at g
      by_cases h : ds.length + es.length ≤ sizeLine
      · rw [if_pos h] at g
        cases g
        refine .inr (.inr (.inl ⟨a, b, xs, ys, rfl, rfl, h1.sq, h3.sq, by rw [h2.len, h4.len]; exact h, fun e => ?_, fun _ e => ?_, fun _ _ p o np d c => ?_⟩))
        · subst e
          cases h2
          exact q _ H (Same.refl H) (.tup h3 h4)
        · subst e
          cases h4
          rw [List.append_nil] at q
          exact q _ H (Same.refl H) (.tup h1 h2)
        · exact q _ _ (same_new np) (rd_newT tr (h2.append h4) np d c)
      · rw [if_neg h] at g; cases g
    | _ => cases g
  | @lst a xs ds h1 h2 =>
    cases ry with
    | @lst b ys es h3 h4 =>
      change (if ds.length + es.length ≤ sizeLine then some (PyData.list (ds ++ es)) else none) = some z at g
      by_cases h : ds.length + es.length ≤ sizeLine
      · rw [if_pos h] at g
        cases g
        exact .inr (.inr (.inr ⟨a, b, xs, ys, rfl, rfl, h1.sq, h3.sq, by rw [h2.len, h4.len]; exact h, fun p np => q _ _ (same_new np) (rd_newL tr (h2.append h4) np)⟩))
      · rw [if_neg h] at g; cases g
    | _ => cases g
  | _ => cases ry <;> cases g
def gII (C : Int → Int → Bool) (f : Int → Int → Int) : PyData → PyData → Option PyData
  | .int i, .int j => if C i j = true then some (.int (f i j)) else none
  | _, _ => none
theorem od_II {C : Int → Int → Bool} {P : Int → Int → Prop} {f : Int → Int → Int} (h : ∀ i j, C i j = true → P i j) : OpD K (rI P fun i j => .int (f i j)) (gII C f) := fun av H x y d e z Q tr rx ry g q => by
  cases rx with
  | int i =>
    cases ry with
    | int j =>
      change (if C i j = true then some (PyData.int (f i j)) else none) = some z at g
      by_cases c : C i j = true
      · rw [if_pos c] at g
        cases g
        exact ⟨i, j, rfl, rfl, h i j c, q _ H (Same.refl H) (.int _)⟩
      · rw [if_neg c] at g; cases g
    | _ => cases g
  | _ => cases ry <;> cases g
theorem od_I0 {f : Int → Int → Int} : OpD K (rI0 fun i j => .int (f i j)) (gII (fun _ _ => true) f) := fun av H x y d e z Q tr rx ry g q => by
  cases rx with
  | int i =>
    cases ry with
    | int j => cases g; exact ⟨i, j, rfl, rfl, q _ H (Same.refl H) (.int _)⟩
    | _ => cases g
  | _ => cases ry <;> cases g
def gSub_ : PyData → PyData → Option PyData := gII (fun _ _ => true) fun i j => i - j
theorem od_sub : OpD K (rI0 fun i j => .int (i - j)) gSub_ := od_I0
/-- products: together less than a million bits -/
def cMul (i j : Int) : Bool := decide (i.natAbs.log2 + j.natAbs.log2 < 1000000)
def gMul : PyData → PyData → Option PyData := gII cMul fun i j => i * j
theorem od_mul : OpD K (rI CMulW fun i j => .int (i * j)) gMul := od_II fun i j h => by
  show i.natAbs.log2 + j.natAbs.log2 < 1000000
  exact of_decide_eq_true h
def cDiv (_ j : Int) : Bool := decide (0 < j) && decide (j.natAbs.log2 < 9000)
def gDiv : PyData → PyData → Option PyData := gII cDiv fun i j => i / j
theorem od_div : OpD K (rI CDivW fun i j => .int (i / j)) gDiv := od_II fun _ j h => by
  unfold cDiv at h
  rw [Bool.and_eq_true] at h
  exact ⟨of_decide_eq_true h.1, of_decide_eq_true h.2⟩
def cMod (_ j : Int) : Bool := decide (0 < j)
def gMod : PyData → PyData → Option PyData := gII cMod fun i j => i % j
theorem od_mod : OpD K (rI (fun _ j => 0 < j) fun i j => .int (i % j)) gMod := od_II fun _ _ h => of_decide_eq_true h
def cPow (i j : Int) : Bool := decide (0 ≤ j ∧ j ≤ 1000000 ∧ i.natAbs < 2 ^ 64)
def gPow : PyData → PyData → Option PyData := gII cPow fun i j => i ^ j.toNat
theorem od_pow : OpD K (rI CPow fun i j => .int (i ^ j.toNat)) gPow := od_II fun i j h => by
  show 0 ≤ j ∧ j ≤ 1000000 ∧ i.natAbs < 2 ^ 64
  exact of_decide_eq_true h
/-- comparisons of ints -/
def gCI (f : Int → Int → Bool) : PyData → PyData → Option PyData
  | .int i, .int j => some (.bool (f i j))
  | _, _ => none
theorem od_CI {f : Int → Int → Bool} : OpD K (rI0 fun i j => .bl (f i j)) (gCI f) := fun av H x y d e z Q tr rx ry g q => by
  cases rx with
  | int i =>
    cases ry with
    | int j => cases g; exact ⟨i, j, rfl, rfl, q _ H (Same.refl H) (.bl _)⟩
    | _ => cases g
  | _ => cases ry <;> cases g
def gLt := gCI fun i j => decide (i < j)
def gLe := gCI fun i j => decide (i ≤ j)
def gGt := gCI fun i j => decide (j < i)
def gGe := gCI fun i j => decide (j ≤ i)
theorem od_lt : OpD K (rI0 fun i j => .bl (decide (i < j))) gLt := od_CI
theorem od_le : OpD K (rI0 fun i j => .bl (decide (i ≤ j))) gLe := od_CI
theorem od_gt : OpD K (rI0 fun i j => .bl (decide (j < i))) gGt := od_CI
theorem od_ge : OpD K (rI0 fun i j => .bl (decide (j ≤ i))) gGe := od_CI
/-- == of data without dicts -/
def okEq (d : PyData) : Bool := SeqAt.shaped d && !PyData.hasDict d && (match d with | .dict _ => false | _ => true)
theorem okEq_of {d : PyData} (h : okEq d = true) : SeqAt.shaped d = true ∧ PyData.hasDict d = false ∧ d ≠ .dict [] := by
  unfold okEq at h
  rw [Bool.and_eq_true, Bool.and_eq_true] at h
  refine ⟨h.1.1, by simpa using h.1.2, fun e => ?_⟩
  rw [e] at h
  simp at h
def bothS : PyData → PyData → Option Bool
  | .str x, .str y => some (x == y)
  | _, _ => none
theorem bothS_some {d e : PyData} {b : Bool} (h : bothS d e = some b) : ∃ x y, d = .str x ∧ e = .str y ∧ b = (x == y) := by
  cases d with
  | str x =>
    cases e with
    | str y => cases h; exact ⟨x, y, rfl, rfl, rfl⟩
    | _ => cases h
  | _ => cases h
def gEq (d e : PyData) : Option PyData := match bothS d e with
  | some b => some (.bool b)
  | none => if okEq d = true ∧ okEq e = true then some (.bool (PyData.eqv d e)) else none
def gNe (d e : PyData) : Option PyData := match bothS d e with
  | some b => some (.bool (!b))
  | none => if okEq d = true ∧ okEq e = true then some (.bool (!PyData.eqv d e)) else none
def rEqA (K : PySem.W.Frag) : R2 := fun x y H Q => rEq x y H Q ∨ rEqD K x y H Q
def rNeA (K : PySem.W.Frag) : R2 := fun x y H Q => rNe x y H Q ∨ rNeD K x y H Q
theorem op_eqA (hu : X.A.units + 64 < cLine) : OpR X (compareOp .Eq) (rEqA X.K) := op_eq.or (op_eqD hu)
theorem op_neA (hu : X.A.units + 64 < cLine) : OpR X (compareOp .NotEq) (rNeA X.K) := op_ne.or (op_neD hu)
theorem decS {x y : Str} : decide (V.str x = V.str y) = (x == y) := by
  rw [Bool.eq_iff_iff]; simp
theorem od_eq : OpD K (rEqA K) gEq := fun av H x y d e z Q tr rx ry g q => by
  unfold gEq at g
  cases c0 : bothS d e with
  | some b =>
    rw [c0] at g
    cases g
    obtain ⟨u, v, rfl, rfl, rfl⟩ := bothS_some c0
    cases rx
    cases ry
    exact .inl ⟨rfl, by rw [decS]; exact q _ H (Same.refl H) (.bl _)⟩
  | none =>
    rw [c0] at g
    by_cases c : okEq d = true ∧ okEq e = true
    · simp only [if_pos c] at g
      cases g
      obtain ⟨a1, a2, a3⟩ := okEq_of c.1
      obtain ⟨b1, b2, b3⟩ := okEq_of c.2
      exact .inr ⟨d, e, RD.dp d x rx a3 a2, RD.dp e y ry b3 b2, a1, b1, q _ H (Same.refl H) (.bl _)⟩
    · simp only [if_neg c] at g; cases g
theorem od_ne : OpD K (rNeA K) gNe := fun av H x y d e z Q tr rx ry g q => by
  unfold gNe at g
  cases c0 : bothS d e with
  | some b =>
    rw [c0] at g
    cases g
    obtain ⟨u, v, rfl, rfl, rfl⟩ := bothS_some c0
    cases rx
    cases ry
    exact .inl ⟨rfl, by rw [decS]; exact q _ H (Same.refl H) (.bl _)⟩
  | none =>
    rw [c0] at g
    by_cases c : okEq d = true ∧ okEq e = true
    · simp only [if_pos c] at g
      cases g
      obtain ⟨a1, a2, a3⟩ := okEq_of c.1
      obtain ⟨b1, b2, b3⟩ := okEq_of c.2
      exact .inr ⟨d, e, RD.dp d x rx a3 a2, RD.dp e y ry b3 b2, a1, b1, q _ H (Same.refl H) (.bl _)⟩
    · simp only [if_neg c] at g; cases g
/-- x[i] of a tuple, a list, a text -/
def gIx : PyData → PyData → Option PyData
  | .tuple ds, .int i => atI ds i
  | .list ds, .int i => atI ds i
  | .str z, .int i => if z.length ≤ sizeLine then (atI z.cps.toList i).map fun c => .str ⟨#[c]⟩ else none
  | _, _ => none
theorem RDs.atI {av : Addr → Prop} {H : Hp} {vs : List V} {ds : List PyData} (h : RDs K av H vs ds) {i : Int} {d : PyData} (e : L2.atI ds i = some d) : ∃ v, L2.atI vs i = some v ∧ RD K av H v d := by
  unfold L2.atI at e ⊢
  rw [h.len]
  cases q : ixN ds.length i with
  | none => rw [q] at e; cases e
  | some j =>
    rw [q] at e
    exact h.get (i := j) e
theorem od_ix : OpD K (rIx K) gIx := fun av H x y d e z Q tr rx ry g q => by
  cases rx with
  | @tup a xs ds h1 h2 =>
    cases ry with
    | int i =>
      obtain ⟨v, e1, e2⟩ := h2.atI (i := i) g
      exact .inr (.inl ⟨a, xs, i, v, rfl, rfl, h1.sq, e1, q v H (Same.refl H) e2⟩)
    | _ => cases g
  | @lst a xs ds h1 h2 =>
    cases ry with
    | int i =>
      obtain ⟨v, e1, e2⟩ := h2.atI (i := i) g
      exact .inl ⟨a, xs, i, v, rfl, rfl, h1.sq, e1, q v H (Same.refl H) e2⟩
    | _ => cases g
  | str w =>
    cases ry with
    | int i =>
      change (if w.length ≤ sizeLine then (atI w.cps.toList i).map fun c => PyData.str ⟨#[c]⟩ else none) = some z at g
      by_cases c : w.length ≤ sizeLine
      · rw [if_pos c] at g
        cases e : atI w.cps.toList i with
        | none => rw [e] at g; cases g
        | some k =>
          rw [e] at g
          cases g
          exact .inr (.inr ⟨w, i, k, rfl, rfl, c, e, q _ H (Same.refl H) (.str _)⟩)
      · rw [if_neg c] at g; cases g
    | _ => cases g
  | _ => cases ry <;> cases g
/-- l[i], the list of a slot -/
def sIxL (sl : SN) (sb : SE) : SE := fun S => (sl S).bind fun ds S1 => (sb S).bind fun k _ => R.opt (gIx (.list ds) k) S1
variable {W : WX} {C : Cn} {a b e : Expr} {pos : Pos} {sa sb : SE} {i : Nat}
/-- the index is a constant or a name -/
def sIxV (i : Nat) (sb : SE) : SE := fun S => if (lst? S[i]?).isSome = true then (sb S).bind fun k S1 => match lst? S1[i]? with
  | some ds => R.opt (gIx (.list ds) k) S1
  | none => .no
  else .no
theorem lst_addr {ow : Ow} {S S1 : En} {σ : St} {H H1 : Hp} (r : Rl K C ow S σ H) (r1 : Rl K C ow S1 σ H1) {ds : List PyData} (h : lst? S1[i]? = some ds) : ∃ a vs, σ[i]? = some (some (.ref a)) ∧ SqL K H1 a vs ∧ RDs K (av C ow) H1 vs ds := r1.list h
theorem e_ixV (ho : PE X a (tVar i)) (hb : PE X b (xE X.K X.mg W C sb)) (hs : PlainIx b) : PE X (.Subscript a b pos) (xE X.K X.mg W C (sIxV i sb)) := pe_imp (pe_ix ix_seq ho hb hs) fun σ H Q ⟨ow, S, r, q⟩ => by
  change pst X.K X.mg W C (relE X.K) ow σ H Q (sIxV i sb S) at q
  unfold sIxV at q
  cases e : lst? S[i]? with
  | none => rw [e] at q; exact q.elim
  | some ds =>
    rw [e] at q
    obtain ⟨p, vs, h1, _⟩ := r.list e
    refine ⟨.ref p, h1, seq early_E r q fun S1 k x H1 r1 x1 rk k1 => ?_⟩
    cases e1 : lst? S1[i]? with
    | none => rw [e1] at k1; exact k1.elim
    | some es =>
      rw [e1] at k1
      obtain ⟨p2, ws, g1, g2, g3⟩ := r1.list e1
      rw [h1] at g1; cases g1
      cases rk with
      | int j =>
        change pst X.K X.mg W C (relE X.K) ow σ H1 Q (R.opt (atI es j) S1) at k1
        cases e2 : atI es j with
        | none => rw [e2] at k1; exact k1.elim
        | some d =>
          rw [e2] at k1
          obtain ⟨v, e3, e4⟩ := g3.atI (i := j) e2
          exact .inl ⟨p, ws, j, v, rfl, rfl, g2, e3, pst_ok r1 k1 e4⟩
      | _ => exact k1.elim
/-- l[i], the list new -/
def sIxN (sn : SN) (sb : SE) : SE := sBin gIx (sNE sn) sb
theorem e_ixN {sn : SN} (ha : PE X a (xN X.K X.mg W C sn)) (hb : PE X b (xE X.K X.mg W C sb)) (hs : PlainIx b) : PE X (.Subscript a b pos) (xE X.K X.mg W C (sIxN sn sb)) := e_ix ix_seq od_ix (e_of_n ha) hb hs
/-- -e -/
def sNeg (sa : SE) : SE := fun S => (sa S).bind fun d S1 => match d with
  | .int i => .ok (.int (-i)) S1
  | _ => .no
theorem e_neg (ha : PE X a (xE X.K X.mg W C sa)) : PE X (.UnaryOp .USub a pos) (xE X.K X.mg W C (sNeg sa)) := pe_imp (pe_un un_neg ha) fun σ H Q ⟨ow, S, r, q⟩ => seq early_E r q fun S1 d v H1 r1 x1 rd k => by
  cases rd with
  | int i => exact ⟨i, rfl, pst_ok r1 k (.int _)⟩
  | _ => exact k.elim
end
end Ds
end

section
set_option Elab.async false
set_option linter.all false
set_option maxRecDepth 100000
set_option maxHeartbeats 4000000
namespace Ds
open PySem PySem.Spec PyProof.Rows L2
section
variable {X : Cx} {K : PySem.W.Frag} {W : WX} {C : Cn} {a b c e : Expr} {pos : Pos} {sa sb sc se : SE} {sn sl sr : SN} {i : Nat}
/-! ### len -/
def gLen : List PyData → Option PyData
  | [.tuple ds] => some (.int ds.length)
  | [.list ds] => some (.int ds.length)
  | [.str x] => if x.length ≤ sizeLine then some (.int x.length) else none
  | _ => none
def rLenD (K : PySem.W.Frag) : List V → Hp → VK → Prop := fun xs H Q => ∃ x n, xs = [x] ∧ LenV K x H n ∧ Q (.int n) H
theorem cd_len : CallD K (rLenD K) gLen := fun av H xs ds z Q tr r g q => by
  match ds, r, g with
  | [.tuple es], .cons (.tup h1 h2) .nil, g => cases g; exact ⟨_, _, rfl, .inr ⟨_, h1.sq, rfl⟩, by rw [h2.len]; exact q _ H (Same.refl H) (.int _)⟩
  | [.list es], .cons (.lst h1 h2) .nil, g => cases g; exact ⟨_, _, rfl, .inl ⟨_, h1.sq, rfl⟩, by rw [h2.len]; exact q _ H (Same.refl H) (.int _)⟩
  | [.str x], .cons (.str _) .nil, g =>
    change (if x.length ≤ sizeLine then some (PyData.int x.length) else none) = some z at g
    by_cases h : x.length ≤ sizeLine
    · rw [if_pos h] at g; cases g
      exact ⟨_, _, rfl, ⟨h, rfl⟩, q _ H (Same.refl H) (.int _)⟩
    · rw [if_neg h] at g; cases g
/-- a reader of one list -/
def sRd (g : List PyData → Option PyData) (sl : SN) : SE := fun S => (sl S).bind fun ds S1 => R.opt (g ds) S1
def LstD (K : PySem.W.Frag) (r : List V → Hp → VK → Prop) (g : List PyData → Option PyData) : Prop :=
  ∀ (av : Addr → Prop) (H : Hp) (p : Addr) (vs : List V) (ds : List PyData) (z : PyData) (Q : VK), (∀ a, av a → ∃ o, H a = some o) → SqL K H p vs → RDs K av H vs ds → g ds = some z → (∀ v H', Same H H' → RD K av H' v z → Q v H') → r [.ref p] H Q
theorem rd_tCB {rr : List V → Hp → VK → Prop} {g : List PyData → Option PyData} (hd : LstD X.K rr g) {σ : St} {H : Hp} {Q : VK} (h : xE X.K X.mg W C (sRd g sl) σ H Q) : tCB rr (tCons (xL X.K X.mg W C sl) tNil) σ H Q := by
  obtain ⟨ow, S, rl, q⟩ := h
  refine seq early_E rl q fun S1 ds v H1 r1 x1 rd k1 => ?_
  obtain ⟨p, vs, h1, h2, h3⟩ := rd
  subst h1
  refine fin_opt (H' := H1) r1 k1 fun z ez f => ?_
  exact hd (av C ow) H1 p vs ds z Q r1.tracked h2 h3 ez f
theorem e_rdB {id : String} {x : Str} {p : Pos} {rr : List V → Hp → VK → Prop} {g : List PyData → Option PyData} (hc : CallR X (.builtin id) rr) (hd : LstD X.K rr g) (hg : Gl X x) (hm : X.mg x = none) (hv : bootBuiltins x = some (.builtin id)) (ha : PE X a (xL X.K X.mg W C sl)) (hn : x ≠ "__name__" := by decide) (hdb : (x == ("__debug__" : Str)) = false := by decide)
    (hs : starEach (a :: []) X.env = (false, eval a X.env) :: starEach [] X.env := by rfl) (hpl : (backTo pos (starEach [] X.env)).any (·.1) = false := by rfl) : PE X (.Call (.Name x p) [a] [] pos) (xE X.K X.mg W C (sRd g sl)) :=
  pe_imp (pe_callB hc hg hm hv (pa_cons ha pa_nil hs) hn hdb hs hpl) fun _ _ _ h => rd_tCB hd h
theorem e_rdT {id : String} {x : Str} {p : Pos} {rr : List V → Hp → VK → Prop} {g : List PyData → Option PyData} (hc : CallR X (.type id) rr) (hd : LstD X.K rr g) (hg : Gl X x) (hm : X.mg x = none) (hv : bootBuiltins x = some (.type id)) (ha : PE X a (xL X.K X.mg W C sl)) (hn : x ≠ "__name__" := by decide) (hdb : (x == ("__debug__" : Str)) = false := by decide)
    (hs : starEach (a :: []) X.env = (false, eval a X.env) :: starEach [] X.env := by rfl) (hpl : (backTo pos (starEach [] X.env)).any (·.1) = false := by rfl) : PE X (.Call (.Name x p) [a] [] pos) (xE X.K X.mg W C (sRd g sl)) :=
  pe_imp (pe_callTy hc hg hm hv (pa_cons ha pa_nil hs) hn hdb hs hpl) fun _ _ _ h => rd_tCB hd h
def lLen (ds : List PyData) : Option PyData := some (.int ds.length)
theorem ld_len : LstD K (rLenD K) lLen := fun av H p vs ds z Q tr h r g q => by
  cases g
  exact ⟨_, _, rfl, .inl ⟨vs, h, rfl⟩, by rw [r.len]; exact q _ H (Same.refl H) (.int _)⟩
/-- all, any of a list of bools -/
def bls : List PyData → Option (List Bool)
  | [] => some []
  | .bool b :: ds => (bls ds).map (b :: ·)
  | _ => none
theorem bls_map : ∀ {ds : List PyData} {bs : List Bool}, bls ds = some bs → ds = bs.map PyData.bool
  | [], bs, h => by cases h; rfl
  | .bool b :: ds, bs, h => by
    change (bls ds).map (b :: ·) = some bs at h
    cases e : bls ds with
    | none => rw [e] at h; cases h
    | some cs =>
      rw [e] at h
      cases h
      rw [List.map_cons, ← bls_map e]
theorem bls_mk : ∀ (bs : List Bool), bls (bs.map PyData.bool) = some bs
  | [] => rfl
  | b :: bs => by
    show (bls (bs.map PyData.bool)).map (b :: ·) = _
    rw [bls_mk bs]; rfl
def lAll (ds : List PyData) : Option PyData := (bls ds).map fun bs => .bool (bs.all id)
def lAny (ds : List PyData) : Option PyData := (bls ds).map fun bs => .bool (bs.any id)
theorem ld_all : LstD K (rAll K) lAll := fun av H p vs ds z Q tr h r g q => by
  unfold lAll at g
  cases e : bls ds with
  | none => rw [e] at g; cases g
  | some bs =>
    rw [e] at g; cases g
    have ed := bls_map e
    subst ed
    have ev := r.bls
    subst ev
    exact ⟨p, bs, rfl, h, q _ H (Same.refl H) (.bl _)⟩
theorem ld_any : LstD K (rAny K) lAny := fun av H p vs ds z Q tr h r g q => by
  unfold lAny at g
  cases e : bls ds with
  | none => rw [e] at g; cases g
  | some bs =>
    rw [e] at g; cases g
    have ed := bls_map e
    subst ed
    have ev := r.bls
    subst ev
    exact ⟨p, bs, rfl, h, q _ H (Same.refl H) (.bl _)⟩
/-- sum of intsOf -/
def intsOf : List PyData → Option (List Int)
  | [] => some []
  | .int b :: ds => (intsOf ds).map (b :: ·)
  | _ => none
theorem intsOf_map : ∀ {ds : List PyData} {bs : List Int}, intsOf ds = some bs → ds = bs.map PyData.int
  | [], bs, h => by cases h; rfl
  | .int b :: ds, bs, h => by
    change (intsOf ds).map (b :: ·) = some bs at h
    cases e : intsOf ds with
    | none => rw [e] at h; cases h
    | some cs =>
      rw [e] at h
      cases h
      rw [List.map_cons, ← intsOf_map e]
def lSum (ds : List PyData) : Option PyData := (intsOf ds).map fun ns => .int ns.sum
theorem ld_sum : LstD K (rSum K) lSum := fun av H p vs ds z Q tr h r g q => by
  unfold lSum at g
  cases e : intsOf ds with
  | none => rw [e] at g; cases g
  | some bs =>
    rw [e] at g; cases g
    have ed := intsOf_map e
    subst ed
    have ev := r.ints
    subst ev
    exact ⟨p, bs, rfl, h, q _ H (Same.refl H) (.int _)⟩
/-- tuple(l), tuple(t) -/
def rTupF (K : PySem.W.Frag) : List V → Hp → VK → Prop := fun xs H Q => ∃ p ys, xs = [.ref p] ∧ ((SqL K H p ys ∧ NT H ys Q) ∨ (SqT K H p ys ∧ Q (.ref p) H))
theorem call_tupF {X : Cx} : CallR X (.type "tuple") (rTupF X.K) := by
  intro pins s σ H xs us Q I r h
  obtain ⟨p, ys, rfl, h⟩ := h
  obtain ⟨u, rfl, rx⟩ := vals1 r
  cases rx
  rcases h with ⟨sq, q⟩ | ⟨sq, q⟩
  · obtain ⟨ws, rw, pl, hz⟩ := I.list sq
    have el := rw.length
    refine call_tuple_list pl.isList (fun h2 kp => ?_) (by simp only [List.size_toArray] <;> omega)
    exact q.run (tk := s.toks) (s := { s with heap := h2 }) (I.kept (t' := s.toks) kp) rw hz
  · obtain ⟨ws, _, pt, _⟩ := I.tuple sq
    exact call_tuple_same pt ⟨.ref p, H, I, rfl, q⟩
def lTup (ds : List PyData) : Option PyData := some (.tuple ds)
def tTupRgF (te : St → Hp → (Int → Int → Hp → Prop) → Prop) : TE := fun σ H Q => te σ H fun a b H1 => RgOk a b ∧ NT H1 (rgV a b) Q
def rTupD (K : PySem.W.Frag) : List V → Hp → VK → Prop := fun xs H Q => ∃ p ys, xs = [.ref p] ∧ ((SqL K H p ys ∧ ∀ l, H l = none → Q (.ref l) (upd H l (.tup ys))) ∨ (SqT K H p ys ∧ Q (.ref p) H))
theorem ld_tup : LstD K (rTupF K) lTup := fun av H p vs ds z Q tr h r g q => by
  cases g
  exact ⟨p, vs, rfl, .inl ⟨h, fun l o nl d c => q _ _ (same_new nl) (rd_newT tr r nl d c)⟩⟩
def gTupT : List PyData → Option PyData
  | [.tuple ds] => some (.tuple ds)
  | [.list ds] => some (.tuple ds)
  | _ => none
theorem cd_tup : CallD K (rTupF K) gTupT := fun av H xs ds z Q tr r g q => by
  match ds, r, g with
  | [.tuple es], .cons (.tup h1 h2) .nil, g => cases g; exact ⟨_, _, rfl, .inr ⟨h1.sq, q _ H (Same.refl H) (.tup h1 h2)⟩⟩
  | [.list es], .cons (.lst h1 h2) .nil, g => cases g; exact ⟨_, _, rfl, .inl ⟨h1.sq, fun l o nl d c => q _ _ (same_new nl) (rd_newT tr h2 nl d c)⟩⟩
/-- list(l), list(t): a new list -/
def seqOf : List PyData → Option (List PyData)
  | [.tuple ds] => some ds
  | [.list ds] => some ds
  | _ => none
def rListD (K : PySem.W.Frag) : List V → Hp → VK → Prop := fun xs H Q => ∃ p ys, xs = [.ref p] ∧ (SqL K H p ys ∨ SqT K H p ys) ∧ ∀ l, H l = none → Q (.ref l) (upd H l (.lst ys))
def sListN (sr : SN) : SN := fun S => (sr S).bind fun ds S1 => R.opt (seqOf ds) S1
theorem n_list {x : Str} {p : Pos} (hg : Gl X x) (hm : X.mg x = none) (hv : bootBuiltins x = some (.type "list")) (ha : PA X [a] (xA X.K X.mg W C sr)) (hn : x ≠ "__name__" := by decide) (hdb : (x == ("__debug__" : Str)) = false := by decide)
    (he : starEach (a :: []) X.env = (false, eval a X.env) :: starEach [] X.env := by rfl) (hpl : (backTo pos (starEach [] X.env)).any (·.1) = false := by rfl) : PE X (.Call (.Name x p) [a] [] pos) (xN X.K X.mg W C (sListN sr)) :=
  pe_imp (pe_callTy call_list_of hg hm hv ha hn hdb he hpl) fun σ H Q ⟨ow, S, r, q⟩ => seq early_N r q fun S1 ds vs H1 r1 x1 rd k => by
    match ds, rd, k with
    | [.tuple es], .cons (.tup h1 h2) .nil, k => exact ⟨_, _, rfl, .inr h1.sq, fun l nl => pst_same r1 k (same_new nl) ⟨l, _, H1, rfl, nl, rfl, Ext.refl _ _, r1, h2⟩⟩
    | [.list es], .cons (.lst h1 h2) .nil, k => exact ⟨_, _, rfl, .inl h1.sq, fun l nl => pst_same r1 k (same_new nl) ⟨l, _, H1, rfl, nl, rfl, Ext.refl _ _, r1, h2⟩⟩
/-- x in t, not in -/
def gIn (neg : Bool) (d e : PyData) : Option PyData := match e with
  | .str y => match d with
    | .str x => some (.bool (if neg then !(!(Builtin.Str.occurrences y x 0 y.length 1).isEmpty) else !(Builtin.Str.occurrences y x 0 y.length 1).isEmpty))
    | _ => none
  | _ => none
def rInS : R2 := fun x y H Q => ∃ i j, x = .str i ∧ y = .str j ∧ Q (.bl (!(Builtin.Str.occurrences j i 0 j.length 1).isEmpty)) H
def rNotInS : R2 := fun x y H Q => ∃ i j, x = .str i ∧ y = .str j ∧ Q (.bl (!(!(Builtin.Str.occurrences j i 0 j.length 1).isEmpty))) H
theorem od_in : OpD K rInS (gIn false) := fun av H x y d e z Q tr rx ry g q => by
  cases ry with
  | str y =>
    cases rx with
    | str x => cases g; exact ⟨x, y, rfl, rfl, q _ H (Same.refl H) (.bl _)⟩
    | _ => cases g
  | _ => cases g
theorem od_notIn : OpD K rNotInS (gIn true) := fun av H x y d e z Q tr rx ry g q => by
  cases ry with
  | str y =>
    cases rx with
    | str x => cases g; exact ⟨x, y, rfl, rfl, q _ H (Same.refl H) (.bl _)⟩
    | _ => cases g
  | _ => cases g
/-- flat data in a tuple, a list -/
def flatD : PyData → Bool
  | .none => true
  | .bool _ => true
  | .int _ => true
  | .str _ => true
  | _ => false
def inD (d : PyData) (es : List PyData) : Bool := es.any fun e => PyData.eqv e d
def gInT (neg : Bool) (d e : PyData) : Option PyData := match e with
  | .tuple es => if flatD d = true ∧ es.all flatD = true then some (.bool (if neg then !inD d es else inD d es)) else none
  | .list es => if flatD d = true ∧ es.all flatD = true then some (.bool (if neg then !inD d es else inD d es)) else none
  | _ => none
theorem flat_rd {av : Addr → Prop} {H : Hp} {v : V} {d : PyData} (h : RD K av H v d) (f : flatD d = true) : flatV v = true := by
  cases h <;> first | rfl | cases f
theorem flat_rds {av : Addr → Prop} {H : Hp} : ∀ {vs : List V} {ds : List PyData}, RDs K av H vs ds → ds.all flatD = true → vs.all flatV = true
  | _, _, .nil, _ => rfl
  | _, _, .cons h t, f => by
    rw [List.all_cons, Bool.and_eq_true] at f
    rw [List.all_cons, flat_rd h f.1, flat_rds t f.2]
    rfl
theorem eqv_rd {av : Addr → Prop} {H : Hp} {v w : V} {d e : PyData} (h : RD K av H v d) (h' : RD K av H w e) (f : flatD d = true) (f' : flatD e = true) : eqV v w = PyData.eqv d e := by
  cases h with
  | non => cases h' <;> first | rfl | cases f' | simp [eqV, PyData.eqv]
  | bl b => cases h' <;> first | rfl | cases f' | simp [eqV, PyData.eqv]
  | int b => cases h' <;> first | rfl | cases f' | simp [eqV, PyData.eqv]
  | str b => cases h' <;> first | rfl | cases f' | simp [eqV, PyData.eqv]
  | _ => cases f
theorem inD_rd {av : Addr → Prop} {H : Hp} {v : V} {d : PyData} (h : RD K av H v d) (f : flatD d = true) : ∀ {vs : List V} {ds : List PyData}, RDs K av H vs ds → ds.all flatD = true → inV v vs = inD d ds
  | _, _, .nil, _ => rfl
  | _, _, .cons r t, g => by
    rw [List.all_cons, Bool.and_eq_true] at g
    have ih := inD_rd h f t g.2
    unfold inV inD at ih ⊢
    rw [List.any_cons, List.any_cons, ih, eqv_rd r h g.1 f]
theorem od_inT (neg : Bool) : OpD K (rIn K neg) (gInT neg) := fun av H x y d e z Q tr rx ry g q => by
  cases ry with
  | @tup p xs es h1 h2 =>
    change (if flatD d = true ∧ es.all flatD = true then some (PyData.bool (if neg then !inD d es else inD d es)) else none) = some z at g
    by_cases c : flatD d = true ∧ es.all flatD = true
    · rw [if_pos c] at g; cases g
      exact ⟨p, xs, rfl, .inr h1.sq, flat_rd rx c.1, flat_rds h2 c.2, by rw [inD_rd rx c.1 h2 c.2]; exact q _ H (Same.refl H) (.bl _)⟩
    · rw [if_neg c] at g; cases g
  | @lst p xs es h1 h2 =>
    change (if flatD d = true ∧ es.all flatD = true then some (PyData.bool (if neg then !inD d es else inD d es)) else none) = some z at g
    by_cases c : flatD d = true ∧ es.all flatD = true
    · rw [if_pos c] at g; cases g
      exact ⟨p, xs, rfl, .inl h1.sq, flat_rd rx c.1, flat_rds h2 c.2, by rw [inD_rd rx c.1 h2 c.2]; exact q _ H (Same.refl H) (.bl _)⟩
    · rw [if_neg c] at g; cases g
  | _ => cases g
/-! ### isinstance -/
def tyN : PyData → String
  | .none => "NoneType"
  | .bool _ => "bool"
  | .int _ => "int"
  | .str _ => "str"
  | .list _ => "list"
  | .tuple _ => "tuple"
  | .dict _ => "dict"
theorem ty_rd {av : Addr → Prop} {H : Hp} {v : V} {d : PyData} (h : RD K av H v d) : TyX K H v (.type (tyN d)) ∨ (∃ a c, v = .ref a ∧ d = .dict [(.none, .str c)] ∧ ExcAt K H a c) ∨ (∃ ns, d = scrD ns) ∧ TyX K H v (.type "list") := by
  cases h with
  | non => exact .inl <| .base .non
  | bl b => exact .inl <| .base (.bl b)
  | int b => exact .inl <| .base (.int b)
  | str b => exact .inl <| .base (.str b)
  | lst h1 h2 =>
    exact .inl <| .base (.lst h1.get.1)
  | tup h1 h2 =>
    rcases h1 with ⟨⟨o, h1, _⟩, _⟩ | ⟨(h1 | ⟨o, h1⟩) | ⟨o, its, n, e, c, _⟩, _⟩
    · exact .inl <| .fTuple h1
    · cases h1
    · cases h1
    · exact .inl <| .kTuple e c
  | dic h1 _ => exact .inl <| .base (.dK h1)
  | exc h1 _ => exact .inr (.inl ⟨_, _, rfl, rfl, h1⟩)
  | scr h1 =>
    refine .inr (.inr ⟨⟨_, rfl⟩, ?_⟩)
    rcases h1 with ⟨⟨o, h1⟩, _⟩ | ((h1 | ⟨o, h1⟩) | ⟨o, its, n, e, c, _⟩)
    · exact .base (.frz h1)
    · cases h1
    · cases h1
    · exact .kList e c
/-- isinstance(e, c), e a kept error -/
def rIsX (K : PySem.W.Frag) : List V → Hp → VK → Prop := fun xs H Q => ∃ (a : Addr) (oe : Obj) (D : Addr) (c : V) (u : Value) (b : Bool), xs = [.ref a, c] ∧ H a = some (kepO a oe) ∧ Zc (.ref D) none oe ∧ (∃ vs, oe.data = .fields vs) ∧ ExcC K D ∧ ClsV c u ∧ PySem.W.kitOne K (.ref D) u = some b ∧ Q (.bl b) H
theorem kept_inst {P : Program} {w : World} {H : Hp} {h : Heap} {a D : Addr} {oe : Obj} (k : HOk P w H h) (e : H a = some (kepO a oe)) (z : Zc (.ref D) none oe) (f : ∃ vs, oe.data = .fields vs) : PySem.W.InstAt h a oe D none := by
  have g : h.get? a = some oe := (k a _ e).1
  obtain ⟨vs, hv⟩ := f
  obtain ⟨oc, od, oda, osl⟩ := oe
  obtain ⟨z1, z2⟩ := z
  dsimp only at z1 z2 hv
  subst z1 z2 hv
  exact ⟨g, rfl, rfl, trivial⟩
theorem call_isX : CallR X (.builtin "isinstance") (rIsX X.K) := by
  intro pins s σ H xs us Q I r h
  obtain ⟨a, oe, D, c, u, b, rfl, ha, hz, hf, C, k, e, q⟩ := h
  obtain ⟨u1, u2, rfl, r1, r2⟩ := vals2 r
  cases (show u1 = Value.ref a from r1)
  have e2 := k.eq r2
  subst e2
  exact PySem.W.kia_one (PySem.W.handS_kitx_exc C.hg C.hk C.hs C.hd C.ha C.hn C.ht C.hm) I.kIn (kept_inst I.hok ha hz hf) e (fun z => nomatch z) fun tk => ⟨.bl b, H, I.tok tk, rfl, q⟩
/-- isinstance(e, (c1, c2, ..)), e a kept error, the tuple just laid -/
def rIsXT (K : PySem.W.Frag) : List V → Hp → VK → Prop := fun xs H Q => ∃ (a : Addr) (oe : Obj) (D tp : Addr) (cs : List V) (us : List Value) (b : Bool), xs = [.ref a, .ref tp] ∧ H tp = some (.tup cs) ∧ Paired ClsV cs us ∧ H a = some (kepO a oe) ∧ Zc (.ref D) none oe ∧ (∃ vs, oe.data = .fields vs) ∧ ExcC K D ∧ PySem.W.kitAny K (.ref D) us = some b ∧ Q (.bl b) H
theorem call_isXT : CallR X (.builtin "isinstance") (rIsXT X.K) := by
  intro pins s σ H xs us Q I r h
  obtain ⟨a, oe, D, tp, cs, ws, b, rfl, hT, k, ha, hz, hf, C, e, q⟩ := h
  obtain ⟨u1, u2, rfl, r1, r2⟩ := vals2 r
  cases (show u1 = Value.ref a from r1)
  cases (show u2 = Value.ref tp from r2)
  obtain ⟨_, its, rv, ot, h1, h2, n, h3⟩ := I.hok tp _ hT
  have e3 := ClsV.all k rv
  subst e3
  obtain ⟨oc, od, dt, sl⟩ := ot
  simp only at h2 h3
  subst h2 h3
  exact PySem.W.kia_tup (PySem.W.handS_kitx_exc C.hg C.hk C.hs C.hd C.ha C.hn C.ht C.hm) I.kIn (kept_inst I.hok ha hz hf) h1 e (fun z => nomatch z) fun tk => ⟨.bl b, H, I.tok tk, rfl, q⟩
theorem kit_lst : ∀ T ∈ isiTs, T ≠ "list" → kitB "list" T = some false := by decide +kernel
theorem kit_dict : ∀ T ∈ isiTs, kitB "dict" T = some false := by decide +kernel
def sIsi (T : String) (sa : SE) : SE := fun S => (sa S).bind fun d S1 => R.opt ((kitB (tyN d) T).map .bool) S1
theorem e_isi {T : String} {p : Pos} (hg : Gl X "isinstance") (hm : X.mg "isinstance" = none) (ha : PE X a (xE X.K X.mg W C sa)) (hb : PE X b (tC (.ty T)))
    (h1 : starEach (a :: [b]) X.env = (false, eval a X.env) :: starEach [b] X.env := by rfl) (h2 : starEach (b :: []) X.env = (false, eval b X.env) :: starEach [] X.env := by rfl) (hpl : (backTo pos (starEach [b] X.env)).any (·.1) = false := by rfl) (hT : T ∈ isiTs := by decide) (hT2 : T ≠ "list" := by decide) :
    PE X (.Call (.Name "isinstance" p) [a, b] [] pos) (xE X.K X.mg W C (sIsi T sa)) :=
  pe_imp (pe_callB (call_isi.or call_isX) hg hm (by decide +kernel) (pa_cons ha (pa_cons hb pa_nil h2) h1) (by decide) (by decide) h1 hpl) fun σ H Q ⟨ow, S, r, q⟩ => seq early_E r q fun S1 d v H1 r1 x1 rd k => by
    cases e : kitB (tyN d) T with
    | none => rw [e] at k; exact k.elim
    | some z =>
      rw [e] at k
      rcases ty_rd rd with ty | ⟨a, c, rfl, rfl, oe, D, g1, g2, g3, g4, g5⟩ | ⟨⟨ns, rfl⟩, ty⟩
      · exact .inl ⟨v, .ty T, _, _, z, rfl, .ty T, ty, kit_ty e, pst_ok r1 k (.bl z)⟩
      · have e' : kitB "dict" T = some z := e
        rw [kit_dict T hT] at e'
        cases e'
        exact .inr ⟨a, oe, D, .ty T, _, false, rfl, g1, g3, g4, g5.c, .ty T, g5.no T hT, pst_ok r1 k (.bl false)⟩
      · have e' : kitB "dict" T = some z := e
        rw [kit_dict T hT] at e'
        cases e'
        exact .inl ⟨v, .ty T, _, _, false, rfl, .ty T, ty, kit_ty (kit_lst T hT hT2), pst_ok r1 k (.bl false)⟩
/-! ### a <= b <= c -/
def sCh (g g' : PyData → PyData → Option PyData) (sa sb sc : SE) : SE := fun S => (sa S).bind fun x S1 => (sb S1).bind fun y S2 => match g x y with
  | some (.bool true) => (sc S2).bind fun z S3 => R.opt (g' y z) S3
  | some (.bool false) => .ok (.bool false) S2
  | _ => .no
variable {r r' : R2} {g g' : PyData → PyData → Option PyData}
theorem chain_t (hd : OpD X.K r g) (hd' : OpD X.K r' g') {σ : St} {H : Hp} {Q : VK} (h : xE X.K X.mg W C (sCh g g' sa sb sc) σ H Q) : tChain r r' (xE X.K X.mg W C sa) (xE X.K X.mg W C sb) (xE X.K X.mg W C sc) σ H Q := by
  obtain ⟨ow, S, rl, q⟩ := h
  refine seq early_E rl q fun S1 d x H1 r1 x1 rd k1 => ?_
  refine seq early_E r1 k1 fun S2 e y H2 r2 x2 re k2 => ?_
  have rd2 := RD.mono x2 (Grow.refl _ _) d x rd
  cases eg : g d e with
  | none => rw [eg] at k2; exact k2.elim
  | some z =>
    rw [eg] at k2
    refine hd (av C ow) H2 x y d e z _ r2.tracked rd2 re eg fun v H3 sm rz => ?_
    have r3 := r2.same sm
    have re3 := rd_same re sm
    cases rz with
    | bl k =>
      refine ⟨k, rfl, ?_⟩
      cases k with
      | false => exact iteF (pst_same r2 k2 sm (.bl false))
      | true =>
        refine iteT (seq early_E r3 (pst_from early_E r2 r3 (Ext.same sm) k2) fun S4 w u H4 r4 x4 ru k4 => ?_)
        refine fin_opt (H' := H4) r4 k4 fun z' ez' f => ?_
        exact hd' (av C ow) H4 y u e w z' Q r4.tracked (RD.mono x4 (Grow.refl _ _) e y re3) ru ez' f
    | _ => exact k2.elim
theorem e_chain {op op' : CmpOp} (ho : OpR X (compareOp op) r) (ho' : OpR X (compareOp op') r') (hd : OpD X.K r g) (hd' : OpD X.K r' g') (ha : PE X a (xE X.K X.mg W C sa)) (hb : PE X b (xE X.K X.mg W C sb)) (hc : PE X c (xE X.K X.mg W C sc))
    (hm : lastMarks [op, op'] [b, c] = false := by with_unfolding_all rfl) : PE X (.Compare a [op, op'] [b, c] pos) (xE X.K X.mg W C (sCh g g' sa sb sc)) := pe_imp (pe_chain ho ho' ha hb hc hm) fun _ _ _ h => chain_t hd hd' h
theorem t_chain {op op' : CmpOp} (ho : OpR X (compareOp op) r) (ho' : OpR X (compareOp op') r') (hd : OpD X.K r g) (hd' : OpD X.K r' g') (ha : PE X a (xE X.K X.mg W C sa)) (hb : PE X b (xE X.K X.mg W C sb)) (hc : PE X c (xE X.K X.mg W C sc))
    (hm : lastMarks [op, op'] [b, c] = false := by with_unfolding_all rfl) : PT X (.Compare a [op, op'] [b, c] pos) (xB X.K X.mg W C (sTst (sCh g g' sa sb sc))) := pt_imp (pt_chain ho ho' ha hb hc hm) fun _ _ _ h => tst_tB h fun _ q => chain_t hd hd' q
/-! ### max, min, int of two, one -/
def gMax : List PyData → Option PyData
  | [.int i, .int j] => some (.int (if j > i then j else i))
  | _ => none
def gMin : List PyData → Option PyData
  | [.int i, .int j] => some (.int (if j < i then j else i))
  | _ => none
theorem cd_max : CallD K (fun xs H Q => ∃ i j, xs = [.int i, .int j] ∧ Q (.int (if j > i then j else i)) H) gMax := fun av H xs ds z Q tr r g q => by
  match ds, r, g with
  | [.int i, .int j], .cons (.int _) (.cons (.int _) .nil), g => cases g; exact ⟨i, j, rfl, q _ H (Same.refl H) (.int _)⟩
theorem cd_min : CallD K (fun xs H Q => ∃ i j, xs = [.int i, .int j] ∧ Q (.int (if j < i then j else i)) H) gMin := fun av H xs ds z Q tr r g q => by
  match ds, r, g with
  | [.int i, .int j], .cons (.int _) (.cons (.int _) .nil), g => cases g; exact ⟨i, j, rfl, q _ H (Same.refl H) (.int _)⟩
def gInt1 : List PyData → Option PyData
  | [.int i] => some (.int i)
  | [.bool k] => some (.int (if k then 1 else 0))
  | _ => none
theorem cd_int : CallD K (fun xs H Q => (∃ i, xs = [.int i] ∧ Q (.int i) H) ∨ ∃ k, xs = [.bl k] ∧ Q (.int (if k then 1 else 0)) H) gInt1 := fun av H xs ds z Q tr r g q => by
  match ds, r, g with
  | [.int i], .cons (.int _) .nil, g => cases g; exact .inl ⟨i, rfl, q _ H (Same.refl H) (.int _)⟩
  | [.bool k], .cons (.bl _) .nil, g => cases g; exact .inr ⟨k, rfl, q _ H (Same.refl H) (.int _)⟩
/-! ### slices -/
abbrev SP := En → R (Option Int)
def relP : Rel (Option Int) (Option Int) := fun _ _ _ _ _ _ a b => a = b
theorem early_P {K : PySem.W.Frag} : Early K (relP) := fun _ _ _ _ _ _ _ _ _ _ _ _ _ _ h => h
abbrev xP (K : PySem.W.Frag) (mg : Str → Option Value) (W : WX) (C : Cn) (s : SP) : TO := xG K mg W C relP s
theorem po_imp {o : Option Expr} {t t' : TO} (h : PO X o t) (f : ∀ σ H Q, t' σ H Q → t σ H Q) : PO X o t' := ⟨fun pins s σ H Q I q => h.run pins s σ H Q I (f σ H Q q)⟩
def sP0 : SP := fun S => .ok none S
def sP1 (se : SE) : SP := fun S => (se S).bind fun d S1 => match d with
  | .int i => .ok (some i) S1
  | _ => .no
theorem p_none : PO X none (xP X.K X.mg W C sP0) := po_imp po_none fun σ H Q ⟨ow, S, r, q⟩ => pst_ok (mg := X.mg) (W := W) (rel := relP) (d := none) r q rfl
theorem p_some (h : PE X e (xE X.K X.mg W C se)) : PO X (some e) (xP X.K X.mg W C (sP1 se)) := po_imp (po_some h) fun σ H Q ⟨ow, S, r, q⟩ => seq early_P r q fun S1 d v H1 r1 x1 rd k => by
  cases rd with
  | int i => exact ⟨i, rfl, pst_ok r1 k rfl⟩
  | _ => exact k.elim
def cutD (ds : List PyData) (lo hi : Option Int) : List PyData := (ds.drop (HT.sIx ds.length 0 lo)).take (HT.sIx ds.length ds.length hi - HT.sIx ds.length 0 lo)
theorem RDs.cut {av : Addr → Prop} {H : Hp} {vs : List V} {ds : List PyData} (h : RDs K av H vs ds) (lo hi : Option Int) : RDs K av H (cutV vs lo hi) (cutD ds lo hi) := by
  unfold cutV cutD
  rw [h.len]
  exact (h.drop _).take _
/-- t[lo:hi], s[lo:hi] -/
def gCut (d : PyData) (lo hi : Option Int) : Option PyData := match d with
  | .tuple ds => some (.tuple (cutD ds lo hi))
  | .str z => if z.length ≤ sizeLine then some (.str (cutS z lo hi)) else none
  | .list ds => some (.list (cutD ds lo hi))
  | .dict [(.bool true, .list ds)] => some (.list (cutD ds lo hi))
  | _ => none
def sCut (sa : SE) (l u : SP) : SE := fun S => (sa S).bind fun d S1 => (l S1).bind fun lo S2 => (u S2).bind fun hi S3 => R.opt (gCut d lo hi) S3
def rSlF (K : PySem.W.Frag) : V → Option Int → Option Int → Hp → VK → Prop := fun x lo hi H Q => ∃ a xs, x = .ref a ∧ SqT K H a xs ∧
  (HT.sIx xs.length 0 lo = 0 ∧ HT.sIx xs.length xs.length hi = xs.length → Q (.ref a) H) ∧ (¬ (HT.sIx xs.length 0 lo = 0 ∧ HT.sIx xs.length xs.length hi = xs.length) → NT H (cutV xs lo hi) Q)
theorem sl_tupF {X : Cx} : SlR X (rSlF X.K) := by
  intro pins s σ H x v vl vu lo hi sl Q I rx hs pl pu h
  obtain ⟨a, xs, rfl, hx, q1, q2⟩ := h
  cases rx
  obtain ⟨ws, r, ht, hz⟩ := I.tuple hx
  have el : ws.toArray.size = xs.length := by rw [List.size_toArray]; exact r.length.symm
  refine ⟨"tuple", _, PyProof.Rows.slot_tuple_getitem.lookup, ht.typeIs, ?_⟩
  by_cases hw : HT.sIx xs.length 0 lo = 0 ∧ HT.sIx xs.length xs.length hi = xs.length
  · exact getItem_tuple_whole ht hs pl pu (by rw [el]; exact hw) ⟨.ref a, H, I, rfl, q1 hw⟩
  · refine HT.getItem_tuple_cut ht hs pl pu (by rw [el]; exact hw) ?_ (by rw [el]; exact hz)
    rw [el]
    exact (q2 hw).run (tk := s.toks) I ((r.drop (HT.sIx xs.length 0 lo)).take (HT.sIx xs.length xs.length hi - HT.sIx xs.length 0 lo)) (Nat.le_trans (cutV_length xs lo hi) hz)
theorem cut_whole {α : Type} {ds : List α} {lo hi : Option Int} (h : HT.sIx ds.length 0 lo = 0 ∧ HT.sIx ds.length ds.length hi = ds.length) : (ds.drop (HT.sIx ds.length 0 lo)).take (HT.sIx ds.length ds.length hi - HT.sIx ds.length 0 lo) = ds := by
  rw [h.1, h.2, Nat.sub_zero, List.drop_zero, List.take_length]
theorem e_cut {lo hi : Option Expr} {l u : SP} {p2 : Pos} (ha : PE X a (xE X.K X.mg W C sa)) (hl : PO X lo (xP X.K X.mg W C l)) (hu : PO X hi (xP X.K X.mg W C u)) : PE X (.Subscript a (.Slice lo hi none p2) pos) (xE X.K X.mg W C (sCut sa l u)) :=
  pe_imp (pe_slice (sl_list.or (sl_tupF.or sl_str)) ha hl hu) fun σ H Q ⟨ow, S, r, q⟩ => seq early_E r q fun S1 d v H1 r1 x1 rd k1 => seq early_E r1 k1 fun S2 lo lo' H2 r2 x2 e2 k2 => seq early_E r2 k2 fun S3 hi hi' H3 r3 x3 e3 k3 => by
    have e2' : lo' = lo := e2
    have e3' : hi' = hi := e3
    subst e2'
    subst e3'
    have rd3 := RD.mono ((x2).trans (Grow.refl _ _) x3) (Grow.refl _ _) d v rd
    cases rd3 with
    | @tup p xs ds h1 h2 =>
      change pst X.K X.mg W C (relE X.K) ow σ H3 Q (R.ok (.tuple (cutD ds lo' hi')) S3) at k3
      refine .inr (.inl ⟨p, xs, rfl, h1.sq, fun hw => ?_, fun _ l o nl d c => ?_⟩)
      · refine pst_ok r3 k3 ?_
        have : cutD ds lo' hi' = ds := cut_whole (by rw [← h2.len]; exact hw)
        rw [this]
        exact .tup h1 h2
      · exact pst_same r3 k3 (same_new nl) (rd_newT r3.tracked (h2.cut lo' hi') nl d c)
    | @lst p xs ds h1 h2 =>
      change pst X.K X.mg W C (relE X.K) ow σ H3 Q (R.ok (.list (cutD ds lo' hi')) S3) at k3
      exact .inl ⟨p, xs, rfl, h1.sq, fun l nl => pst_same r3 k3 (same_new nl) (rd_newL r3.tracked (h2.cut lo' hi') nl)⟩
    | @scr p ns h1 =>
      change pst X.K X.mg W C (relE X.K) ow σ H3 Q (R.ok (.list (cutD (ns.map PyData.int) lo' hi')) S3) at k3
      exact .inl ⟨p, _, rfl, h1.sq, fun l nl => pst_same r3 k3 (same_new nl) (rd_newL r3.tracked ((RDs.mkInts ns).cut lo' hi') nl)⟩
    | str z =>
      change pst X.K X.mg W C (relE X.K) ow σ H3 Q (R.opt (if z.length ≤ sizeLine then some (PyData.str (cutS z lo' hi')) else none) S3) at k3
      by_cases c : z.length ≤ sizeLine
      · rw [if_pos c] at k3
        exact .inr (.inr ⟨z, rfl, c, pst_ok r3 k3 (.str _)⟩)
      · rw [if_neg c] at k3
        exact k3.elim
    | _ => exact k3.elim
/-! ### {}, constants of the module -/
theorem e_dict0 : PE X (.Dict [] [] pos) (xE X.K X.mg W C (sK (.dict []))) := pe_imp pe_dnewK fun σ H Q ⟨ow, S, r, q⟩ => by
  change pst X.K X.mg W C (relE X.K) ow σ H Q (.ok (.dict []) S) at q
  exact fun p np => pst_same r q (same_new np) (.dic upd_same (fr_of r.tracked np))
/-- sep.join(l) -/
def strsOf : List PyData → Option (List Str)
  | [] => some []
  | .str b :: ds => (strsOf ds).map (b :: ·)
  | _ => none
theorem strsOf_map : ∀ {ds : List PyData} {bs : List Str}, strsOf ds = some bs → ds = bs.map PyData.str
  | [], bs, h => by cases h; rfl
  | .str b :: ds, bs, h => by
    change (strsOf ds).map (b :: ·) = some bs at h
    cases e : strsOf ds with
    | none => rw [e] at h; cases h
    | some cs =>
      rw [e] at h
      cases h
      rw [List.map_cons, ← strsOf_map e]
def gJoin (d : PyData) (ds : List PyData) : Option PyData := match d, strsOf ds with
  | .str s, some ys => if (ys.map (·.length)).sum + ys.length * s.length ≤ 16777216 then some (.str (Txt.join s ys)) else none
  | _, _ => none
def sJoin (sa : SE) (sl : SN) : SE := fun S => (sa S).bind fun d S1 => match d with
  | .str s => (sl S1).bind fun ds S2 => R.opt (gJoin (.str s) ds) S2
  | _ => .no
theorem e_join {apos : Pos} (ho : PE X a (xE X.K X.mg W C sa)) (he : PE X e (xL X.K X.mg W C sl)) (hs : starEach [e] X.env = [(false, eval e X.env)] := by rfl) (hbase : attributeBase a "join" X.env (eval a X.env) = eval a X.env := by rfl) (hline : (apos.endLine == pos.line) = true := by rfl) :
    PE X (.Call (.Attribute a "join" apos) [e] [] pos) (xE X.K X.mg W C (sJoin sa sl)) :=
  pe_imp (pe_join ho he hs hbase hline) fun σ H Q ⟨ow, S, r, q⟩ => seq early_E r q fun S1 d v H1 r1 x1 rd k1 => by
    cases rd with
    | str s =>
      refine ⟨⟨s, rfl⟩, seq early_E r1 k1 fun S2 ds w H2 r2 x2 rl k2 => ?_⟩
      obtain ⟨p, vs, h1, h2, h3⟩ := rl
      subst h1
      unfold gJoin at k2
      cases es : strsOf ds with
      | none => simp only [es] at k2; exact k2.elim
      | some ys =>
        simp only [es] at k2
        have ed := strsOf_map es
        subst ed
        have ev := h3.strs
        subst ev
        by_cases c : (ys.map (·.length)).sum + ys.length * s.length ≤ 16777216
        · simp only [if_pos c] at k2
          exact ⟨s, p, ys, rfl, rfl, .inl h2, c, pst_ok r2 k2 (.str _)⟩
        · simp only [if_neg c] at k2
          exact k2.elim
    | _ => exact k1.elim
/-- tuple(range(n)), list(range(n)) -/
def sTupRg (sa : SE) : SE := fun S => (sa S).bind fun d S1 => match d with
  | .int n => if 0 ≤ n ∧ n ≤ 16777216 then .ok (.tuple (rng 0 n)) S1 else .no
  | _ => .no
theorem rds_rg {av : Addr → Prop} {H : Hp} (n : Int) : RDs K av H (rgV 0 n) (rng 0 n) := by
  have e1 : rgV 0 n = ((List.range (n - 0).toNat).map fun i => (0 : Int) + (i : Nat)).map V.int := by unfold rgV; rw [List.map_map]; rfl
  have e2 : rng 0 n = ((List.range (n - 0).toNat).map fun i => (0 : Int) + (i : Nat)).map PyData.int := by unfold rng; rw [List.map_map]; rfl
  rw [e1, e2]
  exact RDs.mkInts _
theorem pe_tupRgF {e : Expr} {te} {p pos : Pos} (hc : X.calm = true) (hg : Gl X "tuple") (hm : X.mg "tuple" = none) (he : PRg X e te) (na : starEach [e] X.env = (false, eval e X.env) :: starEach [] X.env := by rfl) :
    PE X (.Call (.Name "tuple" p) [e] [] pos) (tTupRgF te) := by
  refine ⟨fun pins s σ H Q I h => ?_⟩
  refine Call_ (ld_blt I hg hm boot_tuple (PyProof.Rows.callWith_type1 (args_cons (thn (he pins s σ H _ I h) fun x s1 ⟨r, a, b, t, u, v, H1, ex, hr, I1, ok, q⟩ => args_nil ?_) na) na))
  subst ex
  obtain ⟨b1, b2, b3, b4, b5⟩ := ok
  refine call_tuple_range (n := (b - a).toNat) (I1.ok.hd hc) hr (small_one b1 b2 b3 b4) (rangeSize_nat a b) b5 fun h2 tk acc hk hi => ?_
  have I2 : Inv X pins σ H1 { s1 with heap := h2, toks := tk } := I1.kept hk
  have := q.run (tk := tk) (s := { s1 with heap := h2, toks := tk }) I2 (vals_rg hi) (by rw [rgV_length, sizeLine_eq]; omega)
  rw [Array.toArray_toList] at this
  exact this
theorem e_tupRg {p p2 pos2 : Pos} (hc : X.calm = true) (hg : Gl X "tuple") (hm : X.mg "tuple" = none) (hg2 : Gl X "range") (hm2 : X.mg "range" = none) (ha : PE X a (xE X.K X.mg W C sa))
    (na : starEach [.Call (.Name "range" p2) [a] [] pos2] X.env = (false, eval (.Call (.Name "range" p2) [a] [] pos2) X.env) :: starEach [] X.env := by rfl) (nb : starEach [a] X.env = (false, eval a X.env) :: starEach [] X.env := by rfl) :
    PE X (.Call (.Name "tuple" p) [.Call (.Name "range" p2) [a] [] pos2] [] pos) (xE X.K X.mg W C (sTupRg sa)) :=
  pe_imp (pe_tupRgF hc hg hm (prg_1 hg2 hm2 ha nb) na) fun σ H Q ⟨ow, S, r, q⟩ => seq early_E r q fun S1 d v H1 r1 x1 rd k1 => by
    cases rd with
    | int n =>
      change pst X.K X.mg W C (relE X.K) ow σ H1 Q (if 0 ≤ n ∧ n ≤ 16777216 then .ok (.tuple (rng 0 n)) S1 else .no) at k1
      by_cases c : 0 ≤ n ∧ n ≤ 16777216
      · rw [if_pos c] at k1
        exact ⟨n, rfl, RgOk.of_le (Int.le_refl 0) c.2 (by omega) c.1, fun l o nl d c => pst_same r1 k1 (same_new nl) (rd_newT r1.tracked (rds_rg n) nl d c)⟩
      · rw [if_neg c] at k1
        exact k1.elim
    | _ => exact k1.elim
end
end Ds
end

section
set_option Elab.async false
set_option linter.all false
set_option maxRecDepth 100000
set_option maxHeartbeats 4000000
namespace Ds
open PySem PySem.Spec PyProof.Rows L2
section
variable {X : Cx} {K : PySem.W.Frag} {W : WX} {C : Cn} {a b c e tg : Expr} {pos : Pos} {sa sb sc se : SE} {sn sl sr : SN} {i : Nat} {pins : List (Addr × Obj)} {σ : St} {H : Hp} {s : Shared}
/-! ### repr -/
mutual
theorem RD.reads (I : Inv X pins σ H s) {av : Addr → Prop} : ∀ (d : PyData) (v : V) (u : Value), RD X.K av H v d → RelV v u → PyData.hasDict d = false → ∃ as, Reads s.heap u d as
  | .none, _, _, h, r, _ => by cases h; cases r; exact ⟨_, .none⟩
  | .bool b, _, _, h, r, _ => by cases h; cases r; exact ⟨_, .bool b⟩
  | .int i, _, _, h, r, _ => by cases h; obtain ⟨t, rfl⟩ := r; exact ⟨_, .int i t⟩
  | .str x, _, _, h, r, _ => by cases h; obtain ⟨t, rfl⟩ := r; exact ⟨_, .str x t⟩
  | .list ds, _, _, h, r, hd => by
    cases h with
    | lst h1 h2 =>
      cases r
      obtain ⟨its, rv, ⟨o, n, e, c1, _, c3⟩, _⟩ := I.list h1.sq
      obtain ⟨as, q⟩ := RDs.reads I ds _ its h2 rv (by simpa [PyData.hasDict] using hd)
      exact ⟨_, .list e c1 c3 (by simpa using q)⟩
  | .tuple ds, _, _, h, r, hd => by
    cases h with
    | tup h1 h2 =>
      cases r
      obtain ⟨its, rv, ⟨o, e, c1, n, c3⟩, _⟩ := I.tuple h1.sq
      obtain ⟨as, q⟩ := RDs.reads I ds _ its h2 rv (by simpa [PyData.hasDict] using hd)
      exact ⟨_, .tuple e c1 c3 (by simpa using q)⟩
  | .dict kvs, _, _, h, r, hd => by simp [PyData.hasDict] at hd
theorem RDs.reads (I : Inv X pins σ H s) {av : Addr → Prop} : ∀ (ds : List PyData) (vs : List V) (us : List Value), RDs X.K av H vs ds → Vals vs us → PyData.hasDictAll ds = false → ∃ as, ReadsAll s.heap us ds as
  | [], _, _, h, r, _ => by cases h; cases r; exact ⟨_, .nil⟩
  | d :: ds, _, _, h, r, hd => by
    cases h with
    | cons h1 h2 =>
      cases r with
      | cons r1 r2 =>
        have hd' : d.hasDict = false ∧ PyData.hasDictAll ds = false := by simpa [PyData.hasDictAll] using hd
        obtain ⟨as, q1⟩ := RD.reads I d _ _ h1 r1 hd'.1
        obtain ⟨bs, q2⟩ := RDs.reads I ds _ _ h2 r2 hd'.2
        exact ⟨_, .cons q1 q2⟩
end
def okR (d : PyData) : Prop := d.showable = true ∧ d.depth ≤ 64 ∧ d.shown.length ≤ sizeLine ∧ (PyData.hasDict d = false ∨ d = .dict [])
instance (d : PyData) : Decidable (okR d) := by
  unfold okR
  have : Decidable (d = .dict []) := match d with
    | .dict [] => .isTrue rfl
    | .dict (_ :: _) => .isFalse fun h => by cases h
    | .none => .isFalse fun h => by cases h
    | .bool _ => .isFalse fun h => by cases h
    | .int _ => .isFalse fun h => by cases h
    | .str _ => .isFalse fun h => by cases h
    | .list _ => .isFalse fun h => by cases h
    | .tuple _ => .isFalse fun h => by cases h
  infer_instance
theorem call_repr (gd : X.A.guards = some []) (hu : X.A.units + 100 < cLine) : CallR X (.builtin "repr") (fun xs H Q => ∃ v d av, xs = [v] ∧ RD X.K av H v d ∧ okR d ∧ Q (.str d.shown) H) := by
  intro pins s σ H xs us Q I r h
  obtain ⟨v, d, av, rfl, rd, ⟨h1, h2, h3, h4⟩, q⟩ := h
  obtain ⟨u, rfl, ru⟩ := vals1 r
  have big : ∀ {p : Addr}, u = .ref p → (∃ as, Reads s.heap (.ref p) d as ∧ (d.hasDict = true → sysModules ∉ as)) → wpAny (model X.prog X.w) X.A (call (.builtin "repr") [u]) (EP X pins σ Q) X.xe s := fun {p} e ⟨as, ra, hs⟩ => by
    subst e
    exact repr_of_reads' ra h1 hs gd (by omega) (fun _ _ e => e) (fun h' tk t k => ⟨.str d.shown, H, I.kept (t' := t) k, ⟨_, rfl⟩, q⟩) h3
  cases rd with
  | non => cases ru; exact PySem.P.repr_of_none ⟨.str _, H, I.tok _, ⟨_, rfl⟩, q⟩
  | bl k => cases ru; exact PySem.P.repr_of_bool ⟨.str _, H, I.tok _, ⟨_, rfl⟩, q⟩
  | int k =>
    obtain ⟨t, rfl⟩ := ru
    exact PySem.P.repr_of_int (of_decide_eq_true h1) ⟨.str _, H, I.tok _, ⟨_, rfl⟩, q⟩
  | str k =>
    obtain ⟨t, rfl⟩ := ru
    exact PySem.P.repr_of_str ⟨.str _, H, I.tok _, ⟨_, rfl⟩, q⟩ h3
  | @lst p xs ds g1 g2 =>
    cases ru
    have hd : PyData.hasDict (.list ds) = false := h4.elim id fun z => by cases z
    obtain ⟨as, ra⟩ := RD.reads I (.list ds) _ _ (.lst g1 g2) rfl hd
    exact big rfl ⟨as, ra, fun z => by rw [hd] at z; cases z⟩
  | @tup p xs ds g1 g2 =>
    cases ru
    have hd : PyData.hasDict (.tuple ds) = false := h4.elim id fun z => by cases z
    obtain ⟨as, ra⟩ := RD.reads I (.tuple ds) _ _ (.tup g1 g2) rfl hd
    exact big rfl ⟨as, ra, fun z => by rw [hd] at z; cases z⟩
  | exc g1 g2 => exact h4.elim (fun z => by simp [PyData.hasDict] at z) fun z => by simp at z
  | scr g1 => exact h4.elim (fun z => by simp [scrD, PyData.hasDict] at z) fun z => by simp [scrD] at z
  | @dic p g1 g2 =>
    cases ru
    obtain ⟨_, hm, vs, kv, o, es, ep, e1, e2, e3, e4⟩ := I.hok p _ g1
    cases kv
    have he : es.toList = [] := by
      cases q : es.toList with
      | nil => rfl
      | cons x r => have := e4.2.1; rw [q] at this; cases this
    refine big rfl ⟨_, .dict (es := es) (n := ep) (as := []) (bs := []) e1 e2.1 e3 (by rw [he]; exact .nil) (by rw [he]; exact .nil), fun _ => ?_⟩
    simp
    exact fun z => by rw [z] at hm; simp at hm
def sRepr (sa : SE) : SE := fun S => (sa S).bind fun d S1 => if okR d then .ok (.str d.shown) S1 else .no
theorem e_repr {p : Pos} (gd : X.A.guards = some []) (hu : X.A.units + 100 < cLine) (hg : Gl X "repr") (hm : X.mg "repr" = none) (ha : PE X a (xE X.K X.mg W C sa))
    (hs : starEach (a :: []) X.env = (false, eval a X.env) :: starEach [] X.env := by rfl) (hpl : (backTo pos (starEach [] X.env)).any (·.1) = false := by rfl) : PE X (.Call (.Name "repr" p) [a] [] pos) (xE X.K X.mg W C (sRepr sa)) :=
  pe_imp (pe_callB (call_repr gd hu) hg hm (by decide +kernel) (pa_cons ha pa_nil hs) (by decide) (by decide) hs hpl) fun σ H Q ⟨ow, S, r, q⟩ => seq early_E r q fun S1 d v H1 r1 x1 rd k => by
    by_cases c : okR d
    · rw [if_pos c] at k
      exact ⟨v, d, _, rfl, rd, c, pst_ok r1 k (.str _)⟩
    · rw [if_neg c] at k
      exact k.elim
/-- repr of the list in a slot, of a new list -/
def lRepr (ds : List PyData) : Option PyData := if okR (.list ds) then some (.str (PyData.list ds).shown) else none
theorem call_reprL (gd : X.A.guards = some []) (hu : X.A.units + 100 < cLine) : CallR X (.builtin "repr") (fun xs H Q => ∃ p vs ds av, xs = [.ref p] ∧ SqL X.K H p vs ∧ RDs X.K av H vs ds ∧ okR (.list ds) ∧ Q (.str (PyData.list ds).shown) H) := by
  intro pins s σ H xs us Q I r h
  obtain ⟨p, vs, ds, av, rfl, sq, rds, ⟨h1, h2, h3, h4⟩, q⟩ := h
  obtain ⟨u, rfl, ru⟩ := vals1 r
  cases ru
  have hd : PyData.hasDict (.list ds) = false := h4.elim id fun z => by cases z
  obtain ⟨its, rv, ⟨o, n, e, c1, _, c3⟩, _⟩ := I.list sq
  obtain ⟨as, q1⟩ := RDs.reads I ds _ its rds rv (by simpa [PyData.hasDict] using hd)
  have ra : Reads s.heap (.ref p) (.list ds) _ := .list e c1 c3 (by simpa using q1)
  exact repr_of_reads' ra h1 (fun z => by rw [hd] at z; cases z) gd (by omega) (fun _ _ e => e) (fun h' tk t k => ⟨.str _, H, I.kept (t' := t) k, ⟨_, rfl⟩, q⟩) h3
theorem ld_repr : LstD K (fun xs H Q => ∃ p vs ds av, xs = [.ref p] ∧ SqL K H p vs ∧ RDs K av H vs ds ∧ okR (.list ds) ∧ Q (.str (PyData.list ds).shown) H) lRepr := fun av H p vs ds z Q tr h r g q => by
  unfold lRepr at g
  by_cases c : okR (.list ds)
  · rw [if_pos c] at g
    cases g
    exact ⟨p, vs, ds, av, rfl, h, r, c, q _ H (Same.refl H) (.str _)⟩
  · rw [if_neg c] at g
    cases g
/-! ### signs of a text -/
def signs (x : Str) : List PyData := x.cps.toList.map fun c => .str ⟨#[c]⟩
def asS (d : PyData) : Option (List PyData) := match d with
  | .str x => some (signs x)
  | _ => none
def sIS (se : SE) : SN := fun S => (se S).bind fun d S1 => R.opt (asS d) S1
theorem itd_str {av1 : Addr → Prop} {H : Hp} (x : Str) : ItD K (Its x) av1 H (signs x) := fun av2 H1 _ g _ => by
  have hl : (signs x).length = x.cps.size := by unfold signs; simp
  refine ⟨fun i hi => by show i < x.cps.size; rw [← hl]; exact hi, by show x.cps.size ≤ _; rw [hl]; exact Nat.le_refl _, fun i d v H2 e y => ?_⟩
  obtain ⟨y1, c, y2, y3⟩ := y
  subst y1
  subst y3
  unfold signs at e
  rw [List.getElem?_map, Array.getElem?_toList, y2] at e
  cases e
  exact ⟨Same.refl _, .str _⟩
theorem i_str (h : PE X e (xE X.K X.mg W C se)) : PI X tg e (xI X.K X.mg W C (sIS se)) := pi_imp (pi_str h) fun σ H Q ⟨ow, S, r, q⟩ =>
  seq early_I r q fun S1 d v H1 r1 x1 rd k => by
    cases rd with
    | str x => exact ⟨x, rfl, pst_ok r1 k (itd_str x)⟩
    | _ => exact k.elim
/-! ### enumerate(t), t a tuple -/
theorem meets_enum_tup (l : Addr) (items : Array Value) (n : Nat) (dct : Option Addr) (sl : Array (Option Value)) :
    Meets (Builtin.«enumerate.__new__» ⟨[.type "enumerate", .ref l], []⟩) (fun _ R s => s.heap.get? l = some { cls := .type "tuple", dict := dct, data := .seq items n, slots := sl } ∧
      R (.ok (.ret (.ref (s.heap.objs.size + 1)))) { s with heap := (s.heap.push { cls := .type "tuple_iterator", data := .fields #[.ref l, .int 0 0] }).push { cls := .type "enumerate", data := .fields #[.none, .bool false, .ref s.heap.objs.size, rawInt 0, .none, .none] } }) :=
  .of_wp fun prog w A R s h => by
    obtain ⟨hp, g, d, tk, os⟩ := s
    obtain ⟨hl, h⟩ := h
    have hsub := sub_enumerate
    have hT : Heap.IsTuple (Shared.heap ⟨hp, g, d, tk, os⟩) l items := ⟨_, hl, rfl, n, rfl⟩
    have hz : (hp.push { cls := .type "tuple_iterator", data := .fields #[.ref l, .int 0 0] }).objs.size = hp.objs.size + 1 := Heap.size_push ..
    have h' : R (.ok (.ret (.ref (hp.push { cls := .type "tuple_iterator", data := .fields #[.ref l, .int 0 0] }).objs.size))) ⟨(hp.push { cls := .type "tuple_iterator", data := .fields #[.ref l, .int 0 0] }).push { cls := .type "enumerate", data := .fields #[.none, .bool false, .ref hp.objs.size, rawInt 0, .none, .none] }, g, d, tk, os⟩ := by
      rw [hz]
      exact h
    wp_walk using wpAny_loadPart' hl
    refine wpAny_stack_any fun st => wpAny_pure ?_
    split
    · rename_i c _ _ _ _ _
      cases (c == Value.type "enumerate")
      · wp_walk using wpAny_loadPart' hl, wpAny_pyIter_tuple hT
        exact ⟨_, rfl, h'⟩
      · wp_walk using wpAny_loadPart' hl, wpAny_pyIter_tuple hT
        exact ⟨_, rfl, h'⟩
    · wp_walk using wpAny_loadPart' hl, wpAny_pyIter_tuple hT
      exact ⟨_, rfl, h'⟩
/-- the tuple at a, each item in a new pair -/
def Iet (K : PySem.W.Frag) (a : Addr) : It where
  go := fun i H => ∃ (xs : List V) (x : V), SqT K H a xs ∧ xs[i]? = some x
  yld := fun i H v H' => ∃ (T : Addr) (x : V) (o : Obj), v = .ref T ∧ H T = none ∧ o.dict = none ∧ o.cls = .type "tuple" ∧ H' = upd H T (.frz o (.tup [.int (i : Nat), x])) ∧ ∀ xs, SqT K H a xs → xs[i]? = some x
  stop := fun i H => ∃ xs : List V, SqT K H a xs ∧ xs.length = i
theorem two_mem {b e it : Addr} (h : b ∈ [e, it]) : b = e ∨ b = it := by simpa using h
theorem turn_enumT {P : Program} {w : World} {K : PySem.W.Frag} {elts : List Expr} {kk : Nat} {tpos : Pos} (a e it : Addr) :
    Turn P w K (.Tuple elts kk tpos) (Iet K a) [e, it] e (fun i h => (∃ old, IsEnum h e it ((i : Nat) : Int) old) ∧ h.IsTupleIter it a i ∧ e ≠ it) where
  mem := by simp
  obj := fun i h ⟨⟨old, he⟩, ⟨o, ho, hc, hd⟩, _⟩ b hb => by
    rcases two_mem hb with rfl | rfl
    · exact ⟨_, he, fun v q => nomatch q⟩
    · exact ⟨o, ho, fun v q => by rw [hd] at q; cases q⟩
  keep := fun i h h' ⟨⟨old, he⟩, hi, hne⟩ k => ⟨⟨old, k e (by simp) _ he⟩, hi.at fun o q => k it (by simp) o q, hne⟩
  item := by
    intro X hP hw hK hc i pins s σ H E I hf st hg
    subst hP hw hK
    obtain ⟨⟨old, he⟩, hit, hne⟩ := st
    obtain ⟨xs, x, hq, hx⟩ := hg
    obtain ⟨its, rv, ht, hz⟩ := I.tuple hq
    obtain ⟨u, hu, ru⟩ := rv.get hx
    have hT : s.heap.IsTuple a its.toArray := ht
    have n1 : a ≠ it := fun z => by
      obtain ⟨o, ho, hc1, _⟩ := hit
      obtain ⟨o', ho', hc2, _⟩ := ht
      rw [z, ho] at ho'
      cases ho'
      rw [hc1] at hc2
      injection hc2 with w
      exact absurd w (by decide)
    have n2 : e ≠ a := fun z => by
      obtain ⟨o', ho', hc2, _⟩ := ht
      have he' : s.heap.get? e = some _ := he
      rw [z, ho'] at he'
      cases he'
      injection hc2 with w
      exact absurd w (by decide)
    have lt : i < its.toArray.size := by
      rw [List.size_toArray]
      exact (List.getElem?_eq_some_iff.mp hu).1
    have hel : e < s.heap.objs.size := Heap.lt_size he
    have hil : it < s.heap.objs.size := hit.elim fun _ q => Heap.lt_size q.1
    refine wpAny_pyNext_enum_itemD (Draws.tuple (prog := X.prog) (w := X.w) (A := X.A.in1) (show X.A.in1.handled = none from I.ok.hd hc) it a n1 its.toArray) he ⟨hit, hT⟩ lt hne (by simp [hne, n2]) fun y h1 tk hy ho hst hN hsz hk => ?_
    have ey : y = u := by
      rw [← Array.getElem?_toList] at hy
      exact Option.some.inj (hy.symm.trans hu)
    subst ey
    refine ⟨_, rfl, wpAny_letOwnedTupleGo_enum (s := { s with heap := h1, toks := tk + 1 }) ho fun h2 he2 sb => ?_⟩
    have hN2 : h2.get? s.heap.objs.size = some { cls := .type "tuple", data := .seq #[.int i tk, y] } := (sb.2 _ (Nat.ne_of_gt hel)).trans hN
    have new : ObjOk X.prog X.w (upd H s.heap.objs.size (.frz { cls := .type "tuple", data := .seq #[.int i tk, y] } (.tup [.int (i : Nat), x]))) h2 s.heap.objs.size (.frz { cls := .type "tuple", data := .seq #[.int i tk, y] } (.tup [.int (i : Nat), x])) :=
      ⟨hN2, by show 2 ≤ sizeLine; decide, [.int i tk, y], .cons ⟨_, rfl⟩ (.cons ru .nil), ⟨_, hN2, rfl, _, rfl⟩⟩
    have I1 := I.turnedNew (t' := tk + 1) (ch := [e, it]) (fun b ob hb q => (sb.2 b (fun z => hb (by simp [z]))).trans (hk b ob (fun z => hb (by simp [z])) (fun z => hb (by simp [z])) q)) hf (Nat.le_refl _) new
    refine ⟨.ref s.heap.objs.size, _, I1, rfl, ⟨_, x, _, rfl, I.hok.fresh (Nat.le_refl _), rfl, rfl, rfl, fun ys hy => by rw [I.tuple_inj hy hq]; exact hx⟩, ⟨⟨y, ?_⟩, hst.1.at fun o q => (sb.2 it (Ne.symm hne)).trans q, hne⟩, fun b hb => ?_⟩
    · have e1 : ((i + 1 : Nat) : Int) = (i : Int) + 1 := by omega
      rw [e1]
      exact he2
    · have hb2 : b < s.heap.objs.size := by
        rcases two_mem hb with rfl | rfl
        · exact hel
        · exact hil
      rw [upd_ne (Nat.ne_of_lt hb2)]
      exact (hf b hb).1
  done := by
    intro X hP hw hK hc i pins s σ H E I hf st hg
    subst hP hw hK
    obtain ⟨⟨old, he⟩, hit, hne⟩ := st
    obtain ⟨xs, hq, hx⟩ := hg
    obtain ⟨its, rv, ht, hz⟩ := I.tuple hq
    have hl := rv.length
    have hT : s.heap.IsTuple a its.toArray := ht
    have n1 : a ≠ it := fun z => by
      obtain ⟨o, ho, hc1, _⟩ := hit
      obtain ⟨o', ho', hc2, _⟩ := ht
      rw [z, ho] at ho'
      cases ho'
      rw [hc1] at hc2
      injection hc2 with w
      exact absurd w (by decide)
    obtain ⟨f0, f1, f2, f3, f4, f5⟩ := hf it (by simp)
    have hn : i = its.toArray.size := by rw [List.size_toArray]; omega
    subst hn
    exact wpAny_pyNext_enum_endD (Draws.tuple (prog := X.prog) (w := X.w) (A := X.A.in1) (show X.A.in1.handled = none from I.ok.hd hc) it a n1 its.toArray) he ⟨hit, hT⟩ fun h' eb => ⟨rfl, I.turned (t' := s.toks) (fun b o hb q => eb b o hb q) f0 f1 f3 f4 f5⟩
  self := fun A i s Q E ⟨⟨_, he⟩, _⟩ h => wpAny_pyIter_enum he h
def rIetT (K : PySem.W.Frag) (ta : TA) : TI := fun σ H R => ta σ H fun vs H1 => ∃ a xs, vs = [.ref a] ∧ SqT K H1 a xs ∧ R (Iet K a) H1
theorem pi_enumT {p tpos : Pos} {elts : List Expr} {kk : Nat} {ta : TA} (hg : Gl X "enumerate") (hm : X.mg "enumerate" = none) (ha : PA X [e] ta) (hs : starEach [e] X.env = [(false, eval e X.env)] := by rfl) :
    PI X (.Tuple elts kk tpos) (.Call (.Name "enumerate" p) [e] [] pos) (rIetT X.K ta) := by
  refine ⟨fun pins s σ H R I h => ?_⟩
  refine Call_ (ld_blt I hg hm boot_enumerate (PyProof.Rows.callWith_type1 (thn (ha.run pos pins s σ H _ I h) fun us s1 ⟨vs, H1, I1, r1, a, xs, ex, hq, q⟩ => ?_) hs rfl))
  subst ex
  obtain ⟨u, rfl, ru⟩ := vals1 r1
  cases ru
  obtain ⟨its, rv, ⟨⟨c, dd, dt, sl⟩, ho, hc, n, hd⟩, hz⟩ := I1.tuple hq
  simp only at hc hd
  subst hc hd
  refine callType_new F.called_enumerate (by decide) (F.typeCall_enumerate_1 _) (F.newCall_enumerate_1 _) (fun obj => F.args_object_init_2 obj _) F.entry_enumerate_new (meets_enum_tup a its.toArray n dd sl) ⟨ho, ?_⟩
  have hz1 : (s1.heap.push { cls := .type "tuple_iterator", data := .fields #[.ref a, .int 0 0] }).objs.size = s1.heap.objs.size + 1 := Heap.size_push ..
  have he : IsEnum ((s1.heap.push { cls := .type "tuple_iterator", data := .fields #[.ref a, .int 0 0] }).push { cls := .type "enumerate", data := .fields #[.none, .bool false, .ref s1.heap.objs.size, rawInt 0, .none, .none] }) (s1.heap.objs.size + 1) s1.heap.objs.size 0 .none := by
    have := Heap.get?_push_size (s1.heap.push { cls := .type "tuple_iterator", data := .fields #[.ref a, .int 0 0] }) (o := { cls := .type "enumerate", data := .fields #[.none, .bool false, .ref s1.heap.objs.size, rawInt 0, .none, .none] }) rfl
    rw [hz1] at this
    exact this
  refine ⟨⟨_, he, rfl⟩, wpAny_pyIter_enum he ?_⟩
  have I2 := I1.kept (t' := s1.toks) (h' := (s1.heap.push { cls := .type "tuple_iterator", data := .fields #[.ref a, .int 0 0] }).push { cls := .type "enumerate", data := .fields #[.none, .bool false, .ref s1.heap.objs.size, rawInt 0, .none, .none] }) fun b o q => Heap.get?_push_of_some _ (Heap.get?_push_of_some _ q)
  refine ⟨s1.heap.objs.size + 1, [s1.heap.objs.size + 1, s1.heap.objs.size], _, _, H1, rfl, I2, turn_enumT a (s1.heap.objs.size + 1) s1.heap.objs.size, ⟨⟨.none, he⟩, ⟨_, Heap.get?_push_of_some _ (Heap.get?_push_size _ rfl), rfl, rfl⟩, Nat.succ_ne_self _⟩, fun b hb => ?_, q⟩
  have hle : s1.heap.objs.size ≤ b := by
    rcases two_mem hb with rfl | rfl
    · exact Nat.le_add_right _ _
    · exact Nat.le_refl _
  exact I1.fpOk hle (I1.hok.fresh hle)
/-- enumerate, as data -/
def enumD (ds : List PyData) : List PyData := (List.range ds.length).zipWith (fun i d => .tuple [.int (i : Nat), d]) ds
theorem enumD_get {ds : List PyData} {i : Nat} {z : PyData} (h : (enumD ds)[i]? = some z) : ∃ d, ds[i]? = some d ∧ z = .tuple [.int (i : Nat), d] := by
  unfold enumD at h
  rw [List.getElem?_zipWith] at h
  cases e1 : (List.range ds.length)[i]? with
  | none => rw [e1] at h; cases h
  | some j =>
    obtain ⟨h1, h2⟩ := List.getElem?_eq_some_iff.mp e1
    rw [List.getElem_range] at h2
    subst h2
    cases e2 : ds[i]? with
    | none => rw [e1, e2] at h; cases h
    | some d =>
      rw [e1, e2] at h
      cases h
      exact ⟨d, rfl, rfl⟩
theorem enumD_len {ds : List PyData} : (enumD ds).length = ds.length := by
  unfold enumD
  rw [List.length_zipWith, List.length_range, Nat.min_self]
theorem itd_enumT {av1 : Addr → Prop} {H : Hp} {p : Addr} {vs : List V} {ds : List PyData} (h : TK K av1 H p vs) (r : RDs K av1 H vs ds) : ItD K (Iet K p) av1 H (enumD ds) := fun av2 H1 x g tr => by
  have q := (h.mono x g).sq
  have r' := RDs.mono x g ds vs r
  have hl := r.len
  rw [enumD_len]
  refine ⟨fun i hi => ⟨vs, vs[i]'(by omega), q, List.getElem?_eq_getElem _⟩, ⟨vs, q, hl⟩, fun i z v H2 e y => ?_⟩
  obtain ⟨d, e1, e2⟩ := enumD_get e
  subst e2
  obtain ⟨T, w, o, rfl, nT, d1, c1, rfl, f⟩ := y
  obtain ⟨w', e3, e4⟩ := r'.get e1
  have := f vs q
  rw [e3] at this
  cases this
  exact ⟨same_new nT, rd_newT tr (.cons (.int _) (.cons e4 .nil)) nT d1 c1⟩
def asTE : List PyData → Option (List PyData)
  | [.tuple ds] => some (enumD ds)
  | _ => none
def sIEnT (sr : SN) : SN := fun S => (sr S).bind fun ds S1 => R.opt (asTE ds) S1
theorem i_enumT {p tpos : Pos} {elts : List Expr} {kk : Nat} (hg : Gl X "enumerate") (hm : X.mg "enumerate" = none) (ha : PA X [e] (xA X.K X.mg W C sr)) (hs : starEach [e] X.env = [(false, eval e X.env)] := by rfl) :
    PI X (.Tuple elts kk tpos) (.Call (.Name "enumerate" p) [e] [] pos) (xI X.K X.mg W C (sIEnT sr)) := pi_imp (pi_enumT hg hm ha hs) fun σ H Q ⟨ow, S, r, q⟩ =>
  seq early_I r q fun S1 ds vs H1 r1 x1 rd k => by
    match ds, rd, k with
    | [.tuple es], .cons (.tup h1 h2) .nil, k => exact ⟨_, _, rfl, h1.sq, pst_ok r1 k (itd_enumT h1 h2)⟩
end
end Ds
end

section
set_option Elab.async false
set_option linter.all false
set_option maxRecDepth 100000
set_option maxHeartbeats 4000000
namespace Ds
open PySem PySem.Spec PyProof.Rows L2
/-! ### t[::-1] -/
section
variable {prog : Program} {w : World} {A : Around} {E : Value → Shared → Prop} {s : Shared}
theorem sliceApplied_rev {sl : Addr} {vl vu vs : Value} {n : Nat} {Q : Int × Int × Nat → Shared → Prop} (hs : s.heap.IsSliceOf sl vl vu vs) (pl : IsPart vl none) (pu : IsPart vu none) (ps : IsPart vs (some (-1)))
    (h : Q ((n : Int) - 1, -1, n) s) : wpAny (model prog w) A (Builtin.Slice.sliceApplied (.ref sl) (pure (n : Int))) Q E s := by
  obtain ⟨os, hos, hcs, hds⟩ := id hs
  unfold Builtin.Slice.sliceApplied Builtin.Slice.sliceFields
  refine wpAny_bind (wpAny_bind (wpAny_field hos hds (x := vl) rfl (wpAny_bind (wpAny_field hos hds (x := vu) rfl (wpAny_bind (wpAny_field hos hds (x := vs) rfl (wpAny_pure ?_)))))))
  refine wpAny_bind (HT.slicePart_ ps ?_)
  show wpAny _ _ (if ((-1 : Int) == 0) = true then _ else _) _ _ s
  rw [if_neg (by decide)]
  refine wpAny_bind (HT.slicePart_ pl (wpAny_bind (HT.slicePart_ pu (wpAny_bind (wpAny_pure ?_)))))
  show wpAny _ _ (pure ((n : Int) - 1, (-1 : Int), Builtin.Slice.slicePlaces ((n : Int) - 1) (-1) (-1))) _ _ s
  have e : Builtin.Slice.slicePlaces ((n : Int) - 1) (-1) (-1) = n := by
    unfold Builtin.Slice.slicePlaces
    rw [if_neg (by decide)]
    by_cases hn : n = 0
    · subst hn; rfl
    · rw [if_pos (by omega)]
      have : ((n : Int) - 1 - -1 - 1) / (- -1) = (n : Int) - 1 := by
        rw [show (- -1 : Int) = 1 by decide, Int.ediv_one]
        omega
      rw [this]
      omega
  rw [e]
  exact wpAny_pure h
theorem pick_rev (xs : Array Value) : ((List.range xs.size).filterMap fun (m : Nat) => xs[(((xs.size : Nat) : Int) - 1 + (m : Int) * -1).toNat]?).toArray = xs.toList.reverse.toArray := by
  congr 1
  apply List.ext_getElem?
  intro j
  have e : (fun (m : Nat) => xs[(((xs.size : Nat) : Int) - 1 + (m : Int) * -1).toNat]?) = fun (m : Nat) => xs[(((xs.size : Nat) : Int) - 1 - (m : Int)).toNat]? := by
    funext m
    have : (((xs.size : Nat) : Int) - 1 + (m : Int) * -1) = (((xs.size : Nat) : Int) - 1 - (m : Int)) := by omega
    rw [this]
  rw [e]
  have key : ∀ (k : Nat), k ≤ xs.size → ((List.range k).filterMap fun (m : Nat) => xs[(((xs.size : Nat) : Int) - 1 - (m : Int)).toNat]?) = (List.range k).map fun m => xs.toList.reverse.getD m default := by
    intro k
    induction k with
    | zero => intro _; rfl
    | succ k ih =>
      intro hk
      rw [List.range_succ, List.filterMap_append, List.map_append, ih (by omega)]
      congr 1
      have hlt : xs.size - 1 - k < xs.size := by omega
      have e1 : (((xs.size : Nat) : Int) - 1 - (k : Int)).toNat = xs.size - 1 - k := by omega
      have hl : k < xs.toList.reverse.length := by simp; omega
      simp only [List.filterMap_cons, List.filterMap_nil, List.map_cons, List.map_nil, e1, Array.getElem?_eq_getElem hlt]
      rw [List.getD_eq_getElem?_getD, List.getElem?_eq_getElem hl]
      simp [List.getElem_reverse]
  rw [key xs.size (Nat.le_refl _), List.getElem?_map]
  by_cases hj : j < xs.size
  · rw [List.getElem?_range hj]
    have hl : j < xs.toList.reverse.length := by simp; omega
    rw [List.getElem?_eq_getElem hl]
    simp [List.getD_eq_getElem?_getD, List.getElem?_eq_getElem hl]
  · rw [List.getElem?_eq_none (by simpa using hj), List.getElem?_eq_none (by simpa using hj)]
    rfl
theorem getItem_tuple_rev {t sl : Addr} {items : Array Value} {vl vu vs : Value} {Q : Value → Shared → Prop} (ht : IsTup s.heap t items) (hs : s.heap.IsSliceOf sl vl vu vs) (pl : IsPart vl none) (pu : IsPart vu none) (ps : IsPart vs (some (-1)))
    (h : Q (.ref s.heap.objs.size) { s with heap := s.heap.push { cls := .type "tuple", data := .seq items.toList.reverse.toArray } }) (hsz : items.size ≤ sizeLine) : wpAny (model prog w) A (getItem (.ref t) (.ref sl)) Q E s := by
  have ok : sizeOk (.seq items.toList.reverse.toArray) := by
    show items.toList.reverse.toArray.size ≤ sizeLine
    simpa using hsz
  obtain ⟨os, hos, hcs, hds⟩ := id hs
  have hTs : s.TypeIs (.ref sl) "slice" := ⟨os, hos, hcs⟩
  unfold getItem
  try with_reducible refine wpAny_holding ?_
  first | refine wpAny_bind (wpAny_pure ?_) | skip
  refine wpAny_bind (wpAny_sequenceKey ht.typeIs (by decide) ?_)
  refine wpAny_bind (wpAny_callSpecial?_slot (name := Str.ofString "__getitem__") ht.typeIs PyProof.Rows.slot_tuple_getitem
    (wpAny_call_entry PyProof.Rows.slot_tuple_getitem ht.typeIs entry_tuple_getitem ?_ (args_tuple_getitem _ _)))
  show wpAny _ _ (Builtin.Tuple.tupleItemsOf (.ref t) >>= _) _ _ s
  refine wpAny_bind (tupleItemsOf_ ht ?_)
  refine wpAny_bind (wpAny_typeOf hTs ?_)
  rw [if_pos (by decide)]
  refine wpAny_bind (sliceApplied_rev hs pl pu ps ?_)
  have hno : ¬ ((((items.size : Nat) : Int) - 1 == 0 && (-1 : Int) == 1 && items.size == items.size) = true) := by simp
  show wpAny _ _ (if (((items.size : Nat) : Int) - 1 == 0 && (-1 : Int) == 1 && items.size == items.size) = true then _ else _) _ _ s
  rw [if_neg hno, pick_rev]
  first
    | exact wpAny_bind (m := Builtin.Tuple.tupleExact _) (wpAny_newObj_type (wpAny_pure ⟨_, rfl, wpAny_pure h⟩) ok)
    | exact wpAny_bind (m := Builtin.Tuple.tupleExact _) (wpAny_newObj_type (wpAny_bind (wpAny_pure (wpAny_pure ⟨_, rfl, wpAny_pure h⟩))) ok)
    | exact wpAny_bind (wpAny_bind (m := Builtin.Tuple.tupleExact _) (wpAny_newObj_type (wpAny_pure (wpAny_pure ⟨_, rfl, wpAny_pure h⟩)) ok))
    | exact wpAny_bind (wpAny_bind (m := Builtin.Tuple.tupleExact _) (wpAny_newObj_type (wpAny_pure ⟨_, rfl, wpAny_pure h⟩) ok))
end
section
variable {X : Cx} {K : PySem.W.Frag} {W : WX} {C : Cn} {a b c e tg : Expr} {pos : Pos} {sa sb sc se : SE}
def tRevT (K : PySem.W.Frag) (te : TE) : TE := fun σ H Q => te σ H fun x H1 => ∃ a xs, x = .ref a ∧ SqT K H1 a xs ∧ NT H1 xs.reverse Q
theorem pe_revT {te : TE} {k : Nat} {p1 p2 p3 : Pos} (he : PE X e te) : PE X (.Subscript e (.Slice none none (some (.UnaryOp .USub (.Constant (.int 1) k p1) p2)) p3) pos) (tRevT X.K te) := by
  refine ⟨fun pins s σ H Q I h => ?_⟩
  refine Subscript_ (thn (he.run pins s σ H _ I h) fun v s1 ⟨x, H1, I1, r1, a, xs, ex, hx, q⟩ => ?_)
  subst ex
  cases r1
  have hst : PO X (some (.UnaryOp .USub (.Constant (.int 1) k p1) p2)) (tPart (tUn (rU fun i => .int (-i)) (tC (.int 1)))) := po_some (pe_un un_neg pe_int)
  refine wpAny_Slice (thn (po_none.run pins s1 σ H1 (fun o H2 => o = none ∧ H2 = H1) I1 ⟨rfl, rfl⟩) fun vl s2 ⟨l, H2, I2, pl, el, e2⟩ => ?_)
  subst el e2
  refine thn (po_none.run pins s2 σ H2 (fun o H3 => o = none ∧ H3 = H2) I2 ⟨rfl, rfl⟩) fun vu s3 ⟨u, H3, I3, pu, eu, e3⟩ => ?_
  subst eu e3
  refine thn (hst.run pins s3 σ H3 (fun o H4 => o = some (-1) ∧ H4 = H3) I3 ⟨1, rfl, -1, rfl, rfl, rfl⟩) fun vs s4 ⟨o, H4, I4, ps, eo, e4⟩ => ?_
  subst eo e4
  have I5 := I4.kept (t' := s4.toks) (h' := s4.heap.push { cls := .type "slice", data := .fields #[vl, vu, vs] }) fun b ob q => Heap.get?_push_of_some _ q
  obtain ⟨its, r, ht, hz⟩ := I5.tuple hx
  have hlen := r.length
  show wpAny (model X.prog X.w) X.A (subscriptTail e (.Slice none none (some (.UnaryOp .USub (.Constant (.int 1) k p1) p2)) p3) (.ref a) (.ref s4.heap.objs.size)) (EP X pins σ Q) X.xe { s4 with heap := s4.heap.push { cls := .type "slice", data := .fields #[vl, vu, vs] } }
  refine tail_any (ops := [.ref a, .ref s4.heap.objs.size]) ht.typeIs (PyProof.Rows.slot_tuple_getitem.lookup) ?_ (by with_unfolding_all rfl)
  refine getItem_tuple_rev ht (Heap.IsSliceOf.new _ vl vu vs) pl pu ps ?_ (by rw [List.size_toArray]; omega)
  exact q.run (tk := s4.toks) I5 r.reverse (by rw [List.length_reverse]; omega)
def gRev : PyData → Option PyData
  | .tuple ds => some (.tuple ds.reverse)
  | _ => none
def sRev (sa : SE) : SE := fun S => (sa S).bind fun d S1 => R.opt (gRev d) S1
theorem e_revT {k : Nat} {p1 p2 p3 : Pos} (he : PE X e (xE X.K X.mg W C se)) : PE X (.Subscript e (.Slice none none (some (.UnaryOp .USub (.Constant (.int 1) k p1) p2)) p3) pos) (xE X.K X.mg W C (sRev se)) :=
  pe_imp (pe_revT he) fun σ H Q ⟨ow, S, r, q⟩ => seq early_E r q fun S1 d v H1 r1 x1 rd k1 => by
    cases rd with
    | @tup p xs ds h1 h2 => exact ⟨p, xs, rfl, h1.sq, fun l o nl d c => pst_same r1 k1 (same_new nl) (rd_newT r1.tracked h2.reverse nl d c)⟩
    | _ => exact k1.elim
/-! ### t * n -/
def rRepB (K : PySem.W.Frag) : R2 := fun x y H Q => ∃ l k xs, x = .ref l ∧ y = .int k ∧ SqT K H l xs ∧ xs ≠ [] ∧ 2 ≤ k ∧ k ≤ 100000 ∧ xs.length * k.toNat ≤ sizeLine ∧ NT H (List.replicate k.toNat xs).flatten Q
theorem op_repB : OpR X (binaryOp .Mult) (rRepB X.K) := by
  intro pins s σ H x y v u Q I rx ry h
  obtain ⟨l, k, xs, rfl, rfl, hT, hne, h1, h2, hz, q⟩ := h
  cases rx
  obtain ⟨t, rfl⟩ := ry
  obtain ⟨its, r, ⟨⟨cls, dd, data, sl⟩, ho, hc, n, hd⟩, hs⟩ := I.tuple hT
  simp only at hc hd
  subst hc hd
  have hle : its.length = xs.length := r.length.symm
  have hi : its.toArray.isEmpty = false := by
    cases its with
    | nil => exact absurd (List.eq_nil_of_length_eq_zero hle.symm) hne
    | cons a b => rfl
  have hsz : its.toArray.size = xs.length := by rw [List.size_toArray, hle]
  have flat : (List.replicate k.toNat its).flatten.length ≤ sizeLine := by
    rw [PyProof.Rows.lm_len_rep_flat, hle, Nat.mul_comm]
    exact hz
  have hb : ((its.toArray.size : Nat) : Int) * k ≤ 16777216 := by
    rw [hsz]
    have e : k = ((k.toNat : Nat) : Int) := by omega
    rw [e]
    have : ((xs.length * k.toNat : Nat) : Int) ≤ 16777216 := by
      rw [sizeLine_eq] at hz
      omega
    simpa [Int.natCast_mul] using this
  have c0 : (decide (k < -(2 ^ 63)) || decide (k ≥ 2 ^ 63)) = false := by
    rw [decide_eq_false (by omega), decide_eq_false (by omega)] <;> rfl
  have c1 : (its.toArray.isEmpty || k == 1) = false := by
    rw [hi, Bool.false_or]
    exact beq_eq_false_iff_ne.mpr (by omega)
  have c2 : (decide (k ≤ 0) || its.toArray.isEmpty) = false := by
    rw [hi, Bool.or_false]
    exact decide_eq_false (by omega)
  have c4 : Builtin.Tuple.tupleTooMany (((its.toArray.size : Nat) : Int) * k) = false := by
    unfold Builtin.Tuple.tupleTooMany
    rw [sizeLine_eq]
    exact decide_eq_false (by omega)
  refine wpAny_binaryOp_repeat_ref (T := "tuple") (U := "int") (by decide) ⟨_, ho, rfl⟩ (fun s' => typeIs_int s' k t) noFill_tuple_mul F.fills_int_mul F.slot_int_rmul repeat_tuple F.slot_int_index.lookup
    (call_meets F.slot_int_rmul (typeIs_int s k t) F.entry_int_rmul (F.args_int_rmul_2 _ _) (int_rmul_tuple k t l its.toArray n dd sl)
      ⟨ho, rfl, ⟨_, ho, rfl⟩, call_meets F.slot_tuple_mul ⟨_, ho, rfl⟩ F.entry_tuple_mul (F.args_tuple_mul_2 _ _) (tuple_mulW l its.toArray n dd sl k t c0 c1 c2 (by omega) c4 (by rw [size_rep, List.size_toArray]; exact flat)) ⟨ho, ?_⟩⟩)
  rw [size_rep]
  exact q.run (tk := s.toks) I (r.rep k.toNat) (by rw [PyProof.Rows.lm_len_rep_flat, Nat.mul_comm]; exact hz)
def gRep : PyData → PyData → Option PyData
  | .tuple ds, .int k => if ds.length ≠ 0 ∧ 2 ≤ k ∧ k ≤ 100000 ∧ ds.length * k.toNat ≤ sizeLine then some (.tuple (List.replicate k.toNat ds).flatten) else none
  | _, _ => none
theorem od_rep : OpD K (rRepB K) gRep := fun av H x y d e z Q tr rx ry g q => by
  cases rx with
  | @tup p xs ds h1 h2 =>
    cases ry with
    | int k =>
      change (if ds.length ≠ 0 ∧ 2 ≤ k ∧ k ≤ 100000 ∧ ds.length * k.toNat ≤ sizeLine then some (PyData.tuple (List.replicate k.toNat ds).flatten) else none) = some z at g
      by_cases c : ds.length ≠ 0 ∧ 2 ≤ k ∧ k ≤ 100000 ∧ ds.length * k.toNat ≤ sizeLine
      · rw [if_pos c] at g
        cases g
        exact ⟨p, k, xs, rfl, rfl, h1.sq, fun z => c.1 (by rw [← h2.len, z]; rfl), c.2.1, c.2.2.1, by rw [h2.len]; exact c.2.2.2, fun l o nl d c => q _ _ (same_new nl) (rd_newT tr (h2.rep _) nl d c)⟩
      · rw [if_neg c] at g; cases g
    | _ => cases g
  | _ => cases ry <;> cases g
/-- ints or tuples -/
theorem od_or {r r' : R2} {g g' : PyData → PyData → Option PyData} (h : OpD K r g) (h' : OpD K r' g') : OpD K (fun x y H Q => r x y H Q ∨ r' x y H Q) (fun d e => (g d e).orElse fun _ => g' d e) := fun av H x y d e z Q tr rx ry q f => by
  change ((g d e).orElse fun _ => g' d e) = some z at q
  cases eg : g d e with
  | some w =>
    rw [eg] at q
    cases q
    exact .inl (h av H x y d e z Q tr rx ry eg f)
  | none =>
    rw [eg] at q
    exact .inr (h' av H x y d e z Q tr rx ry q f)
end
end Ds
end

section
set_option Elab.async false
set_option linter.all false
set_option maxRecDepth 100000
set_option maxHeartbeats 4000000
namespace Ds
open PySem PySem.Spec PyProof.Rows L2
/-- the run of the law over an abstract heap that holds the script, or nothing -/
theorem law_core {P : Program} {w : World} {K : PySem.W.Frag} {mg mb : Str → Option Value} {k : Nat} {fa a : Addr} {fd : FuncData} {x : Str} {sp : Sp} {s₁ : Shared} {vs : List Value}
    (KX : K.In s₁.heap) (hns : s₁.heap.Ns mainGlobals mg) (hb : s₁.heap.Ns builtinsNs mb) (hbb : ∀ x : Str, x ≠ "__name__" → mb x = bootBuiltins x) (hlim : s₁.heap.NoLimit) (hg : s₁.gens = #[])
    (ha : s₁.heap.get? a = some { cls := .type "list", data := .seq vs.toArray }) (hr : Room k callerA)
    (F : ∀ base : Heap, K.In base → base.Ns mainGlobals mg → FnG P w K mg base k fa fd [x] sp) (hbind : ∀ (s : Shared) (u : Value), BindsTo s fd ⟨[u], []⟩ [(x, u)])
    (H : Hp) (hO : Only H) (hok : HOk P w H s₁.heap) (hA : ∀ b, H b ≠ none → b = a) (hK : H a ≠ none → K.lookup a = none)
    (hsp : sp [.ref a] H (fun v _ => v = .bl true) fun _ _ _ => False) :
    codeAny (model P w) callerA (.call (.ref fa) ⟨[.ref a], []⟩) (fun r s' => r = .ok (.ret (.bool true)) ∧ OldK s₁.heap s'.heap ∧ s'.os = s₁.os ∧ AllBare s'.gens) s₁ := by
  have nil_or : ∀ b, H b = none ∨ b = a := fun b => by
    cases q : H b with
    | none => exact .inl rfl
    | some u => exact .inr (hA b (by rw [q]; simp))
  have low : ∀ {b : Addr} {o : Obj}, s₁.heap.get? b = some o → H b = none → (hidT s₁.heap H).get? b = some o := fun e n => hidT_get e n
  have nsD : ∀ {b : Addr} {m : Str → Option Value}, s₁.heap.Ns b m → (hidT s₁.heap H).Ns b m := fun {b m} ⟨o, es, ep, e, d, r⟩ => by
    refine ⟨o, es, ep, low e ((nil_or b).elim id fun z => ?_), d, r⟩
    rw [z, ha] at e
    cases e
    cases (show Data.seq vs.toArray _ = Data.dict es ep from d)
  have kin : K.In (hidT s₁.heap H) := fun b o e => low (KX b o e) (by
    cases q : H b with
    | none => rfl
    | some u =>
      have z := hA b (by rw [q]; simp)
      rw [z] at e q
      rw [hK (by rw [q]; simp)] at e
      cases e)
  have md : Mod K mg (hidT s₁.heap H) := ⟨kin, nsD hns, ⟨mb, nsD hb, hbb⟩, let ⟨mc, h1, h2⟩ := hlim; ⟨mc, nsD h1, h2⟩⟩
  have e0 : Env0 P w K mg (hidT s₁.heap H) callerA [] s₁ H := ⟨rfl, md, fun b o e => of_hidT e, Nat.le_of_eq (hidT_size _ _), trivial, fun b hb => absurd (show b ∈ ([] : List Addr) from hb) (by simp), hok, .of_eq hg⟩
  refine codeAny_mono ((F _ kin (nsD hns)).run callerA [] s₁ H ⟨[.ref a], []⟩ [.ref a] [.ref a] _ _ rfl hr e0 (hbind s₁ (.ref a)) (.cons rfl .nil) hsp) fun r s' h => ?_
  match r, h with
  | .error e, h =>
    obtain ⟨_, _, _, _, _, _, _, _, _, _, _, _, z⟩ := h
    exact z.elim
  | .ok (.ret u), ⟨v, H', os, bare, un, hok', r', q⟩ =>
    have q' : v = .bl true := q
    subst q'
    cases (show u = Value.bool true from r')
    refine ⟨rfl, OldK.of_keep fun b o e => ?_, os, bare⟩
    cases q : H b with
    | none => exact un.keep b o e q (by intro z; exact absurd (show b ∈ ([] : List Addr) from z) (by simp)) (by simp)
    | some u =>
      rcases hO b with z | ⟨ob, xs, z⟩
      · rw [q] at z; cases z
      · obtain ⟨e1, _⟩ := hok b _ z
        obtain ⟨e2, _⟩ := hok' b _ (un.frzs b ob _ z)
        rw [e] at e1; cases e1
        exact e2
  | .ok .next, h => exact False.elim h
  | .ok .brk, h => exact False.elim h
  | .ok .cont, h => exact False.elim h
/-- the end of a law's row -/
theorem law_end {l : PySem.W.OpenLaw} {n k : Nat} {q : Program} {loose : List Str} {XP : (Str → Option Value) → Heap → Prop} {YP : World → Heap → Prop} {d : DefRec} {K : Params → PySem.W.Frag} {sp : World → Sp} {x : Str}
    (hn : l.most = some n) (hn2 : n ≤ sizeLine) (hdf : d.params.defaults = []) (hr : Room k callerA)
    (hY : ∀ (w : World) (h : Heap), YP w h → (K w.params).In h)
    (F : ∀ (w : World) (mg : Str → Option Value) (fa : Addr) (h : Heap), (K w.params).In h → h.Ns mainGlobals mg → mg d.name = some (.ref fa) →
      ∃ fd : FuncData, (∀ (s : Shared) (u : Value), BindsTo s fd ⟨[u], []⟩ [(x, u)]) ∧
        ∀ base : Heap, (K w.params).In base → base.Ns mainGlobals mg → FnG l.prog w (K w.params) mg base k fa fd [x] (sp w))
    (hsp : ∀ (w : World) (H : Hp) (a : Addr) (ns : List Int), ns.length ≤ n → Only H → SqL (K w.params) H a (ns.map V.int) → SK (K w.params) (fun _ => False) H a (ns.map V.int) → sp w [.ref a] H (fun v _ => v = .bl true) fun _ _ _ => False) :
    PySem.W.WalkO q loose XP YP l.row.toRowW d [] (fun f vs => PySem.call f vs) := by
  refine Att.attach_call hn hdf fun w s₀ s₁ mg mb fa o pm cd doc a vs ns G Y ho hd hcd hmg hobj hints hlen hg => ?_
  have KX := hY w _ Y
  obtain ⟨fd, hb, hF⟩ := F w mg fa _ KX G.T.g hmg
  have lenV := hints.length
  have rv := vals_ints hints
  have hl : ns.length ≤ sizeLine := Nat.le_trans hlen hn2
  cases hk : (K w.params).lookup a with
  | some o =>
    have e := KX a o hk
    rw [hobj] at e
    cases e
    have hS : SqL (K w.params) (fun _ => none) a (ns.map V.int) := .inr ⟨_, vs.toArray, _, hk, rfl, rfl, rfl, by rw [List.size_toArray, lenV]; exact hl, by simpa using rv⟩
    exact law_core KX G.T.g G.T.b G.T.builtins G.T.nolimit hg hobj hr hF hb (fun _ => none) (fun _ => .inl rfl) (fun b u z => by cases z) (fun b z => absurd rfl z) (fun z => absurd rfl z) (hsp w _ a ns hlen (fun _ => .inl rfl) hS (.inr hS))
  | none =>
    have at1 : (fun b => if b = a then some (HO.frz { cls := .type "list", data := .seq vs.toArray } (.lst (ns.map V.int))) else none : Hp) a = some (HO.frz { cls := .type "list", data := .seq vs.toArray } (.lst (ns.map V.int))) := if_pos rfl
    have on : Only (fun b => if b = a then some (HO.frz { cls := .type "list", data := .seq vs.toArray } (.lst (ns.map V.int))) else none : Hp) := fun b => by
      by_cases hb : b = a
      · exact .inr ⟨_, _, if_pos hb⟩
      · exact .inl (if_neg hb)
    refine law_core KX G.T.g G.T.b G.T.builtins G.T.nolimit hg hobj hr hF hb _ on (fun b u z => ?_) (fun b z => ?_) (fun _ => hk) (hsp w _ a ns hlen on (.inl (.inr ⟨_, at1⟩)) (.inl ⟨⟨_, at1⟩, id⟩))
    · by_cases hb : b = a
      · cases (if_pos hb).symm.trans z
        subst hb
        exact ⟨hobj, by rw [List.length_map]; exact hl, vs, _, rv, hobj⟩
      · cases (if_neg hb).symm.trans z
    · by_cases hb : b = a
      · exact hb
      · exact absurd (if_neg hb) z
/-- the law's promise, met: its mirror gives True at every script -/
theorem sp_law {K : PySem.W.Frag} {mg : Str → Option Value} {m : Mf} {H : Hp} {a : Addr} {ns : List Int} {Sx : En} (h : SK K (fun _ => False) H a (ns.map V.int)) (hm : m [.val (scrD ns)] = .ok (.val (.bool true)) Sx) :
    spM K mg m 1 [.ref a] H (fun v _ => v = .bl true) fun _ _ _ => False := by
  refine ⟨rfl, fun _ => False, [.val (scrD ns)], ⟨rfl, fun i x e => ?_, fun i j ds es b e => ?_, fun _ z => z.elim⟩, ?_⟩
  · match i, e with
    | 0, e =>
      obtain rfl : Sl.val (scrD ns) = x := by simpa using e
      exact ⟨.ref a, rfl, .scr h⟩
    | i + 1, e => simp at e
  · match i, e with
    | 0, e => simp at e
    | i + 1, e => simp at e
  · rw [hm]
    intro v H' _ rd
    cases rd
    rfl
end Ds
end

section
set_option Elab.async false
set_option linter.all false
set_option maxRecDepth 100000
set_option maxHeartbeats 4000000
namespace Ds
open PySem PySem.Spec PyProof.Rows L2
/-! ### what is small enough to be shown -/
structure Fit (k w : Nat) (d : PyData) : Prop where
  sh : d.showable = true
  lv : d.leavesShort 40 = true
  dp : d.depth ≤ k
  wt : d.weight ≤ w
  nd : d.hasDict = false
theorem Fit.mono {k w k' w' : Nat} {d : PyData} (f : Fit k w d) (h1 : k ≤ k') (h2 : w ≤ w') : Fit k' w' d := ⟨f.sh, f.lv, Nat.le_trans f.dp h1, Nat.le_trans f.wt h2, f.nd⟩
theorem Fit.okR {k w : Nat} {d : PyData} (f : Fit k w d) (h1 : k ≤ 64 := by decide) (h2 : w ≤ 300000 := by decide) : okR d := by
  refine ⟨f.sh, Nat.le_trans f.dp h1, ?_, .inl f.nd⟩
  have h := PyData.shown_le 40 (by decide) d f.lv
  have h3 : (40 + 2) * d.weight ≤ 42 * 300000 := Nat.mul_le_mul (by omega) (Nat.le_trans f.wt h2)
  rw [sizeLine_eq]
  omega
theorem fit_none : Fit 0 0 .none := ⟨rfl, rfl, Nat.le_refl _, Nat.le_refl _, rfl⟩
theorem fit_bool {b : Bool} : Fit 0 0 (.bool b) := ⟨rfl, rfl, Nat.le_refl _, Nat.le_refl _, rfl⟩
theorem fit_int {i : Int} (h : i.natAbs < 10 ^ 30) : Fit 0 100 (.int i) := by
  have l : i.natAbs.log2 < 100 := by
    by_cases z : i.natAbs = 0
    · rw [z]; decide
    · exact (Nat.log2_lt z).mpr (Nat.lt_trans h (by decide))
  refine ⟨?_, ?_, Nat.le_refl _, ?_, rfl⟩
  · simp only [PyData.showable, decide_eq_true_eq]; omega
  · simp only [PyData.leavesShort, decide_eq_true_eq]
    have e := int_text_length_le10 (k := 30) (by decide) h
    show (Str.ofString (toString i)).length ≤ 40
    rw [PySem.ofString_length]; omega
  · simp only [PyData.weight]; split <;> omega
theorem fit_str {x : Str} {w : Nat} (h : ∀ c ∈ x.cps.toList, c < 16 ^ 8) (hw : x.cps.size ≤ w) : Fit 0 w (.str x) :=
  ⟨rfl, by simpa only [PyData.leavesShort, List.all_eq_true, decide_eq_true_eq] using h, Nat.le_refl _, hw, rfl⟩
theorem fit_all {k w : Nat} : ∀ {ds : List PyData}, (∀ d ∈ ds, Fit k w d) → PyData.showableAll ds = true ∧ PyData.leavesShortAll 40 ds = true ∧ PyData.depthAll ds ≤ k ∧ PyData.weightAll ds ≤ (w + 1) * ds.length ∧ PyData.hasDictAll ds = false
  | [], _ => ⟨rfl, rfl, Nat.zero_le _, Nat.zero_le _, rfl⟩
  | d :: ds, h => by
    have f := h d List.mem_cons_self
    obtain ⟨a, b, c, e, g⟩ := fit_all fun x hx => h x (List.mem_cons_of_mem _ hx)
    refine ⟨by simp only [PyData.showableAll, f.sh, a, Bool.and_self], by simp only [PyData.leavesShortAll, f.lv, b, Bool.and_self], ?_, ?_, by simp only [PyData.hasDictAll, f.nd, g, Bool.or_self]⟩
    · have := f.dp; simp only [PyData.depthAll]; omega
    · have := f.wt; simp only [PyData.weightAll, List.length_cons, Nat.mul_add]; omega
theorem fit_list {k w n : Nat} {ds : List PyData} (h : ∀ d ∈ ds, Fit k w d) (hn : ds.length ≤ n) : Fit (k + 1) ((w + 1) * n) (.list ds) := by
  obtain ⟨a, b, c, e, g⟩ := fit_all h
  have := Nat.mul_le_mul_left (w + 1) hn
  exact ⟨by simpa only [PyData.showable] using a, by simpa only [PyData.leavesShort] using b, by simp only [PyData.depth]; omega, by simp only [PyData.weight]; omega, by simpa only [PyData.hasDict] using g⟩
theorem fit_tup {k w n : Nat} {ds : List PyData} (h : ∀ d ∈ ds, Fit k w d) (hn : ds.length ≤ n) : Fit (k + 1) ((w + 1) * n) (.tuple ds) := by
  obtain ⟨a, b, c, e, g⟩ := fit_all h
  have := Nat.mul_le_mul_left (w + 1) hn
  exact ⟨by simpa only [PyData.showable] using a, by simpa only [PyData.leavesShort] using b, by simp only [PyData.depth]; omega, by simp only [PyData.weight]; omega, by simpa only [PyData.hasDict] using g⟩
/-! ### loops -/
theorem loop_inv {g : GT} {b : SS} : ∀ {ds : List PyData} {P : Nat → En → Prop} {S : En}, P 0 S → (∀ i d S, ds[i]? = some d → P i S → ∃ S1 S2, g d S = .nx S1 ∧ b S1 = .nx S2 ∧ P (i + 1) S2) → ∃ S', loopL g b ds S = .nx S' ∧ P ds.length S'
  | [], P, S, h0, _ => ⟨S, rfl, h0⟩
  | d :: ds, P, S, h0, st => by
    obtain ⟨S1, S2, e1, e2, h1⟩ := st 0 d S rfl h0
    obtain ⟨S', e, h⟩ := loop_inv (g := g) (b := b) (ds := ds) (P := fun i => P (i + 1)) h1 fun i d S z h => st (i + 1) d S (by simpa using z) h
    exact ⟨S', by rw [loopL, e1]; show (match b S1 with | .nx S2 => loopL g b ds S2 | .ct S2 => loopL g b ds S2 | .bk S2 => .nx S2 | r => r) = _; rw [e2]; exact e, h⟩
theorem lc_inv {g : GT} {t : STt} {e : SE} {vs : List Nat} : ∀ {ds : List PyData} {P : Nat → List PyData → En → Prop} {acc : List PyData} {S : En}, P 0 acc S →
    (∀ i d acc S, ds[i]? = some d → P i acc S → ∃ S2 b S3, g d S = .nx S2 ∧ t S2 = .ok b S3 ∧ (b = false → P (i + 1) acc (wipeS vs S3)) ∧ (b = true → ∃ y S4, e S3 = .ok y S4 ∧ P (i + 1) (acc ++ [y]) (wipeS vs S4))) →
    ∃ ys S', lcL g t e vs ds S = .ok ys S' ∧ P ds.length (acc ++ ys) S'
  | [], P, acc, S, h0, _ => ⟨[], S, rfl, by simpa using h0⟩
  | d :: ds, P, acc, S, h0, st => by
    obtain ⟨S2, b, S3, e1, e2, h1, h2⟩ := st 0 d acc S rfl h0
    have st' : ∀ i d acc S, ds[i]? = some d → P (i + 1) acc S → _ := fun i d acc S z h => st (i + 1) d acc S (by simpa using z) h
    rw [lcL, e1]
    show ∃ ys S', (t S2).bind _ = .ok ys S' ∧ _
    rw [e2]
    cases b with
    | false =>
      obtain ⟨ys, S', q, h⟩ := lc_inv (g := g) (t := t) (e := e) (vs := vs) (ds := ds) (P := fun i => P (i + 1)) (h1 rfl) st'
      exact ⟨ys, S', by simpa using q, h⟩
    | true =>
      obtain ⟨y, S4, e3, h3⟩ := h2 rfl
      obtain ⟨ys, S', q, h⟩ := lc_inv (g := g) (t := t) (e := e) (vs := vs) (ds := ds) (P := fun i => P (i + 1)) h3 st'
      exact ⟨y :: ys, S', by simp [e3, q], by simpa using h⟩
theorem loop_all {g : GT} {b : SS} {c : PyData → Bool} {r : Sl} : ∀ {ds : List PyData} {P : Nat → En → Prop} {S : En}, P 0 S →
    (∀ i d S, ds[i]? = some d → P i S → ∃ S1, g d S = .nx S1 ∧ (c d = true → ∃ S2, b S1 = .nx S2 ∧ P (i + 1) S2) ∧ (c d = false → ∃ S2, b S1 = .rt r S2)) →
    (ds.all c = true ∧ ∃ S', loopL g b ds S = .nx S' ∧ P ds.length S') ∨ (ds.all c = false ∧ ∃ S', loopL g b ds S = .rt r S')
  | [], P, S, h0, _ => .inl ⟨rfl, S, rfl, h0⟩
  | d :: ds, P, S, h0, st => by
    obtain ⟨S1, e1, h1, h2⟩ := st 0 d S rfl h0
    have e : loopL g b (d :: ds) S = (match b S1 with | .nx S2 => loopL g b ds S2 | .ct S2 => loopL g b ds S2 | .bk S2 => .nx S2 | r => r) := by rw [loopL, e1] <;> rfl
    cases q : c d with
    | false =>
      obtain ⟨S2, e2⟩ := h2 q
      exact .inr ⟨by simp [q], S2, by rw [e, e2]⟩
    | true =>
      obtain ⟨S2, e2, h3⟩ := h1 q
      rcases loop_all (g := g) (b := b) (c := c) (r := r) (ds := ds) (P := fun i => P (i + 1)) h3 (fun i d S z h => st (i + 1) d S (by simpa using z) h) with ⟨z, S', q1, q2⟩ | ⟨z, S', q1⟩
      · exact .inl ⟨by simp [q, z], S', by rw [e, e2]; exact q1, q2⟩
      · exact .inr ⟨by simp [q, z], S', by rw [e, e2]; exact q1⟩
/-- a comprehension that leaves the rest alone -/
theorem lc_map {g : GT} {e : SE} {vs : List Nat} {f : Nat → PyData → PyData} {S : En} {ds : List PyData} (h : ∀ i d, ds[i]? = some d → ∃ S2 S4, g d S = .nx S2 ∧ e S2 = .ok (f i d) S4 ∧ wipeS vs S4 = S) :
    lcL g sYes e vs ds S = .ok (ds.mapIdx f) S := by
  obtain ⟨ys, S', q, h1, h2⟩ := lc_inv (g := g) (t := sYes) (e := e) (vs := vs) (ds := ds) (P := fun i acc S' => S' = S ∧ acc = (ds.take i).mapIdx f) (acc := []) (S := S) ⟨rfl, by simp⟩ fun i d acc S' z ⟨h1, h2⟩ => by
    subst h1 h2
    obtain ⟨S2, S4, e1, e2, e3⟩ := h i d z
    refine ⟨S2, true, S2, e1, rfl, (fun z => by cases z), fun _ => ⟨_, S4, e2, e3, ?_⟩⟩
    obtain ⟨hi, rfl⟩ := List.getElem?_eq_some_iff.mp z
    rw [List.take_succ_eq_append_getElem hi, List.mapIdx_append]
    simp [List.length_take, Nat.min_eq_left (Nat.le_of_lt hi)]
  rw [q, h1]
  simp at h2
  rw [h2]
theorem lc_filter {g : GT} {t : STt} {e : SE} {vs : List Nat} {c : Nat → PyData → Bool} {f : Nat → PyData → PyData} {S : En} {ds : List PyData} (h : ∀ i d, ds[i]? = some d → ∃ S2 S3 S4, g d S = .nx S2 ∧ t S2 = .ok (c i d) S3 ∧ wipeS vs S3 = S ∧ e S3 = .ok (f i d) S4 ∧ wipeS vs S4 = S) :
    lcL g t e vs ds S = .ok (ds.zipIdx.filterMap fun p => if c p.2 p.1 = true then some (f p.2 p.1) else none) S := by
  obtain ⟨ys, S', q, h1, h2⟩ := lc_inv (g := g) (t := t) (e := e) (vs := vs) (ds := ds) (P := fun i acc S' => S' = S ∧ acc = ((ds.take i).zipIdx.filterMap fun p => if c p.2 p.1 = true then some (f p.2 p.1) else none)) (acc := []) (S := S) ⟨rfl, by simp⟩ fun i d acc S' z ⟨h1, h2⟩ => by
    subst h1 h2
    obtain ⟨S2, S3, S4, e1, e2, e3, e4, e5⟩ := h i d z
    obtain ⟨hi, rfl⟩ := List.getElem?_eq_some_iff.mp z
    refine ⟨S2, _, S3, e1, e2, fun z => ⟨e3, ?_⟩, fun y => ⟨_, S4, e4, e5, ?_⟩⟩
    · rw [List.take_succ_eq_append_getElem hi, List.zipIdx_append]
      simp [List.length_take, Nat.min_eq_left (Nat.le_of_lt hi), z]
    · rw [List.take_succ_eq_append_getElem hi, List.zipIdx_append]
      simp [List.length_take, Nat.min_eq_left (Nat.le_of_lt hi), y]
  rw [q, h1]
  simp at h2
  rw [h2]
end Ds
end

section
set_option Elab.async false
set_option linter.all false
set_option maxRecDepth 100000
set_option maxHeartbeats 4000000
namespace Ds
open PySem PySem.Spec PyProof.Rows L2
/-! ### rules to work mirrors out -/
inductive Tag {α : Sort u} (a : α) : Type where
  | mk
/-- bind, whose second part no rule looks into before its time -/
def R.bnd {α β : Type} (x : R α) (f : α → En → R β) (_ : Tag f := .mk) : R β := x.bind f
def R.stt {α : Type} (x : R α) (f : α → En → RS) (_ : Tag f := .mk) : RS := x.st f
@[simp] theorem bnd_ok {α β : Type} {a : α} {S : En} {f : α → En → R β} {t : Tag f} : (R.ok a S).bnd f t = f a S := rfl
@[simp] theorem bnd_ex {α β : Type} {c : Str} {S : En} {f : α → En → R β} {t : Tag f} : (R.ex c S : R α).bnd f t = .ex c S := rfl
@[simp] theorem bnd_no {α β : Type} {f : α → En → R β} {t : Tag f} : (R.no : R α).bnd f t = .no := rfl
@[simp] theorem stt_ok {α : Type} {a : α} {S : En} {f : α → En → RS} {t : Tag f} : (R.ok a S).stt f t = f a S := rfl
@[simp] theorem stt_ex {α : Type} {c : Str} {S : En} {f : α → En → RS} {t : Tag f} : (R.ex c S : R α).stt f t = .ex c S := rfl
@[simp] theorem stt_no {α : Type} {f : α → En → RS} {t : Tag f} : (R.no : R α).stt f t = .no := rfl
def RS.sq (r : RS) (t : SS) : RS := match r with
  | .nx S' => t S'
  | r => r
@[simp] theorem sq_nx {S : En} {t : SS} : (RS.nx S).sq t = t S := rfl
@[simp] theorem sq_rt {S : En} {x : Sl} {t : SS} : (RS.rt x S).sq t = .rt x S := rfl
@[simp] theorem sq_no {t : SS} : RS.no.sq t = .no := rfl
@[simp] theorem sq_bk {S : En} {t : SS} : (RS.bk S).sq t = .bk S := rfl
@[simp] theorem sq_ct {S : En} {t : SS} : (RS.ct S).sq t = .ct S := rfl
@[simp] theorem sq_ex {S : En} {c : Str} {t : SS} : (RS.ex c S).sq t = .ex c S := rfl
@[simp] theorem r_sSeq {s t : SS} {S : En} : sSeq s t S = (s S).sq t := by unfold sSeq RS.sq; cases s S <;> rfl
def RS.fin (r : RS) : R Sl := match r with
  | .rt r S => .ok r S
  | .nx S => .ok (.val .none) S
  | .ex c S => .ex c S
  | _ => .no
@[simp] theorem fin_rt {S : En} {x : Sl} : (RS.rt x S).fin = .ok x S := rfl
@[simp] theorem fin_nx {S : En} : (RS.nx S).fin = .ok (.val .none) S := rfl
@[simp] theorem fin_ex {S : En} {c : Str} : (RS.ex c S).fin = .ex c S := rfl
@[simp] theorem fin_no : RS.no.fin = .no := rfl
@[simp] theorem r_mB {N : Nat} {s : SS} {S : En} : mB N s S = (s (S ++ List.replicate (N - S.length) .nil)).fin := rfl
@[simp] theorem val?_v {d : PyData} : val? (some (.val d)) = some d := rfl
@[simp] theorem lst?_o {d : List PyData} : lst? (some (.own d)) = some d := rfl
@[simp] theorem lst?_i {d : List PyData} : lst? (some (.io d)) = some d := rfl
@[simp] theorem lst?_v {d : List PyData} : lst? (some (.val (.list d))) = some d := rfl
@[simp] theorem own?_o {d : List PyData} : own? (some (.own d)) = some d := rfl
@[simp] theorem own?_i {d : List PyData} : own? (some (.io d)) = some d := rfl
@[simp] theorem own?_v {d : PyData} : own? (some (.val d)) = none := rfl
@[simp] theorem own?_n : own? (some .nil) = none := rfl
@[simp] theorem own1?_o {d : List PyData} : own1? (some (.own d)) = some d := rfl
@[simp] theorem noio_v {d : PyData} : noio (some (.val d)) = true := rfl
@[simp] theorem noio_o {d : List PyData} : noio (some (.own d)) = true := rfl
@[simp] theorem noio_n : noio (some .nil) = true := rfl
@[simp] theorem nn_v {d : PyData} : nn (some (.val d)) = true := rfl
@[simp] theorem nn_n : nn (some .nil) = true := rfl
@[simp] theorem nn_o {d : List PyData} : nn (some (.own d)) = true := rfl
@[simp] theorem nn_i {d : List PyData} : nn (some (.io d)) = true := rfl
@[simp] theorem bare_v {d : PyData} : bare (some (.val d)) = true := rfl
@[simp] theorem bare_n : bare (some .nil) = true := rfl
@[simp] theorem r_put {i : Nat} {x : Sl} {S : En} : put i x S = if noio S[i]? = true then .nx (S.set i x) else .no := rfl
@[simp] theorem r_asB {b : Bool} : asB (.bool b) = some b := rfl
@[simp] theorem r_asV {d : PyData} : asV (.val d) = some d := rfl
@[simp] theorem r_asN {d : List PyData} : asN (.own d) = some d := rfl
@[simp] theorem r_asL {d : List PyData} : asL (.list d) = some d := rfl
@[simp] theorem r_asT {d : List PyData} : asT (.tuple d) = some d := rfl
@[simp] theorem r_asTE {d : List PyData} : asTE [.tuple d] = some (enumD d) := rfl
@[simp] theorem r_seqOf1 {d : List PyData} : seqOf [.tuple d] = some d := rfl
@[simp] theorem r_seqOf2 {d : List PyData} : seqOf [.list d] = some d := rfl
@[simp] theorem r_ty0 : tyN .none = "NoneType" := rfl
@[simp] theorem r_ty1 {b : Bool} : tyN (.bool b) = "bool" := rfl
@[simp] theorem r_ty2 {b : Int} : tyN (.int b) = "int" := rfl
@[simp] theorem r_ty3 {b : Str} : tyN (.str b) = "str" := rfl
@[simp] theorem r_ty4 {b : List PyData} : tyN (.list b) = "list" := rfl
@[simp] theorem r_ty5 {b : List PyData} : tyN (.tuple b) = "tuple" := rfl
@[simp] theorem r_ty6 {b : List (PyData × PyData)} : tyN (.dict b) = "dict" := rfl
@[simp] theorem r_gNm {i : Nat} {d : PyData} {S : En} : gNm i d S = if bare S[i]? = true then .nx (S.set i (.val d)) else .no := rfl
@[simp] theorem noEx_no {α : Type} : noEx (.no : R α) = .no := rfl
@[simp] theorem r_toSls0 {S : En} : toSls S [] = some [] := rfl
def tcons (x : Option Sl) (r : Option En) : Option En := match x, r with
  | some x, some r => some (x :: r)
  | _, _ => none
@[simp] theorem tcons_s {x : Sl} {r : En} : tcons (some x) (some r) = some (x :: r) := rfl
@[simp] theorem r_toSls {S : En} {g : Ag} {gs : List Ag} : toSls S (g :: gs) = tcons (toSl S g) (toSls S gs) := rfl
@[simp] theorem r_toSl1 {S : En} {d : PyData} : toSl S (.v d) = some (.val d) := rfl
@[simp] theorem r_toSl2 {S : En} {i : Nat} : toSl S (.r i) = (own? S[i]?).map .io := rfl
@[simp] theorem r_refs0 : refs [] = [] := rfl
@[simp] theorem r_refs1 {d : PyData} {gs : List Ag} : refs (.v d :: gs) = refs gs := rfl
@[simp] theorem r_refs2 {i : Nat} {gs : List Ag} : refs (.r i :: gs) = i :: refs gs := rfl
@[simp] theorem r_argS {S : En} {gs : List Ag} : argS S gs = if (refs gs).Nodup then toSls S gs else none := rfl
@[simp] theorem r_back0 {T S : En} : back [] T S = S := rfl
@[simp] theorem r_back1 {d : PyData} {x : Sl} {gs : List Ag} {T S : En} : back (.v d :: gs) (x :: T) S = back gs T S := by cases x <;> rfl
@[simp] theorem r_back2 {i : Nat} {es : List PyData} {gs : List Ag} {T S : En} : back (.r i :: gs) (.io es :: T) S = back gs T (upL i es S) := rfl
theorem back_pure : ∀ {gs : List Ag} {T S : En}, refs gs = [] → back gs T S = S
  | [], T, S, _ => rfl
  | .v d :: gs, [], S, _ => rfl
  | .v d :: gs, x :: T, S, h => by rw [r_back1]; exact back_pure (by simpa using h)
  | .r i :: gs, T, S, h => by simp at h
@[simp] theorem back_v1 {a : PyData} {T S : En} : back [.v a] T S = S := back_pure rfl
@[simp] theorem back_v2 {a b : PyData} {T S : En} : back [.v a, .v b] T S = S := back_pure rfl
@[simp] theorem back_v3 {a b c : PyData} {T S : En} : back [.v a, .v b, .v c] T S = S := back_pure rfl
@[simp] theorem back_v4 {a b c d : PyData} {T S : En} : back [.v a, .v b, .v c, .v d] T S = S := back_pure rfl
@[simp] theorem back_v5 {a b c d e : PyData} {T S : En} : back [.v a, .v b, .v c, .v d, .v e] T S = S := back_pure rfl
def bkK (gs : List Ag) (S1 : En) (r : R Sl) : R Sl := match r with
  | .ok d T => .ok d (back gs T S1)
  | .ex c T => .ex c (back gs T S1)
  | .no => .no
@[simp] theorem bkK_ok {gs : List Ag} {S1 T : En} {d : Sl} : bkK gs S1 (.ok d T) = .ok d (back gs T S1) := rfl
@[simp] theorem bkK_ex {gs : List Ag} {S1 T : En} {c : Str} : bkK gs S1 (.ex c T) = .ex c (back gs T S1) := rfl
def callG (m : Mf) (gs : List Ag) (S1 : En) (o : Option En) : R Sl := match o with
  | none => .no
  | some S0 => bkK gs S1 (m S0)
@[simp] theorem callG_some {m : Mf} {gs : List Ag} {S1 S0 : En} : callG m gs S1 (some S0) = bkK gs S1 (m S0) := rfl
@[simp] theorem callG_none {m : Mf} {gs : List Ag} {S1 : En} : callG m gs S1 none = .no := rfl
@[simp] theorem r_sCall {m : Mf} {sg : SG} {S : En} : sCall m sg S = (sg S).bnd fun gs S1 => callG m gs S1 (argS S1 gs) := by
  unfold sCall
  cases sg S with
  | no => rfl
  | ex c S => rfl
  | ok gs S1 =>
    show (match argS S1 gs with | none => R.no | some S0 => match m S0 with | .ok d T => R.ok d (back gs T S1) | .ex c T => R.ex c (back gs T S1) | .no => R.no) = callG m gs S1 (argS S1 gs)
    unfold callG bkK
    cases argS S1 gs <;> rfl
def upS (es : List PyData) (o : Option Sl) (i : Nat) (S : En) : En := match o with
  | some (.own _) => S.set i (.own es)
  | some (.io _) => S.set i (.io es)
  | _ => S
@[simp] theorem upS_o {es d : List PyData} {i : Nat} {S : En} : upS es (some (.own d)) i S = S.set i (.own es) := rfl
@[simp] theorem upS_i {es d : List PyData} {i : Nat} {S : En} : upS es (some (.io d)) i S = S.set i (.io es) := rfl
@[simp] theorem r_upL {i : Nat} {es : List PyData} {S : En} : upL i es S = upS es S[i]? i S := rfl
@[simp] theorem r_gN0 {S : En} : gN0 [] S = .nx S := rfl
@[simp] theorem r_loop0 {g : GT} {b : SS} {S : En} : loopL g b [] S = .nx S := rfl

@[simp] theorem r_sVar {i : Nat} {S : En} : sVar i S = (R.opt (val? S[i]?) S) := rfl
@[simp] theorem r_sLVar {i : Nat} {S : En} : sLVar i S = (R.opt (lst? S[i]?) S) := rfl
@[simp] theorem r_sK {d : PyData} {S : En} : sK d S = (.ok d S) := rfl
@[simp] theorem r_sEL {s : SE} {S : En} : sEL s S = ((s S).bnd fun d S' => R.opt (asL d) S') := rfl
@[simp] theorem r_sNE {s : SN} {S : En} : sNE s S = ((s S).bnd fun ds S' => .ok (.list ds) S') := rfl
@[simp] theorem r_sBin {g : PyData → PyData → Option PyData} {sa sb : SE} {S : En} : sBin g sa sb S = ((sa S).bnd fun d S1 => (sb S1).bnd fun e S2 => R.opt (g d e) S2) := rfl
@[simp] theorem r_sTst {s : SE} {S : En} : sTst s S = ((s S).bnd fun d S' => R.opt (asB d) S') := rfl
@[simp] theorem r_sOr {ta tb : STt} {S : En} : sOr ta tb S = ((ta S).bnd fun c S1 => if c = true then .ok true S1 else tb S1) := rfl
@[simp] theorem r_sNot {ta : STt} {S : En} : sNot ta S = ((ta S).bnd fun c S1 => .ok (!c) S1) := rfl
@[simp] theorem r_sIfE {t : STt} {sa sb : SE} {S : En} : sIfE t sa sb S = ((t S).bnd fun c S1 => if c = true then sa S1 else sb S1) := rfl
@[simp] theorem r_sNil {S : En} : sNil  S = (.ok [] S) := rfl
@[simp] theorem r_sCons {s : SE} {sr : SN} {S : En} : sCons s sr S = ((s S).bnd fun d S1 => (sr S1).bnd fun ds S2 => .ok (d :: ds) S2) := rfl
@[simp] theorem r_sTup {s : SN} {S : En} : sTup s S = ((s S).bnd fun ds S1 => if ds.length ≤ sizeLine then .ok (.tuple ds) S1 else .no) := rfl
@[simp] theorem r_sLst {s : SN} {S : En} : sLst s S = ((s S).bnd fun ds S1 => if ds.length ≤ sizeLine then .ok ds S1 else .no) := rfl
@[simp] theorem r_sCallB {g : List PyData → Option PyData} {s : SN} {S : En} : sCallB g s S = ((s S).bnd fun ds S1 => R.opt (g ds) S1) := rfl
@[simp] theorem r_sNx {S : En} : sNx  S = (.nx S) := rfl
@[simp] theorem r_sDrop {se : SE} {S : En} : sDrop se S = ((se S).stt fun _ S' => .nx S') := rfl
@[simp] theorem r_sRet {se : SE} {S : En} : sRet se S = ((se S).stt fun d S' => .rt (.val d) S') := rfl
@[simp] theorem r_sRetN {S : En} : sRetN  S = (.rt (.val .none) S) := rfl
@[simp] theorem r_sRetNew {sn : SN} {S : En} : sRetNew sn S = ((sn S).stt fun ds S' => .rt (.own ds) S') := rfl
@[simp] theorem r_sRetOwn {i : Nat} {S : En} : sRetOwn i S = (match own1? S[i]? with
  | some ds => .rt (.own ds) S
  | none => .no) := rfl
@[simp] theorem r_sIf {sb : STt} {s t : SS} {S : En} : sIf sb s t S = ((sb S).stt fun b S' => if b = true then s S' else t S') := rfl
@[simp] theorem r_sSet {i : Nat} {se : SE} {S : En} : sSet i se S = ((se S).stt fun d S' => put i (.val d) S') := rfl
@[simp] theorem r_sSetNew {i : Nat} {sn : SN} {S : En} : sSetNew i sn S = ((sn S).stt fun ds S' => put i (.own ds) S') := rfl
@[simp] theorem r_sApp {i : Nat} {se : SE} {S : En} : sApp i se S = ((se S).bnd fun d S1 => match own? S1[i]? with
  | some ds => if ds.length < sizeLine then .ok .none (upL i (ds ++ [d]) S1) else .no
  | none => .no) := rfl
@[simp] theorem r_sAppend {i : Nat} {se : SE} {S : En} : sAppend i se S = (if (own? S[i]?).isSome = true then sApp i se S else .no) := rfl
@[simp] theorem r_sClear {i : Nat} {S : En} : sClear i S = (match own? S[i]? with
  | some _ => .ok .none (upL i [] S)
  | none => .no) := rfl
@[simp] theorem r_sG0 {S : En} : sG0  S = (.ok [] S) := rfl
@[simp] theorem r_sGv {se : SE} {sg : SG} {S : En} : sGv se sg S = ((se S).bnd fun d S1 => (sg S1).bnd fun gs S2 => .ok (.v d :: gs) S2) := rfl
@[simp] theorem r_sGr {i : Nat} {sg : SG} {S : En} : sGr i sg S = (if (own? S[i]?).isSome = true then (sg S).bnd fun gs S2 => .ok (.r i :: gs) S2 else .no) := rfl
@[simp] theorem r_sCallV {m : Mf} {sg : SG} {S : En} : sCallV m sg S = ((sCall m sg S).bnd fun x S1 => R.opt (asV x) S1) := rfl
@[simp] theorem r_sCallN {m : Mf} {sg : SG} {S : En} : sCallN m sg S = ((sCall m sg S).bnd fun x S1 => R.opt (asN x) S1) := rfl
@[simp] theorem r_sIL {se : SE} {S : En} : sIL se S = ((se S).bnd fun d S1 => R.opt (asL d) S1) := rfl
@[simp] theorem r_sIT {se : SE} {S : En} : sIT se S = ((se S).bnd fun d S1 => R.opt (asT d) S1) := rfl
@[simp] theorem r_sRng1 {sr : SN} {S : En} : sRng1 sr S = ((sr S).bnd fun ds S1 => R.opt (rng1 ds) S1) := rfl
@[simp] theorem r_sRng2 {sr : SN} {S : En} : sRng2 sr S = ((sr S).bnd fun ds S1 => R.opt (rng2 ds) S1) := rfl
@[simp] theorem r_sFor {it : SN} {g : GT} {b : SS} {S : En} : sFor it g b S = ((it S).stt fun ds S1 => loopL g b ds S1) := rfl
@[simp] theorem r_sLc {it : SN} {g : GT} {t : STt} {e : SE} {vs : List Nat} {S : En} : sLc it g t e vs S = ((it S).bnd fun ds S1 =>
  if (vs.all fun v => (own? S1[v]?).isNone && nn S1[v]?) = true ∧ ds.length < sizeLine then (noEx (lcL g t e vs ds (wipeS vs S1))).bnd fun ys S2 => .ok ys (unwipe vs S1 S2) else .no) := rfl
@[simp] theorem r_sYes {S : En} : sYes  S = (.ok true S) := rfl
@[simp] theorem r_sSetIx {i : Nat} {sk se : SE} {S : En} : sSetIx i sk se S = ((se S).stt fun d S1 => if (own? S1[i]?).isSome = true then (sk S1).stt fun k S2 => match own? S2[i]? with
  | some ds => match setI ds k d with
    | some es => .nx (upL i es S2)
    | none => .no
  | none => .no
  else .no) := rfl
@[simp] theorem r_sPar {i j : Nat} {s1 s2 : SN} {S : En} : sPar i j s1 s2 S = ((s1 S).stt fun ds S1 => (noEx (s2 S1)).stt fun es S2 => match put i (.own ds) S2 with
  | .nx S3 => put j (.own es) S3
  | _ => .no) := rfl
@[simp] theorem r_sIxL {sl : SN} {sb : SE} {S : En} : sIxL sl sb S = ((sl S).bnd fun ds S1 => (sb S).bnd fun k _ => R.opt (gIx (.list ds) k) S1) := rfl
@[simp] theorem r_sIxV {i : Nat} {sb : SE} {S : En} : sIxV i sb S = (if (lst? S[i]?).isSome = true then (sb S).bnd fun k S1 => match lst? S1[i]? with
  | some ds => R.opt (gIx (.list ds) k) S1
  | none => .no
  else .no) := rfl
@[simp] theorem r_sNeg {sa : SE} {S : En} : sNeg sa S = ((sa S).bnd fun d S1 => match d with
  | .int i => .ok (.int (-i)) S1
  | _ => .no) := rfl
@[simp] theorem r_sRd {g : List PyData → Option PyData} {sl : SN} {S : En} : sRd g sl S = ((sl S).bnd fun ds S1 => R.opt (g ds) S1) := rfl
@[simp] theorem r_sListN {sr : SN} {S : En} : sListN sr S = ((sr S).bnd fun ds S1 => R.opt (seqOf ds) S1) := rfl
@[simp] theorem r_sIsi {T : String} {sa : SE} {S : En} : sIsi T sa S = ((sa S).bnd fun d S1 => R.opt ((kitB (tyN d) T).map .bool) S1) := rfl
@[simp] theorem r_sCh {g g' : PyData → PyData → Option PyData} {sa sb sc : SE} {S : En} : sCh g g' sa sb sc S = ((sa S).bnd fun x S1 => (sb S1).bnd fun y S2 => match g x y with
  | some (.bool true) => (sc S2).bnd fun z S3 => R.opt (g' y z) S3
  | some (.bool false) => .ok (.bool false) S2
  | _ => .no) := rfl
@[simp] theorem r_sP0 {S : En} : sP0  S = (.ok none S) := rfl
@[simp] theorem r_sP1 {se : SE} {S : En} : sP1 se S = ((se S).bnd fun d S1 => match d with
  | .int i => .ok (some i) S1
  | _ => .no) := rfl
@[simp] theorem r_sCut {sa : SE} {l u : SP} {S : En} : sCut sa l u S = ((sa S).bnd fun d S1 => (l S1).bnd fun lo S2 => (u S2).bnd fun hi S3 => R.opt (gCut d lo hi) S3) := rfl
@[simp] theorem r_sJoin {sa : SE} {sl : SN} {S : En} : sJoin sa sl S = ((sa S).bnd fun d S1 => match d with
  | .str s => (sl S1).bnd fun ds S2 => R.opt (gJoin (.str s) ds) S2
  | _ => .no) := rfl
@[simp] theorem r_sTupRg {sa : SE} {S : En} : sTupRg sa S = ((sa S).bnd fun d S1 => match d with
  | .int n => if 0 ≤ n ∧ n ≤ 16777216 then .ok (.tuple (rng 0 n)) S1 else .no
  | _ => .no) := rfl
@[simp] theorem r_sRepr {sa : SE} {S : En} : sRepr sa S = ((sa S).bnd fun d S1 => if okR d then .ok (.str d.shown) S1 else .no) := rfl
@[simp] theorem r_sIS {se : SE} {S : En} : sIS se S = ((se S).bnd fun d S1 => R.opt (asS d) S1) := rfl
@[simp] theorem r_sIEnT {sr : SN} {S : En} : sIEnT sr S = ((sr S).bnd fun ds S1 => R.opt (asTE ds) S1) := rfl
@[simp] theorem r_sRev {sa : SE} {S : En} : sRev sa S = ((sa S).bnd fun d S1 => R.opt (gRev d) S1) := rfl
end Ds
end

section
set_option Elab.async false
set_option linter.all false
set_option maxRecDepth 100000
set_option maxHeartbeats 4000000
namespace Ds
open PySem PySem.Spec PyProof.Rows L2
/-! ### a set of texts, counted -/
/-- how many different ones -/
def dct : List Str → Nat
  | [] => 0
  | x :: xs => dct xs + (if x ∈ xs then 0 else 1)
theorem dct_le : ∀ xs : List Str, dct xs ≤ xs.length
  | [] => Nat.le_refl _
  | x :: xs => by
    have := dct_le xs
    unfold dct
    rw [List.length_cons]
    split <;> omega
/-- the texts behind the first i, the last first -/
def pre (xs : List Str) (i : Nat) : List Str := (xs.take i).reverse
theorem pre_succ {xs : List Str} {i : Nat} (h : i < xs.length) : pre xs (i + 1) = xs.getD i Str.empty :: pre xs i := by
  unfold pre
  rw [List.take_succ_eq_append_getElem h, List.reverse_append]
  simp [List.getD, List.getElem?_eq_getElem h]
section
variable {q : Program} {w : World} {B : Around} {Rr : Result → Shared → Prop} {it : Addr} {fp wr : List Addr} {Gs : Array GenState → Array GenState → Prop} {m : Nat} {Pv : Nat → Value → Prop} {Sv : Nat → Shared → Prop}
theorem set_loop (Wk : WalksS q w B.in1 it fp wr Gs m Pv Sv) (D : Addr) (hD : D ∉ fp) (xs : List Str) (hm : xs.length = m) (hb : m < 2000) (hv : ∀ j u, Pv j u → ∃ t, u = .str (xs.getD j Str.empty) t) :
    ∀ (k j : Nat) (t : Shared), k + j = m → Sv j t → t.heap.SetOf (strKind q w) D (fun z => decide (z ∈ pre xs j)) (dct (pre xs j)) →
      (∀ t', Moved (D :: wr) Gs t t' → t'.heap.SetOf (strKind q w) D (fun z => decide (z ∈ pre xs m)) (dct (pre xs m)) → Rr (.ok (.ret .none)) t') →
      codeAny (model q w) B (.builtin "set.update.loop" ⟨[.ref D, .ref it], []⟩) Rr t := by
  have nD : D ∉ wr := fun z => hD (Wk.sub _ z)
  have sub : ∀ b ∈ wr, b ∈ D :: wr := fun b z => List.mem_cons_of_mem _ z
  have keep : ∀ {t t' : Shared} {S : Str → Bool} {n : Nat}, Moved wr Gs t t' → t.heap.SetOf (strKind q w) D S n → t'.heap.SetOf (strKind q w) D S n := fun mv hS => by
    obtain ⟨o, es, ep, tb, ho, more⟩ := hS
    exact ⟨o, es, ep, tb, mv.heap D _ nD ho, more⟩
  intro k
  induction k with
  | zero =>
    intro j t e st hS fin
    obtain rfl : j = m := by omega
    refine codeAny_builtin PyProof.Rows.F.entry_set_update_loop ?_
    rw [Around.under_plainId PyProof.Rows.F.plain_set_update_loop _]
    change wpAny _ B.in1 (pyNext (.ref it) >>= _) _ _ t
    refine wpAny_bind (Wk.done t _ _ st fun t' mv => ?_)
    change wpAny _ B.in1 (ret Value.none) _ _ t'
    exact wpAny_pure (fin t' (mv.mono sub) (keep mv hS))
  | succ k ih =>
    intro j t e st hS fin
    have lt : j < m := by omega
    refine codeAny_builtin PyProof.Rows.F.entry_set_update_loop ?_
    rw [Around.under_plainId PyProof.Rows.F.plain_set_update_loop _]
    change wpAny _ B.in1 (pyNext (.ref it) >>= _) _ _ t
    refine wpAny_bind (Wk.item j t _ _ lt st fun u t' hu st' mv => ?_)
    obtain ⟨tk, rfl⟩ := hv j u hu
    have hS1 := keep mv hS
    change wpAny _ B.in1 (holding [Value.str (xs.getD j Str.empty) tk] (setAdd D (.str (xs.getD j Str.empty) tk)) >>= _) _ _ t'
    refine wpAny_bind (wpAny_holding ?_)
    unfold setAdd
    refine wpAny_holding (wpAny_bind ((strKind q w).pyHash (k := xs.getD j Str.empty) (strKind_is _ _ _ _) ?_))
    have le := dct_le (pre xs j)
    have le2 : (pre xs j).length ≤ j := by unfold pre; simp; omega
    refine wpAny_setAddHashed_of (knd := strKind q w) (s := { t' with toks := t'.toks + 1 }) (strKind_is _ _ _ _) rfl hS1 (by unfold scanBound; omega) fun h2 sb hS2 => ?_
    have hS3 : h2.SetOf (strKind q w) D (fun z => decide (z ∈ pre xs (j + 1))) (dct (pre xs (j + 1))) := by
      rw [pre_succ (by omega)]
      refine SetOf_congr hS2 (fun z => ?_) ?_
      · simp only [List.mem_cons, Bool.decide_or]
        exact Bool.or_comm _ _
      · show _ = dct (pre xs j) + (if xs.getD j Str.empty ∈ pre xs j then 0 else 1)
        by_cases c : xs.getD j Str.empty ∈ pre xs j
        · rw [if_pos c, if_pos (decide_eq_true c)]; rfl
        · rw [if_neg c, if_neg (by simpa using c)]
    refine wpAny_pure ⟨plainId_quiet PyProof.Rows.F.plain_set_update_loop _, ih (j + 1) _ (by omega) (Wk.frame _ t' _ _ st' (Nat.le_succ _) fun b z o y => ?_) hS3 fun t2 mv2 hS4 => ?_⟩
    · have ne : b ≠ D := fun z2 => hD (z2 ▸ z)
      rw [sb.2 b ne]; exact y
    · refine fin t2 (Moved.trans Wk.gtrans ((mv.mono sub).then_heap (Nat.le_succ _) fun b o z y => ?_) mv2) hS4
      have ne : b ≠ D := fun z2 => z (by rw [z2]; exact List.mem_cons_self)
      rw [sb.2 b ne]; exact y
end
section
variable {q : Program} {w : World} {B : Around} {Ex : Value → Shared → Prop} {t : Shared}
theorem set_of_tuple {l : Addr} {us : Array Value} {xs : List Str} {Q : Value → Shared → Prop} (hh : B.handled = none) (hl : t.heap.IsTuple l us) (hs : StrsAre us.toList xs) (hb : xs.length < 2000)
    (k : ∀ (h2 : Heap) (tk : Nat), h2.SetOf (strKind q w) t.heap.objs.size (fun z => decide (z ∈ pre xs us.size)) (dct (pre xs us.size)) → (∀ b o, b < t.heap.objs.size → t.heap.get? b = some o → h2.get? b = some o) → Q (.ref t.heap.objs.size) { t with heap := h2, toks := tk }) :
    wpAny (model q w) B (call (.type "set") [.ref l]) Q Ex t := by
  obtain ⟨c, tl, mro⟩ := PySem.F.called_set.mro
  have made := PySem.F.called_set.made
  have ssub := PySem.F.called_set.sub
  refine wpAny_call (codeAny_of_tree ?_)
  change wpAny _ _ (callAny (.type "set") _) _ _ _
  refine wpAny_pure ⟨Code.quiet_builtin _ (by decide +kernel), codeAny_builtin PySem.F.entry_type_call ?_⟩
  rw [Around.under_plain (weight_type_call_type "set" [.ref l] []) rfl]
  have n1 := PySem.F.called_set.notType
  have n2 := PySem.F.called_set.canCreate
  have n3 := PySem.F.typeCall_set_1 (.ref l)
  repeat (any_goals (first | assumption | wp_step))
  refine codeAny_mono (code_set_new_1 (.ref l) (E := Ex) (Q₁ := fun ob t1 => ∃ ld : Bool, ob = .ref t.heap.objs.size ∧ t1 = { t with heap := t.heap.push { cls := .type "set", dict := none, data := .set #[] 0 (.fresh 0 0 ld) } }) fun ld => ⟨ld, rfl, rfl⟩) fun rr t1 hr => ?_
  match rr, hr with
  | .error e, hr => exact hr
  | .ok (.ret ob), hr =>
    obtain ⟨ld, rfl, rfl⟩ := hr
    have gS : (t.heap.push { cls := .type "set", dict := none, data := .set #[] 0 (.fresh 0 0 ld) }).get? t.heap.objs.size = some { cls := .type "set", dict := none, data := .set #[] 0 (.fresh 0 0 ld) } := Heap.get?_push_size _ rfl
    have tS : Shared.TypeIs { t with heap := t.heap.push { cls := .type "set", dict := none, data := .set #[] 0 (.fresh 0 0 ld) } } (.ref t.heap.objs.size) "set" := ⟨_, gS, rfl⟩
    have m1 := PySem.F.called_set.init.lookup
    have m2 := PySem.F.called_set.init.bind (.ref t.heap.objs.size)
    repeat (any_goals (first | assumption | wp_step))
    refine codeAny_mono (codeAny_call_builtin (R := wants (fun v t2 => v = .none ∧ ∃ h2 tk, t2 = { t with heap := h2, toks := tk } ∧ h2.SetOf (strKind q w) t.heap.objs.size (fun z => decide (z ∈ pre xs us.size)) (dct (pre xs us.size)) ∧ (∀ b o, b < t.heap.objs.size → t.heap.get? b = some o → h2.get? b = some o)) Ex) PySem.F.called_set.init.plain PySem.F.entry_set_init (check_set_init_1 tS ?_)) fun r2 t2 hr2 => ?_
    · obtain ⟨⟨oc, od, odt, osl⟩, ho, hoc, nl, hod⟩ := hl
      simp only at hoc hod
      subst hoc
      subst hod
      have ho2 : (t.heap.push { cls := .type "set", dict := none, data := .set #[] 0 (.fresh 0 0 ld) }).get? l = some { cls := .type "tuple", dict := od, data := .seq us nl, slots := osl } := Heap.get?_push_of_some _ ho
      have f1 := PySem.F.sub_tuple_set
      have f2 := PySem.F.sub_tuple_frozenset
      have f3 : (Value.type "tuple" == Value.type "dict") = false := by decide
      have tl2 : (t.heap.push { cls := .type "set", dict := none, data := .set #[] 0 (.fresh 0 0 ld) }).IsTuple l us := ⟨_, ho2, rfl, nl, rfl⟩
      unfold Builtin.«set.__init__» noKeywords Builtin.Frozenset.updateFrom
      generalize gPI : pyIter = PI
      wp_walk
      subst gPI
      refine wpAny_pyIter_tuple tl2 (wpAny_bind (wpAny_runValue ?_))
      have lt : l < t.heap.objs.size := Heap.lt_size ho
      have hh3 : B.in1.in1.in1.handled = none := by simp [hh]
      have d1 : l ≠ (t.heap.push { cls := .type "set", dict := none, data := .set #[] 0 (.fresh 0 0 ld) }).objs.size := by
        rw [Heap.size_push]
        exact Nat.ne_of_lt (Nat.lt_succ_of_lt lt)
      have d2 : t.heap.objs.size ∉ [(t.heap.push { cls := .type "set", dict := none, data := .set #[] 0 (.fresh 0 0 ld) }).objs.size, l] := by
        rw [Heap.size_push]
        simp only [List.mem_cons, List.not_mem_nil, or_false, not_or]
        exact And.intro (Nat.ne_of_lt (Nat.lt_succ_self _)) (Nat.ne_of_gt lt)
      have sz : xs.length = us.size := by rw [← StrsAre.len_eq hs, Array.length_toList]
      refine set_loop ((Walks.tuple hh3 _ l d1 us).toS) t.heap.objs.size d2 xs sz (by omega) (fun j u hu => SS.strs_at hs j u (by rw [Array.getElem?_toList]; exact hu)) us.size 0 _ (by omega) ⟨⟨_, Heap.get?_push_size _ rfl, rfl, rfl⟩, (tl2.push _)⟩ ?S0 ?Fin
      case S0 =>
        refine SetOf_congr ((setObjOf_fresh (knd := strKind q w) ld).setOf (Heap.get?_push_of_some _ gS) (by unfold scanBound; omega)) (fun _ => rfl) rfl
      case Fin =>
        intro t3 mv hS
        obtain ⟨h3, g3, d3, k3, o3⟩ := t3
        cases (show g3 = t.gens from mv.gens)
        cases (show d3 = t.drawn from mv.drawn)
        cases (show o3 = t.os from mv.os)
        change wpAny _ _ _ _ _ _
        refine wpAny_pure ?_
        change wpAny _ _ (ret Value.none) _ _ _
        refine wpAny_pure ⟨rfl, h3, k3, rfl, hS, fun b o lb e => mv.heap b o ?_ (Heap.get?_push_of_some _ (Heap.get?_push_of_some _ e))⟩
        rw [Heap.size_push]
        simp only [List.mem_cons, List.not_mem_nil, or_false, not_or]
        exact And.intro (Nat.ne_of_lt lb) (Nat.ne_of_lt (Nat.lt_succ_of_lt lb))
    · match r2, hr2 with
      | .error e, hr2 => exact hr2
      | .ok (.ret v), hr2 =>
        obtain ⟨rfl, h2, tk, rfl, hS, hk⟩ := hr2
        repeat (any_goals (first | assumption | wp_step))
        exact k _ _ hS hk
end
end Ds
end

section
set_option Elab.async false
set_option linter.all false
set_option maxRecDepth 100000
set_option maxHeartbeats 4000000
namespace Ds
open PySem PySem.Spec PyProof.Rows L2
section
variable {X : Cx} {W : WX} {C : Cn} {sa : SE} {a : Expr} {pos : Pos}
/-- len(set(t)) of a tuple of texts -/
def gLS : PyData → Option PyData
  | .tuple ds => match strsOf ds with
    | some ys => if ys.length < 2000 then some (.int (dct (pre ys ys.length) : Nat)) else none
    | none => none
  | _ => none
def sLenSet (sa : SE) : SE := fun S => (sa S).bind fun d S1 => R.opt (gLS d) S1
theorem gLS_some {d z : PyData} (h : gLS d = some z) : ∃ ys : List Str, d = .tuple (ys.map .str) ∧ ys.length < 2000 ∧ z = .int (dct (pre ys ys.length) : Nat) := by
  cases d with
  | tuple ds =>
    change (match strsOf ds with | some ys => if ys.length < 2000 then some (PyData.int (dct (pre ys ys.length) : Nat)) else none | none => none) = some z at h
    cases e : strsOf ds with
    | none => rw [e] at h; cases h
    | some ys =>
      rw [e] at h
      by_cases c : ys.length < 2000
      · simp only [if_pos c] at h
        cases h
        exact ⟨ys, by rw [strsOf_map e], c, rfl⟩
      · simp only [if_neg c] at h
        cases h
  | _ => cases h
theorem rds_strs {K : PySem.W.Frag} {av : Addr → Prop} {H : Hp} : ∀ {ys : List Str} {vs : List V}, RDs K av H vs (ys.map .str) → vs = ys.map V.str
  | [], vs, h => by cases h; rfl
  | y :: ys, vs, h => by
    cases h with
    | cons h1 h2 =>
      cases h1
      rw [rds_strs h2]
      rfl
def tLS (K : PySem.W.Frag) (ta : TE) : TE := fun σ H Q => ta σ H fun x H1 => ∃ (l : Addr) (ys : List Str), x = .ref l ∧ SqT K H1 l (ys.map V.str) ∧ ys.length < 2000 ∧ Q (.int (dct (pre ys ys.length) : Nat)) H1
theorem pe_ls {ta : TE} {p p2 r : Pos} (hc : X.calm = true) (g1 : Gl X "len") (m1 : X.mg "len" = none) (g2 : Gl X "set") (m2 : X.mg "set" = none) (ha : PE X a ta)
    (na : starEach [a] X.env = (false, eval a X.env) :: starEach [] X.env := by rfl) : PE X (.Call (.Name "len" p) [.Call (.Name "set" p2) [a] [] r] [] pos) (tLS X.K ta) := by
  refine ⟨fun pins s σ H Q I h => Call_ (ld_blt I g1 m1 boot_len ?_)⟩
  refine PyProof.Rows.callWith_builtin1 (PyProof.Rows.args_cons (Call_ (ld_blt I g2 m2 boot_set ?_)) rfl) rfl rfl
  refine PyProof.Rows.callWith_type1 (PyProof.Rows.args_cons (thn (ha.run pins s σ H _ I h) fun v t ⟨x, H1, I1, r1, y1⟩ => PyProof.Rows.args_nil ?_) na) na rfl
  obtain ⟨l, ys, rfl, sq, lt, y2⟩ := y1
  cases r1
  obtain ⟨us, rv, pt, _⟩ := I1.tuple sq
  have el : us.toArray.size = ys.length := by rw [List.size_toArray, ← rv.length, List.length_map]
  refine set_of_tuple (I1.ok.hd hc) pt (by simpa using strsAre_of rv) lt fun h2 tk hS hk => ?_
  refine PyProof.Rows.args_nil ?_
  rw [el] at hS
  obtain ⟨o, es, ep, tb, e1, e2, e3, _, _, _, e4, e5⟩ := hS
  have I2 : Inv X pins σ H1 { t with heap := h2, toks := tk } := I1.kept fun b z e => hk b z (Heap.lt_size e) e
  have le := dct_le (pre ys ys.length)
  have le2 : (pre ys ys.length).length ≤ ys.length := by unfold pre; simp
  exact call_len_set e1 e2 e3 e4 (by rw [e5]; omega) ⟨.int (dct (pre ys ys.length) : Nat), H1, I2.tok _, ⟨_, by rw [e5]⟩, y2⟩
theorem e_lenSet {p p2 r : Pos} (hc : X.calm = true) (g1 : Gl X "len") (m1 : X.mg "len" = none) (g2 : Gl X "set") (m2 : X.mg "set" = none) (ha : PE X a (xE X.K X.mg W C sa))
    (na : starEach [a] X.env = (false, eval a X.env) :: starEach [] X.env := by rfl) : PE X (.Call (.Name "len" p) [.Call (.Name "set" p2) [a] [] r] [] pos) (xE X.K X.mg W C (sLenSet sa)) :=
  pe_imp (pe_ls hc g1 m1 g2 m2 ha na) fun σ H Q ⟨ow, S, rl, q⟩ => seq early_E rl q fun S1 d v H1 r1 x1 rd k => by
    cases e : gLS d with
    | none => rw [e] at k; exact k.elim
    | some z =>
      rw [e] at k
      obtain ⟨ys, rfl, lt, rfl⟩ := gLS_some e
      cases rd with
      | tup h1 h2 =>
        rw [rds_strs h2] at h1
        exact ⟨_, ys, rfl, h1.sq, lt, pst_ok r1 k (.int _)⟩
end
end Ds
end

section
set_option Elab.async false
set_option linter.all false
set_option maxRecDepth 100000
set_option maxHeartbeats 4000000
namespace Ds
open PySem PySem.Spec PyProof.Rows L2
section
variable {X : Cx} {W : WX} {C : Cn} {sa sb : SE} {a b : Expr} {pos : Pos}
/-- t.index(x) of texts, where it is found -/
def gTIx (d e : PyData) : Option PyData := match d, e with
  | .tuple ds, .str z => match strsOf ds with
    | some ys => (ys.findIdx? (· == z)).map fun j => .int (j : Nat)
    | none => none
  | _, _ => none
/-- it is a tuple without a dict -/
def TyT (K : PySem.W.Frag) (H : Hp) (x : V) : Prop := ∃ (l : Addr) (o : Obj), x = .ref l ∧ o.dict = none ∧ o.cls = .type "tuple" ∧ ((∃ u, H l = some (.frz o u)) ∨ K.lookup l = some o)
theorem tyT_of {av : Addr → Prop} {H : Hp} {l : Addr} {xs : List V} (h : TK X.K av H l xs) : TyT X.K H (.ref l) := by
  rcases h with ⟨⟨o, e, d, c⟩, _⟩ | ⟨_, o, e, d, c⟩
  · exact ⟨l, o, rfl, d, c, .inl ⟨_, e⟩⟩
  · exact ⟨l, o, rfl, d, c, .inr e⟩
theorem tyT_at {pins : List (Addr × Obj)} {σ : St} {H : Hp} {s : Shared} {l : Addr} (I : Inv X pins σ H s) (h : TyT X.K H (.ref l)) : s.TypeIs (.ref l) "tuple" ∧ ∀ a, Value.ref l = .ref a → ∃ ob, s.heap.get? a = some ob ∧ ob.dict = none := by
  obtain ⟨l', o, e, d, c, r⟩ := h
  cases e
  have g : s.heap.get? l = some o := by
    rcases r with ⟨u, r⟩ | r
    · exact (I.hok l _ r).1
    · exact I.kIn l o r
  exact ⟨⟨o, g, c⟩, fun a z => by cases z; exact ⟨o, g, d⟩⟩
def tTix (K : PySem.W.Frag) (ta : TE) (tb : TA) : TE := fun σ H Q => ta σ H fun x H1 => TyT K H1 x ∧ tb σ H1 fun xs H2 => ∃ p, ∃ ys : List Str, ∃ z j, x = .ref p ∧ xs = [.str z] ∧ SqT K H2 p (ys.map V.str) ∧ ys[j]? = some z ∧ (∀ m, m < j → ys[m]? ≠ some z) ∧ Q (.int (j : Nat)) H2
theorem pe_tix {ta : TE} {tb : TA} {p : Pos} (ho : PE X a ta) (ha : PA X [b] tb) (hbase : attributeBase a "index" X.env (eval a X.env) = eval a X.env := by rfl)
    (hfew : ((backTo pos (starEach [b] X.env)).all (fun x => !x.1) && (backToKw pos (keywordEach [] X.env)).all (fun x => x.1.isSome)
      && decide (([b] : List Expr).length + ([] : List Keyword).length + (if ([] : List Keyword).isEmpty then 0 else 1) < 30)) = true := by rfl)
    (hline : (p.endLine == pos.line) = true := by rfl) (hs : starEach [b] X.env = (false, eval b X.env) :: starEach [] X.env := by rfl) (hplain : (backTo pos (starEach [] X.env)).any (·.1) = false := by rfl) :
    PE X (.Call (.Attribute a "index" p) [b] [] pos) (tTix X.K ta tb) := by
  refine ⟨fun pins s σ H Q I h => ?_⟩
  refine wpAny_Call_method_late hbase hfew hline rfl (thn (ho.run pins s σ H _ I h) fun v t ⟨x, H1, I1, r1, ty, y1⟩ => ?_)
  have ex : ∃ l, x = .ref l := by
    obtain ⟨l, _, e, _⟩ := ty
    exact ⟨l, e⟩
  obtain ⟨l, rfl⟩ := ex
  cases r1
  obtain ⟨z1, z2⟩ := tyT_at I1 ty
  refine ⟨"tuple", "tuple.index", PySem.F.plainAttrs_tuple, PySem.F.slot_tuple_index, PySem.F.type_tuple_index, z1, z2, ?_⟩
  have run := ha.run pos pins t σ H1 _ I1 y1
  rw [hs] at run ⊢
  refine Calls.callWith_builtin (by show (false || (backTo pos (starEach [] X.env)).any (·.1)) = false; rw [hplain] <;> rfl) (Calls.evalArgs_plain (thn run fun us t2 ⟨vs, H2, I2, r2, y2⟩ => ?_))
  exact mt_tup_index pins t2 σ H2 (.ref l) vs _ us Q I2 rfl r2 y2
def sTix (sa sb : SE) : SE := fun S => (sa S).bind fun d S1 => match d with
  | .tuple ds => (sb S1).bind fun e S2 => R.opt (gTIx (.tuple ds) e) S2
  | _ => .no
theorem tix_some {ds : List PyData} {e z : PyData} (h : gTIx (.tuple ds) e = some z) : ∃ (ys : List Str) (y : Str) (j : Nat), ds = ys.map .str ∧ e = .str y ∧ z = .int (j : Nat) ∧ ys[j]? = some y ∧ ∀ m, m < j → ys[m]? ≠ some y := by
  cases e with
  | str y =>
    change (match strsOf ds with | some ys => (ys.findIdx? (· == y)).map fun j => PyData.int (j : Nat) | none => none) = some z at h
    cases e1 : strsOf ds with
    | none => rw [e1] at h; cases h
    | some ys =>
      rw [e1] at h
      change (ys.findIdx? (· == y)).map (fun j => PyData.int (j : Nat)) = some z at h
      cases e2 : ys.findIdx? (· == y) with
      | none => rw [e2] at h; cases h
      | some j =>
        rw [e2] at h
        cases h
        obtain ⟨hj, h1, h2⟩ := List.findIdx?_eq_some_iff_getElem.mp e2
        refine ⟨ys, y, j, strsOf_map e1, rfl, rfl, ?_, fun m hm q => ?_⟩
        · rw [List.getElem?_eq_getElem hj]
          exact congrArg some (by simpa using h1)
        · obtain ⟨hm2, e3⟩ := List.getElem?_eq_some_iff.mp q
          have := h2 m hm
          rw [e3] at this
          simp at this
  | _ => cases h
theorem e_tidx {p : Pos} (ha : PE X a (xE X.K X.mg W C sa)) (hb : PE X b (xE X.K X.mg W C sb)) (hbase : attributeBase a "index" X.env (eval a X.env) = eval a X.env := by rfl)
    (hfew : ((backTo pos (starEach [b] X.env)).all (fun x => !x.1) && (backToKw pos (keywordEach [] X.env)).all (fun x => x.1.isSome)
      && decide (([b] : List Expr).length + ([] : List Keyword).length + (if ([] : List Keyword).isEmpty then 0 else 1) < 30)) = true := by rfl)
    (hline : (p.endLine == pos.line) = true := by rfl) (hs : starEach [b] X.env = (false, eval b X.env) :: starEach [] X.env := by rfl) (hplain : (backTo pos (starEach [] X.env)).any (·.1) = false := by rfl) :
    PE X (.Call (.Attribute a "index" p) [b] [] pos) (xE X.K X.mg W C (sTix sa sb)) :=
  pe_imp (pe_tix ha (pa_cons hb pa_nil hs) hbase hfew hline hs hplain) fun σ H Q ⟨ow, S, r, q⟩ => seq early_E r q fun S1 d v H1 r1 x1 rd k1 => by
    cases rd with
    | @tup l xs ds h1 h2 =>
      refine ⟨tyT_of h1, seq early_E r1 k1 fun S2 e w H2 r2 x2 rd2 k2 => ?_⟩
      cases eg : gTIx (.tuple ds) e with
      | none => rw [eg] at k2; exact k2.elim
      | some z =>
        rw [eg] at k2
        obtain ⟨ys, y, j, rfl, rfl, rfl, g1, g2⟩ := tix_some eg
        cases rd2
        have h3 := h1.mono x2 (Grow.refl _ _)
        rw [rds_strs h2] at h3
        exact ⟨l, ys, y, j, rfl, rfl, h3.sq, g1, g2, pst_ok r2 k2 (.int _)⟩
    | _ => exact k1.elim
@[simp] theorem r_sTix {S : En} : sTix sa sb S = ((sa S).bnd fun d S1 => match d with
  | .tuple ds => (sb S1).bnd fun e S2 => R.opt (gTIx (.tuple ds) e) S2
  | _ => .no) := rfl
@[simp] theorem r_sLenSet {S : En} : sLenSet sa S = ((sa S).bnd fun d S1 => R.opt (gLS d) S1) := rfl
@[simp] theorem r_sAsg {g : GT} {S : En} : sAsg g sa S = ((sa S).stt fun d S1 => g d S1) := rfl
end
end Ds
end

section
set_option Elab.async false
set_option linter.all false
set_option maxRecDepth 100000
set_option maxHeartbeats 4000000
namespace Ds
open PySem PySem.Spec PyProof.Rows L2

/-! ### a list of lists that one slot knows -/
def nst? : Option Sl → Option (List (List PyData))
  | some (.nst dss) => some dss
  | _ => none
theorem nst?_some {o : Option Sl} {dss : List (List PyData)} (h : nst? o = some dss) : o = some (.nst dss) := by
  match o, h with
  | some (.nst d), h => cases h; rfl
theorem nx_mod {i k : Nat} (h : i < 4096) : nx i k % 4096 = i := by unfold nx; omega
theorem nx_div {i k : Nat} (h : i < 4096) : nx i k / 4096 - 1 = k := by unfold nx; omega
theorem nx_ne {i k : Nat} (h : i < 4096) : nx i k ≠ i := by unfold nx; omega
section
variable {K : PySem.W.Frag} {C C2 : Cn} {ow : Ow} {S S' : En} {σ : St} {H H' : Hp}
/-- an inner list becomes another -/
theorem Rl.upN (r : Rl K C ow S σ H) {i : Nat} {dss : List (List PyData)} {k : Nat} {b : Addr} {es : List PyData} {vs : List V} (h : S[i]? = some (.nst dss)) (hk : k < dss.length) (hb : ow (nx i k) = some b) (rd : RDs K (av C ow) H vs es) :
    Rl K C ow (S.set i (.nst (dss.set k es))) σ (upd H b (.lst vs)) ∧ Ext (av C ow) H (upd H b (.lst vs)) := by
  have hl : i < S.length := (List.getElem?_eq_some_iff.mp h).1
  have i4 := r.lt4 h
  have gs : ∀ j, j ≠ i → (S.set i (.nst (dss.set k es)))[j]? = S[j]? := fun j e => List.getElem?_set_ne (Ne.symm e)
  have gi : (S.set i (.nst (dss.set k es)))[i]? = some (.nst (dss.set k es)) := List.getElem?_set_self hl
  have x : Ext (av C ow) H (upd H b (.lst vs)) := fun a o n e => by
    rw [upd_ne (show a ≠ b from fun z => n (by rw [z]; exact .inr ⟨_, hb⟩))]
    exact e
  have key : ∀ j, own? (S.set i (.nst (dss.set k es)))[j]? = own? S[j]? := fun j => by
    by_cases hj : j = i
    · subst hj; rw [gi, h]; rfl
    · rw [gs j hj]
  have na : ∀ j, NstAt (S.set i (.nst (dss.set k es))) j ↔ NstAt S j := fun j => by
    constructor
    · rintro (⟨d, q⟩ | ⟨m, n, d, q1, q2, q3⟩)
      · by_cases hj : j = i
        · subst hj; exact .inl ⟨_, h⟩
        · rw [gs j hj] at q; exact .inl ⟨d, q⟩
      · by_cases hj : m = i
        · subst hj
          rw [gi] at q2
          cases q2
          exact .inr ⟨m, n, dss, q1, h, by rw [List.length_set] at q3; exact q3⟩
        · rw [gs m hj] at q2; exact .inr ⟨m, n, d, q1, q2, q3⟩
    · rintro (⟨d, q⟩ | ⟨m, n, d, q1, q2, q3⟩)
      · by_cases hj : j = i
        · subst hj; exact .inl ⟨_, gi⟩
        · exact .inl ⟨d, by rw [gs j hj]; exact q⟩
      · by_cases hj : m = i
        · subst hj
          rw [h] at q2
          cases q2
          exact .inr ⟨m, n, _, q1, gi, by rw [List.length_set]; exact q3⟩
        · exact .inr ⟨m, n, d, q1, by rw [gs m hj]; exact q2, q3⟩
  have nb : ∀ j a, j ≠ nx i k → ow j = some a → a ≠ b := fun j a n e z => n (r.inj j _ a e (by rw [z]; exact hb))
  have i4k : i ≠ nx i k := fun z => nx_ne (k := k) i4 z.symm
  refine ⟨⟨by rw [List.length_set]; exact r.len, fun j d e => ?_, fun j ds e => ?_, fun j a e => ?_, r.inj, fun j ds a h1 h2 => ?_, fun j ds e => ?_, fun j a e => ?_, fun a z => ?_, fun a o h1 h2 => ?_, ⟨by rw [List.length_set]; exact r.ns.big, fun j d e => ?_, fun j a h1 h2 => r.ns.frn j a ((na j).mp h1) h2⟩⟩, x⟩
  · by_cases hj : j = i
    · subst hj; rw [gi] at e; cases e
    · rw [gs j hj] at e
      obtain ⟨v, h1, h2⟩ := r.val j d e
      exact ⟨v, h1, RD.mono x (Grow.refl _ _) d v h2⟩
  · rw [key j] at e
    obtain ⟨a, ws, h1, h2, h3, h4⟩ := r.own j ds e
    refine ⟨a, ws, h1, h2, ?_, RDs.mono x (Grow.refl _ _) ds ws h4⟩
    rw [upd_ne (nb j a (fun z => ?_) h1)]
    · exact h3
    · have : j < S.length := by
        cases q : S[j]? with
        | none => rw [q] at e; cases e
        | some y => exact (List.getElem?_eq_some_iff.mp q).1
      have := r.ns.big
      unfold nx at z
      omega
  · rw [key j]; exact (r.ows j a e).imp id (na j).mpr
  · by_cases hj : j = i
    · subst hj; rw [gi] at h1; cases h1
    · rw [gs j hj] at h1
      exact r.frs j ds a h1 h2
  · by_cases hj : j = i
    · subst hj; rw [gi] at e; cases e
    · rw [gs j hj] at e
      exact r.ios j ds e
  · obtain ⟨h1, ds, h2⟩ := r.iok j a e
    exact ⟨h1, ds, by rw [gs j fun z => by rw [z, h] at h2; cases h2]; exact h2⟩
  · by_cases e : a = b
    · rw [e]; exact ⟨_, upd_same⟩
    · rw [upd_ne e]; exact r.trk a z
  · have e := r.ext a o h1 h2
    rw [upd_ne (show a ≠ b from fun z => by
      have := (r.ns.frn (nx i k) b (.inr ⟨i, k, dss, rfl, h, hk⟩) hb).1
      rw [z, this] at h1; cases h1)]
    exact e
  · by_cases hj : j = i
    · subst hj
      rw [gi] at e
      cases e
      obtain ⟨a, bs, h1, h2, h3, h4, h5⟩ := r.ns.nst j dss h
      refine ⟨a, bs, h1, h2, ?_, by rw [List.length_set]; exact h4, fun m c ds q1 q2 => ?_⟩
      · rw [upd_ne (nb j a i4k h1)]; exact h3
      · by_cases hm : m = k
        · subst hm
          rw [List.getElem?_set_self hk] at q2
          cases q2
          obtain ⟨g1, ws, g2, g3⟩ := h5 m c _ q1 (List.getElem?_eq_getElem hk)
          rw [hb] at g1
          cases g1
          exact ⟨hb, vs, upd_same, RDs.mono x (Grow.refl _ _) es vs rd⟩
        · rw [List.getElem?_set_ne (Ne.symm hm)] at q2
          obtain ⟨g1, ws, g2, g3⟩ := h5 m c ds q1 q2
          refine ⟨g1, ws, ?_, RDs.mono x (Grow.refl _ _) ds ws g3⟩
          rw [upd_ne (nb (nx j m) c (fun z => hm (by unfold nx at z; omega)) g1)]
          exact g2
    · rw [gs j hj] at e
      obtain ⟨a, bs, h1, h2, h3, h4, h5⟩ := r.ns.nst j d e
      have j4 := r.lt4 e
      refine ⟨a, bs, h1, h2, ?_, h4, fun m c ds q1 q2 => ?_⟩
      · rw [upd_ne (nb j a (fun z => by unfold nx at z; omega) h1)]; exact h3
      · obtain ⟨g1, ws, g2, g3⟩ := h5 m c ds q1 q2
        refine ⟨g1, ws, ?_, RDs.mono x (Grow.refl _ _) ds ws g3⟩
        rw [upd_ne (nb (nx j m) c (fun z => hj (by unfold nx at z; omega)) g1)]
        exact g2
/-- all of it is given up -/
def owRel (ow : Ow) (i : Nat) : Ow := fun j => if j % 4096 = i then none else ow j
theorem owRel_some {i j : Nat} {a : Addr} (h : owRel ow i j = some a) : ow j = some a ∧ j % 4096 ≠ i := by
  unfold owRel at h
  by_cases e : j % 4096 = i
  · rw [if_pos e] at h; cases h
  · rw [if_neg e] at h; exact ⟨h, e⟩
theorem owRel_ne {i j : Nat} (h : j % 4096 ≠ i) : owRel ow i j = ow j := if_neg h
theorem Rl.freezeN (r : Rl K C ow S σ H) {i : Nat} {dss : List (List PyData)} (hi : S[i]? = some (.nst dss)) : ∃ ow', Rl K C ow' (S.set i (.val (.list (dss.map .list)))) σ H ∧ Grow (av C ow) (av C ow') H := by
  obtain ⟨p, bs, h1, h2, h3, h4, h5⟩ := r.ns.nst i dss hi
  have hl : i < S.length := (List.getElem?_eq_some_iff.mp hi).1
  have i4 := r.lt4 hi
  have lt : ∀ a, av C (owRel ow i) a → av C ow a := fun a z => z.imp id fun ⟨j, z⟩ => ⟨j, (owRel_some z).1⟩
  have nav : ∀ j a, NstAt S j → j % 4096 = i → ow j = some a → ¬ av C (owRel ow i) a := fun j a n m e z => by
    rcases z with z | ⟨k, z⟩
    · exact (r.ns.frn j a n e).2 z
    · obtain ⟨z1, z2⟩ := owRel_some z
      exact z2 (by rw [r.inj k j a z1 e]; exact m)
  have gs : ∀ j, j ≠ i → (S.set i (.val (.list (dss.map .list))))[j]? = S[j]? := fun j e => List.getElem?_set_ne (Ne.symm e)
  have gi : (S.set i (.val (.list (dss.map .list))))[i]? = some (.val (.list (dss.map .list))) := List.getElem?_set_self hl
  have s4 : ∀ j, j < S.length → j ≠ i → j % 4096 ≠ i := fun j hj n => by
    have := r.ns.big
    omega
  have slt : ∀ {j : Nat} {y : Sl}, S[j]? = some y → j < S.length := fun e => (List.getElem?_eq_some_iff.mp e).1
  have olt : ∀ {j : Nat} {ds : List PyData}, own? S[j]? = some ds → j < S.length := fun {j ds} e => by
    cases q : S[j]? with
    | none => rw [q] at e; cases e
    | some y => exact slt q
  have na : ∀ j, NstAt S j → j % 4096 ≠ i → NstAt (S.set i (.val (.list (dss.map .list)))) j := fun j q m => by
    rcases q with ⟨d, q⟩ | ⟨m', k, d, q1, q2, q3⟩
    · exact .inl ⟨d, by rw [gs j fun z => m (by rw [z]; omega)]; exact q⟩
    · refine .inr ⟨m', k, d, q1, ?_, q3⟩
      rw [gs m' fun z => m (by rw [q1, z]; exact nx_mod i4)]
      exact q2
  have nb : ∀ j, NstAt (S.set i (.val (.list (dss.map .list)))) j → NstAt S j ∧ j % 4096 ≠ i := fun j q => by
    rcases q with ⟨d, q⟩ | ⟨m', k, d, q1, q2, q3⟩
    · by_cases hj : j = i
      · subst hj; rw [gi] at q; cases q
      · rw [gs j hj] at q
        exact ⟨.inl ⟨d, q⟩, s4 j (slt q) hj⟩
    · by_cases hj : m' = i
      · subst hj; rw [gi] at q2; cases q2
      · rw [gs m' hj] at q2
        refine ⟨.inr ⟨m', k, d, q1, q2, q3⟩, ?_⟩
        rw [q1, nx_mod (r.lt4 q2)]
        exact hj
  refine ⟨owRel ow i, ⟨by rw [List.length_set]; exact r.len, fun j d e => ?_, fun j es e => ?_, fun j a e => ?_, fun j k a e1 e2 => r.inj j k a (owRel_some e1).1 (owRel_some e2).1, fun j es a e1 e2 => ?_, fun j es e => ?_, fun j a e => ?_, r.trk, r.ext, ⟨by rw [List.length_set]; exact r.ns.big, fun j d e => ?_, fun j a e1 e2 => r.ns.frn j a (nb j e1).1 (owRel_some e2).1⟩⟩, fun a z => .inl (lt a z)⟩
  · by_cases hj : j = i
    · subst hj
      rw [gi] at e
      cases e
      refine ⟨.ref p, h2, .lst (.inl ⟨.inl h3, nav j p (.inl ⟨dss, hi⟩) (by omega) h1⟩) ?_⟩
      have go : ∀ (bs : List Addr) (dss : List (List PyData)), bs.length = dss.length → (∀ (k : Nat) b ds, bs[k]? = some b → dss[k]? = some ds → ¬ av C (owRel ow j) b ∧ ∃ ws, H b = some (.lst ws) ∧ RDs K (av C ow) H ws ds) → RDs K (av C (owRel ow j)) H (bs.map V.ref) (dss.map .list) := by
        intro bs
        induction bs with
        | nil =>
          intro dss hl _
          cases dss with
          | nil => exact .nil
          | cons d ds => simp at hl
        | cons b bs ih =>
          intro dss hl hh
          cases dss with
          | nil => simp at hl
          | cons d ds =>
            obtain ⟨g1, ws, g2, g3⟩ := hh 0 b d rfl rfl
            exact .cons (.lst (.inl ⟨.inl g2, g1⟩) (rds_less g3 lt)) (ih ds (by simpa using hl) fun k b' ds' q1 q2 => hh (k + 1) b' ds' (by simpa using q1) (by simpa using q2))
      refine go bs dss h4 fun k b ds q1 q2 => ?_
      obtain ⟨g1, ws, g2, g3⟩ := h5 k b ds q1 q2
      exact ⟨nav (nx j k) b (.inr ⟨j, k, dss, rfl, hi, (List.getElem?_eq_some_iff.mp q2).1⟩) (nx_mod i4) g1, ws, g2, g3⟩
    · rw [gs j hj] at e
      obtain ⟨w, e1, e2⟩ := r.val j d e
      exact ⟨w, e1, rd_less e2 lt⟩
  · by_cases hj : j = i
    · subst hj; rw [gi] at e; cases e
    · rw [gs j hj] at e
      obtain ⟨a, ws, e1, e2, e3, e4⟩ := r.own j es e
      exact ⟨a, ws, by rw [owRel_ne (s4 j (olt e) hj)]; exact e1, e2, e3, rds_less e4 lt⟩
  · obtain ⟨e1, e2⟩ := owRel_some e
    have hj : j ≠ i := fun z => e2 (by rw [z]; omega)
    rw [gs j hj]
    exact (r.ows j a e1).imp id fun z => na j z e2
  · by_cases hj : j = i
    · subst hj; rw [gi] at e1; cases e1
    · rw [gs j hj] at e1
      exact r.frs j es a e1 (owRel_some e2).1
  · by_cases hj : j = i
    · subst hj; rw [gi] at e; cases e
    · rw [gs j hj] at e
      rw [owRel_ne (s4 j (slt e) hj)]
      exact r.ios j es e
  · obtain ⟨g1, es, g2⟩ := r.iok j a e
    exact ⟨g1, es, by rw [gs j fun z => by rw [z, hi] at g2; cases g2]; exact g2⟩
  · by_cases hj : j = i
    · subst hj; rw [gi] at e; cases e
    · rw [gs j hj] at e
      obtain ⟨a, cs, g1, g2, g3, g4, g5⟩ := r.ns.nst j d e
      refine ⟨a, cs, by rw [owRel_ne (s4 j (slt e) hj)]; exact g1, g2, g3, g4, fun k b ds q1 q2 => ?_⟩
      obtain ⟨f1, ws, f2, f3⟩ := g5 k b ds q1 q2
      exact ⟨by rw [owRel_ne (show nx j k % 4096 ≠ i by rw [nx_mod (r.lt4 e)]; exact hj)]; exact f1, ws, f2, rds_less f3 lt⟩
end
section
variable {X : Cx} {W : WX} {C : Cn} {pos : Pos} {a b e c : Expr} {sa sb se : SE} {i : Nat}
def sFrzN (i : Nat) (s : SS) : SS := fun S => match nst? S[i]? with
  | some dss => s (S.set i (.val (.list (dss.map .list))))
  | none => .no
theorem ss_frzN {sts : List Stmt} {s : SS} (i : Nat) (h : PSs X sts (xS X.K X.mg W C s)) : PSs X sts (xS X.K X.mg W C (sFrzN i s)) := pss_imp h fun D σ H ⟨ow, S, r, q⟩ => by
  change sst X.K X.mg W C ow H D (sFrzN i s S) at q
  unfold sFrzN at q
  cases e : nst? S[i]? with
  | none => rw [e] at q; exact q.elim
  | some ds =>
    rw [e] at q
    obtain ⟨ow', r', g'⟩ := r.freezeN (nst?_some e)
    exact ⟨ow', _, r', sst_from (Ext.refl _ _) g' q⟩
/-- l[k], an inner list, for a change -/
def nstIx (o : Option Sl) (k : PyData) : Option Nat := match nst? o, k with
  | some dss, .int j => if 0 ≤ j ∧ j < dss.length then some j.toNat else none
  | _, _ => none
theorem nstIx_some {o : Option Sl} {k : PyData} {n : Nat} (h : nstIx o k = some n) : ∃ dss, o = some (.nst dss) ∧ k = .int (n : Nat) ∧ n < dss.length := by
  unfold nstIx at h
  split at h
  · rename_i dss j e
    by_cases z : 0 ≤ j ∧ j < dss.length
    · rw [if_pos z] at h
      cases h
      exact ⟨dss, nst?_some e, by rw [Int.toNat_of_nonneg z.1], by omega⟩
    · rw [if_neg z] at h; cases h
  · cases h
def relJ (i : Nat) : Rel V Nat := fun C ow _ _ _ _ v k => ∃ b, v = .ref b ∧ ow (nx i k) = some b
theorem early_J {K : PySem.W.Frag} {i : Nat} : Early K (relJ i) := fun _ _ _ _ _ _ _ _ _ _ _ _ _ _ h => h
def sNJ (i : Nat) (sb : SE) : En → R Nat := fun S => if (nst? S[i]?).isSome = true then (sb S).bind fun k S1 => R.opt (nstIx S1[i]? k) S1 else .no
theorem j_nix (ho : PE X a (tVar i)) (hb : PE X b (xE X.K X.mg W C sb)) (hs : PlainIx b) : PE X (.Subscript a b pos) (xG X.K X.mg W C (relJ i) (sNJ i sb)) := pe_imp (pe_ix ix_seq ho hb hs) fun σ H Q ⟨ow, S, r, q⟩ => by
  change pst X.K X.mg W C (relJ i) ow σ H Q (sNJ i sb S) at q
  unfold sNJ at q
  cases e : nst? S[i]? with
  | none => rw [e] at q; exact q.elim
  | some dss =>
    rw [e] at q
    obtain ⟨p, bs, h1, h2, _⟩ := r.ns.nst i dss (nst?_some e)
    refine ⟨.ref p, h2, seq early_J r q fun S1 k x H1 r1 x1 rk k1 => ?_⟩
    cases e1 : nstIx S1[i]? k with
    | none => rw [e1] at k1; exact k1.elim
    | some n =>
      rw [e1] at k1
      obtain ⟨es, g1, g2, g3⟩ := nstIx_some e1
      subst g2
      cases rk
      obtain ⟨p2, cs, f1, f2, f3, f4, f5⟩ := r1.ns.nst i es g1
      rw [h2] at f2; cases f2
      have ln : n < cs.length := by omega
      obtain ⟨y1, ws, y2, y3⟩ := f5 n _ _ (List.getElem?_eq_getElem ln) (List.getElem?_eq_getElem g3)
      refine .inl ⟨p, cs.map V.ref, (n : Nat), .ref cs[n], rfl, rfl, SqL.of f3, ?_, pst_ok r1 k1 ⟨cs[n], rfl, y1⟩⟩
      unfold L2.atI ixN
      rw [if_pos (by omega), List.length_map, if_pos (by omega)]
      simp [ln]
/-- l[k], an inner list, for a reader -/
def sNIx (i : Nat) (sb : SE) : SN := fun S => (sNJ i sb S).bind fun k S1 => R.opt ((nst? S1[i]?).bind fun dss => dss[k]?) S1
theorem l_nix (ho : PE X a (tVar i)) (hb : PE X b (xE X.K X.mg W C sb)) (hs : PlainIx b) : PE X (.Subscript a b pos) (xL X.K X.mg W C (sNIx i sb)) := pe_imp (j_nix ho hb hs) fun σ H Q ⟨ow, S, r, q⟩ =>
  seq early_L r q fun S1 k x H1 r1 x1 rk k1 => by
    cases e1 : nst? S1[i]? with
    | none => rw [e1] at k1; exact k1.elim
    | some dss =>
      rw [e1] at k1
      change pst X.K X.mg W C (relL X.K) ow σ H1 Q (R.opt dss[k]? S1) at k1
      cases e2 : dss[k]? with
      | none => rw [e2] at k1; exact k1.elim
      | some ds =>
        rw [e2] at k1
        obtain ⟨c, rfl, hc⟩ := rk
        obtain ⟨p, bs, f1, f2, f3, f4, f5⟩ := r1.ns.nst i dss (nst?_some e1)
        have ln : k < bs.length := by have := (List.getElem?_eq_some_iff.mp e2).1; omega
        obtain ⟨y1, ws, y2, y3⟩ := f5 k _ _ (List.getElem?_eq_getElem ln) e2
        rw [hc] at y1
        cases y1
        exact pst_ok r1 k1 ⟨_, ws, rfl, SqL.of y2, y3⟩
/-- l[k].append(e) -/
def sNApp (i : Nat) (sb se : SE) : SE := fun S => (sNJ i sb S).bind fun k S1 => (se S1).bind fun d S2 => match nst? S2[i]? with
  | some dss => match dss[k]? with
    | some ds => if ds.length < sizeLine then .ok .none (S2.set i (.nst (dss.set k (ds ++ [d])))) else .no
    | none => .no
  | none => .no
theorem e_napp (hp : ∀ {to t : TE}, PE X a to → PE X e t → PE X c (tBM X.K "list" rAppend to (tCons t tNil))) (ho : PE X a (xG X.K X.mg W C (relJ i) (sNJ i sb))) (he : PE X e (xE X.K X.mg W C se)) : PE X c (xE X.K X.mg W C (sNApp i sb se)) :=
  pe_imp (hp ho he) fun σ H Q ⟨ow, S, r, q⟩ => seq early_E r q fun S1 k x H1 r1 x1 rk k1 => by
    obtain ⟨c, rfl, hc⟩ := rk
    obtain ⟨o, ho⟩ := r1.tracked c (.inr ⟨_, hc⟩)
    refine ⟨?_, seq early_E r1 k1 fun S2 d y H2 r2 x2 rd k2 => ?_⟩
    · rcases r1.ows _ c hc with ⟨ds, z⟩ | z
      · obtain ⟨p, ws, z1, _, z3, _⟩ := r1.own _ ds z
        rw [hc] at z1; cases z1
        exact .inl ⟨rfl, ws, SqL.of z3⟩
      · obtain ⟨ws, z3⟩ := r1.ns.live z hc
        exact .inl ⟨rfl, ws, SqL.of z3⟩
    · cases e1 : nst? S2[i]? with
      | none => simp only [e1] at k2; exact k2.elim
      | some dss =>
        simp only [e1] at k2
        cases e2 : dss[k]? with
        | none => simp only [e2] at k2; exact k2.elim
        | some ds =>
          simp only [e2] at k2
          by_cases z : ds.length < sizeLine
          · rw [if_pos z] at k2
            have lk := (List.getElem?_eq_some_iff.mp e2).1
            obtain ⟨p, bs, f1, f2, f3, f4, f5⟩ := r2.ns.nst i dss (nst?_some e1)
            have ln : k < bs.length := by omega
            obtain ⟨y1, ws, y2, y3⟩ := f5 k _ _ (List.getElem?_eq_getElem ln) e2
            rw [hc] at y1
            cases y1
            obtain ⟨r3, x3⟩ := r2.upN (es := ds ++ [d]) (vs := ws ++ [y]) (nst?_some e1) lk hc (y3.append (.cons rd .nil))
            exact ⟨_, ws, y, rfl, rfl, y2, by rw [y3.len]; exact z, k2 _ _ r3 x3 .non⟩
          · rw [if_neg z] at k2
            exact k2.elim
/-- l[k].insert(j, e) -/
def rInsert : V → List V → Hp → VK → Prop := fun x vs H Q => ∃ (l : Addr) (xs : List V) (i : Int) (y : V), x = .ref l ∧ vs = [.int i, y] ∧ H l = some (.lst xs) ∧ xs.length < sizeLine ∧ 0 ≤ i ∧ i < 2 ^ 63 ∧
    Q .non (upd H l (.lst (xs.take i.toNat ++ [y] ++ xs.drop i.toNat)))
theorem mt_ins : MtR X "list.insert" rInsert := mt_insert
def sNIns (i : Nat) (sb : SE) (sg : SN) : SE := fun S => (sNJ i sb S).bind fun k S1 => (sg S1).bind fun gs S2 => match nst? S2[i]?, gs with
  | some dss, [.int j, d] => match dss[k]? with
    | some ds => if ds.length < sizeLine ∧ 0 ≤ j ∧ j < 2 ^ 63 then .ok .none (S2.set i (.nst (dss.set k (ds.take j.toNat ++ [d] ++ ds.drop j.toNat)))) else .no
    | none => .no
  | _, _ => .no
theorem e_nins {sg : SN} (hp : ∀ {to : TE} {t : TA}, PE X a to → PA X [e, b] t → PE X c (tBM X.K "list" rInsert to t)) (ho : PE X a (xG X.K X.mg W C (relJ i) (sNJ i sb))) (he : PA X [e, b] (xA X.K X.mg W C sg)) : PE X c (xE X.K X.mg W C (sNIns i sb sg)) :=
  pe_imp (hp ho he) fun σ H Q ⟨ow, S, r, q⟩ => seq early_E r q fun S1 k x H1 r1 x1 rk k1 => by
    obtain ⟨c, rfl, hc⟩ := rk
    refine ⟨?_, seq early_E r1 k1 fun S2 gs ys H2 r2 x2 rg k2 => ?_⟩
    · rcases r1.ows _ c hc with ⟨ds, z⟩ | z
      · obtain ⟨p, ws, z1, _, z3, _⟩ := r1.own _ ds z
        rw [hc] at z1; cases z1
        exact .inl ⟨rfl, ws, SqL.of z3⟩
      · obtain ⟨ws, z3⟩ := r1.ns.live z hc
        exact .inl ⟨rfl, ws, SqL.of z3⟩
    · cases e1 : nst? S2[i]? with
      | none => simp only [e1] at k2; exact k2.elim
      | some dss =>
        match gs, rg, k2 with
        | [.int j, d], .cons (.int _) (.cons rd .nil), k2 =>
          simp only [e1] at k2
          cases e2 : dss[k]? with
          | none => simp only [e2] at k2; exact k2.elim
          | some ds =>
            simp only [e2] at k2
            by_cases z : ds.length < sizeLine ∧ 0 ≤ j ∧ j < 2 ^ 63
            · rw [if_pos z] at k2
              have lk := (List.getElem?_eq_some_iff.mp e2).1
              obtain ⟨p, bs, f1, f2, f3, f4, f5⟩ := r2.ns.nst i dss (nst?_some e1)
              have ln : k < bs.length := by omega
              obtain ⟨y1, ws, y2, y3⟩ := f5 k _ _ (List.getElem?_eq_getElem ln) e2
              rw [hc] at y1
              cases y1
              obtain ⟨r3, x3⟩ := r2.upN (es := ds.take j.toNat ++ [d] ++ ds.drop j.toNat) (nst?_some e1) lk hc (((y3.take _).append (.cons rd .nil)).append (y3.drop _))
              exact ⟨_, ws, j, _, rfl, rfl, y2, by rw [y3.len]; exact z.1, z.2.1, z.2.2, k2 _ _ r3 x3 .non⟩
            · rw [if_neg z] at k2
              exact k2.elim
        | [], _, k2 => simp only [e1] at k2; exact k2.elim
        | [_], _, k2 => simp only [e1] at k2; exact k2.elim
        | _ :: _ :: _ :: _, _, k2 => simp only [e1] at k2; exact k2.elim
        | [.none, _], _, k2 => simp only [e1] at k2; exact k2.elim
        | [.bool _, _], _, k2 => simp only [e1] at k2; exact k2.elim
        | [.str _, _], _, k2 => simp only [e1] at k2; exact k2.elim
        | [.list _, _], _, k2 => simp only [e1] at k2; exact k2.elim
        | [.tuple _, _], _, k2 => simp only [e1] at k2; exact k2.elim
        | [.dict _, _], _, k2 => simp only [e1] at k2; exact k2.elim
end
end Ds
end

section
set_option Elab.async false
set_option linter.all false
set_option maxRecDepth 100000
set_option maxHeartbeats 4000000
namespace Ds
open PySem PySem.Spec PyProof.Rows L2

/-! ### [[..] for ..]: a new list of new lists -/
theorem nodup_idx {α : Type} : ∀ {l : List α}, l.Nodup → ∀ {m n : Nat} {c : α}, l[m]? = some c → l[n]? = some c → m = n
  | [], _, m, n, c, h, _ => by simp at h
  | x :: l, hn, m, n, c, h1, h2 => by
    have q := List.nodup_cons.mp hn
    cases m with
    | zero =>
      cases n with
      | zero => rfl
      | succ n =>
        obtain rfl : x = c := by simpa using h1
        exact absurd (List.mem_of_getElem? (by simpa using h2)) q.1
    | succ m =>
      cases n with
      | zero =>
        obtain rfl : x = c := by simpa using h2
        exact absurd (List.mem_of_getElem? (by simpa using h1)) q.1
      | succ n => rw [nodup_idx q.2 (m := m) (n := n) (by simpa using h1) (by simpa using h2)]
structure Bk (K : PySem.W.Frag) (C C2 : Cn) (ow : Ow) (H : Hp) (D : Addr) (bs : List Addr) (dss : List (List PyData)) : Prop where
  A : ∀ a, C2.A0 a ↔ C.A0 a ∨ a = D ∨ a ∈ bs
  h0 : ∀ a, a ≠ D → a ∉ bs → C2.H0 a = C.H0 a
  hD : C2.H0 D = some (.lst (bs.map V.ref))
  io : C2.io = C.io
  nd : (D :: bs).Nodup
  nw : ∀ a, (a = D ∨ a ∈ bs) → C.H0 a = none ∧ ¬ C.A0 a
  len : bs.length = dss.length
  inn : ∀ (k : Nat) b ds, bs[k]? = some b → dss[k]? = some ds → ∃ ws, C2.H0 b = some (.lst ws) ∧ RDs K (av C2 ow) H ws ds
section
variable {K : PySem.W.Frag} {C C2 : Cn} {ow : Ow} {S : En} {σ : St} {H H' Hm : Hp} {D a : Addr} {bs : List Addr} {dss : List (List PyData)} {ws : List V} {ds : List PyData}
theorem Bk.mono (b : Bk K C C2 ow H D bs dss) (x : Ext (av C2 ow) H H') : Bk K C C2 ow H' D bs dss :=
  ⟨b.A, b.h0, b.hD, b.io, b.nd, b.nw, b.len, fun k c ds e1 e2 => let ⟨ws, h1, h2⟩ := b.inn k c ds e1 e2; ⟨ws, h1, RDs.mono x (Grow.refl _ _) ds ws h2⟩⟩
def Cn.put (C : Cn) (p : Addr) (ws : List V) : Cn := ⟨C.A0, upd C.H0 p (.lst ws), C.io⟩
/-- what stands at p is exchanged -/
theorem Rl.reset {p : Addr} (r : Rl K C ow S σ H) (hA : C.A0 p) (hio : ∀ i, C.io i ≠ some p) (ws : List V) : Rl K (C.put p ws) ow S σ (upd H p (.lst ws)) := by
  have ap : av C ow p := .inl hA
  have x : Ext (av C ow) H (upd H p (.lst ws)) := fun a o n e => by
    rw [upd_ne (show a ≠ p from fun z => n (by rw [z]; exact ap))]
    exact e
  have np : ∀ i ds, own? S[i]? = some ds → ow i ≠ some p := fun i ds e z => by
    cases q : S[i]? with
    | none => rw [q] at e; cases e
    | some x =>
      rw [q] at e
      cases x with
      | own d => exact (r.frs i d p q z).2 hA
      | io d => exact hio i ((r.ios i d q).trans z)
      | nil => cases e
      | val d => cases e
      | nst d => cases e
      | pair d ds => cases e
  have np3 : ∀ i a, NstAt S i → ow i = some a → a ≠ p := fun i a h e z => (r.ns.frn i a h e).2 (by rw [z]; exact hA)
  have pt : ∀ {a : Addr} {o : Option HO}, a ≠ p → C.H0 a = o → (C.put p ws).H0 a = o := fun {a o} ne e => by
    show upd C.H0 p (.lst ws) a = o
    rw [upd_ne ne]; exact e
  refine ⟨r.len, fun i d e => ?_, fun i ds e => ?_, r.ows, r.inj, fun i ds a h1 h2 => ?_, r.ios, r.iok, fun a h => ?_, fun a o h1 h2 => ?_, r.ns.move r.ns.big (fun _ _ q => q) (fun _ _ => rfl) (fun _ _ _ _ => rfl) (fun j a o q e1 e2 => by rw [upd_ne (np3 j a q e1)]; exact e2) (fun ws' ds q => RDs.mono x (Grow.refl _ _) ds ws' q) (fun j a q e z => ⟨pt (np3 j a q e) z.1, z.2⟩)⟩
  · obtain ⟨v, h1, h2⟩ := r.val i d e
    exact ⟨v, h1, RD.mono x (Grow.refl _ _) d v h2⟩
  · obtain ⟨a, vs, h1, h2, h3, h4⟩ := r.own i ds e
    refine ⟨a, vs, h1, h2, ?_, RDs.mono x (Grow.refl _ _) ds vs h4⟩
    rw [upd_ne (show a ≠ p from fun z => np i ds e (by rw [h1, z]))]
    exact h3
  · obtain ⟨g1, g2⟩ := r.frs i ds a h1 h2
    exact ⟨pt (fun z => g2 (by rw [z]; exact hA)) g1, g2⟩
  · by_cases e : a = p
    · rw [e]; exact ⟨_, upd_same⟩
    · rw [upd_ne e]; exact r.trk a h
  · change upd C.H0 p (.lst ws) a = some o at h1
    by_cases e : a = p
    · rw [e, upd_same] at h1 ⊢
      exact h1
    · rw [upd_ne e] at h1 ⊢
      exact r.ext a o h1 h2
/-- one more inner list -/
theorem Bk.more (b : Bk K C C2 ow Hm D bs dss) (r : Rl K C2 ow S σ Hm) (na : Hm a = none) (rd : RDs K (av C2 ow) Hm ws ds) (hio : ∀ i c, C.io i = some c → C.A0 c) :
    Rl K ((C2.plus a ws).put D ((bs ++ [a]).map V.ref)) ow S σ (upd (upd Hm a (.lst ws)) D (.lst ((bs ++ [a]).map V.ref))) ∧ Bk K C ((C2.plus a ws).put D ((bs ++ [a]).map V.ref)) ow (upd (upd Hm a (.lst ws)) D (.lst ((bs ++ [a]).map V.ref))) D (bs ++ [a]) (dss ++ [ds]) := by
  have f0 := r.fresh0 na
  have aA : ∀ c, c = D ∨ c ∈ bs → a ≠ c := fun c hc z => f0.2 ((b.A a).mpr (.inr (by rw [z]; exact hc)))
  have aD : a ≠ D := aA D (.inl rfl)
  have ab : a ∉ bs := fun z => aA a (.inr z) rfl
  have rp := r.plus na ws
  have hA : (C2.plus a ws).A0 D := .inl ((b.A D).mpr (.inr (.inl rfl)))
  have hioD : ∀ i, (C2.plus a ws).io i ≠ some D := fun i z => by
    change C2.io i = some D at z
    rw [b.io] at z
    exact (b.nw D (.inl rfl)).2 (hio i D z)
  have rr := rp.reset hA hioD ((bs ++ [a]).map V.ref)
  have nd := List.nodup_cons.mp b.nd
  refine ⟨rr, fun c => ?_, fun c h1 h2 => ?_, upd_same, b.io, ?_, fun c hc => ?_, by rw [List.length_append, List.length_append, b.len]; rfl, fun k c es e1 e2 => ?_⟩
  · show C2.A0 c ∨ c = a ↔ _
    rw [b.A c, List.mem_append, List.mem_singleton]
    constructor
    · rintro ((h | h | h) | h)
      · exact .inl h
      · exact .inr (.inl h)
      · exact .inr (.inr (.inl h))
      · exact .inr (.inr (.inr h))
    · rintro (h | h | h | h)
      · exact .inl (.inl h)
      · exact .inl (.inr (.inl h))
      · exact .inl (.inr (.inr h))
      · exact .inr h
  · show upd (upd C2.H0 a (.lst ws)) D _ c = _
    rw [upd_ne h1, upd_ne fun z => h2 (by rw [z]; simp)]
    exact b.h0 c h1 fun z => h2 (by simp [z])
  · refine List.nodup_cons.mpr ⟨fun z => ?_, ?_⟩
    · rw [List.mem_append, List.mem_singleton] at z
      exact z.elim nd.1 fun z => aD z.symm
    · rw [List.nodup_append]
      refine ⟨nd.2, by simp, fun x hx y hy z => ?_⟩
      rw [List.mem_singleton] at hy
      exact ab (by rw [← hy, ← z]; exact hx)
  · rcases hc with hc | hc
    · exact b.nw c (.inl hc)
    · rw [List.mem_append, List.mem_singleton] at hc
      rcases hc with hc | hc
      · exact b.nw c (.inr hc)
      · subst hc
        exact ⟨by rw [← b.h0 c aD ab]; exact f0.1, fun z => f0.2 ((b.A c).mpr (.inl z))⟩
  · have x1 : Ext (av C2 ow) Hm (upd Hm a (.lst ws)) := Ext.same (same_new na)
    have g1 : Grow (av C2 ow) (av (C2.plus a ws) ow) Hm := grow_plus na
    have x2 : Ext (av (C2.plus a ws) ow) (upd Hm a (.lst ws)) (upd (upd Hm a (.lst ws)) D (.lst ((bs ++ [a]).map V.ref))) := fun c o n e => by
      rw [upd_ne (show c ≠ D from fun z => n (by rw [z]; exact .inl hA))]
      exact e
    have up : ∀ {us : List V} {fs : List PyData}, RDs K (av C2 ow) Hm us fs → RDs K (av ((C2.plus a ws).put D ((bs ++ [a]).map V.ref)) ow) (upd (upd Hm a (.lst ws)) D (.lst ((bs ++ [a]).map V.ref))) us fs := fun {us fs} q => RDs.mono (x1.trans g1 x2) g1 fs us q
    by_cases hk : k < bs.length
    · rw [List.getElem?_append_left hk] at e1
      rw [List.getElem?_append_left (by rw [← b.len]; exact hk)] at e2
      obtain ⟨us, h1, h2⟩ := b.inn k c es e1 e2
      have hc : c ∈ bs := List.mem_of_getElem? e1
      refine ⟨us, ?_, up h2⟩
      show upd (upd C2.H0 a (.lst ws)) D _ c = _
      rw [upd_ne fun z => nd.1 (by rw [← z]; exact hc), upd_ne (aA c (.inr hc)).symm]
      exact h1
    · rw [List.getElem?_append_right (by omega)] at e1
      rw [List.getElem?_append_right (by rw [← b.len]; omega)] at e2
      have k0 : k - bs.length = 0 := by
        have := (List.getElem?_eq_some_iff.mp e1).1
        simp at this
        omega
      rw [k0] at e1
      rw [← b.len, k0] at e2
      cases e1
      cases e2
      refine ⟨ws, ?_, up rd⟩
      show upd (upd C2.H0 a (.lst ws)) D _ a = _
      rw [upd_ne aD, upd_same]
/-- all of it comes into slot i -/
def owNst (ow : Ow) (i : Nat) (D : Addr) (bs : List Addr) : Ow := fun j => if j % 4096 = i then if j = i then some D else bs[j / 4096 - 1]? else ow j
theorem Rl.adoptN (r : Rl K C2 ow S σ H) (b : Bk K C C2 ow H D bs dss) (hio : ∀ i c, C.io i = some c → C.A0 c) {i : Nat} (hi : noio S[i]? = true) :
    Rl K C (owNst ow i D bs) (S.set i (.nst dss)) (σ.set i (some (.ref D))) H := by
  have hl := noio_lt hi
  have hlσ : i < σ.length := by rw [← r.len]; exact hl
  have i4 : i < 4096 := Nat.lt_of_lt_of_le hl r.ns.big
  have hn := noio_nn hi
  have gs : ∀ j, j ≠ i → (S.set i (.nst dss))[j]? = S[j]? := fun j e => List.getElem?_set_ne (Ne.symm e)
  have gσ : ∀ j, j ≠ i → (σ.set i (some (.ref D)))[j]? = σ[j]? := fun j e => List.getElem?_set_ne (Ne.symm e)
  have gi : (S.set i (.nst dss))[i]? = some (.nst dss) := List.getElem?_set_self hl
  have gσi : (σ.set i (some (.ref D)))[i]? = some (some (.ref D)) := List.getElem?_set_self hlσ
  have oi : owNst ow i D bs i = some D := by unfold owNst; rw [if_pos (by omega), if_pos rfl]
  have ok : ∀ k, owNst ow i D bs (nx i k) = bs[k]? := fun k => by unfold owNst; rw [if_pos (nx_mod i4), if_neg (nx_ne i4), nx_div i4]
  have on : ∀ j, j % 4096 ≠ i → owNst ow i D bs j = ow j := fun j h => if_neg h
  have nd := List.nodup_cons.mp b.nd
  -- what the index j owns
  have cs : ∀ {j : Nat} {c : Addr}, owNst ow i D bs j = some c → (j = i ∧ c = D) ∨ (∃ k, j = nx i k ∧ bs[k]? = some c) ∨ (j % 4096 ≠ i ∧ ow j = some c) := fun {j c} e => by
    by_cases h : j % 4096 = i
    · by_cases h2 : j = i
      · rw [h2, oi] at e; cases e; exact .inl ⟨h2, rfl⟩
      · refine .inr (.inl ⟨j / 4096 - 1, by unfold nx; omega, ?_⟩)
        unfold owNst at e
        rw [if_pos h, if_neg h2] at e
        exact e
    · rw [on j h] at e; exact .inr (.inr ⟨h, e⟩)
  have A2 : ∀ c, c = D ∨ c ∈ bs → C2.A0 c := fun c hc => (b.A c).mpr (.inr hc)
  have lt : ∀ c, av C (owNst ow i D bs) c → av C2 ow c := fun c z => by
    rcases z with z | ⟨j, z⟩
    · exact .inl ((b.A c).mpr (.inl z))
    · rcases cs z with ⟨_, h⟩ | ⟨k, _, h⟩ | ⟨_, h⟩
      · exact .inl (A2 c (.inl h))
      · exact .inl (A2 c (.inr (List.mem_of_getElem? h)))
      · exact .inr ⟨j, h⟩
  have slt : ∀ {j : Nat} {y : Sl}, S[j]? = some y → j < S.length := fun e => (List.getElem?_eq_some_iff.mp e).1
  have olt : ∀ {j : Nat} {ds : List PyData}, own? S[j]? = some ds → j < S.length := fun {j ds} e => by
    cases q : S[j]? with
    | none => rw [q] at e; cases e
    | some y => exact slt q
  have s4 : ∀ j, j < S.length → j ≠ i → j % 4096 ≠ i := fun j hj n => by
    have := r.ns.big
    omega
  -- nothing else is one of them
  have nD : ∀ {j : Nat} {c : Addr}, ow j = some c → c ≠ D ∧ c ∉ bs := fun {j c} e => by
    have : ¬ (c = D ∨ c ∈ bs) := fun hc => by
      rcases r.ows j c e with ⟨ds, h⟩ | h
      · cases q : S[j]? with
        | none => rw [q] at h; cases h
        | some y =>
          rw [q] at h
          cases y with
          | own d => exact (r.frs j d c q e).2 (A2 c hc)
          | io d =>
            have := r.ios j d q
            rw [b.io, e] at this
            exact (b.nw c hc).2 (hio j c this)
          | nil => cases h
          | val d => cases h
          | nst d => cases h
          | pair d ds => cases h
      · exact (r.ns.frn j c h e).2 (A2 c hc)
    exact ⟨fun z => this (.inl z), fun z => this (.inr z)⟩
  have hst : ∀ c ws', C2.H0 c = some (.lst ws') → (c = D ∨ c ∈ bs) → H c = some (.lst ws') := fun c ws' e hc => r.ext c _ e fun j z => (b.nw c hc).2 (hio j c (by rw [← b.io]; exact z))
  have f2 : ∀ {c : Addr}, C2.H0 c = none ∧ ¬ C2.A0 c → C.H0 c = none ∧ ¬ C.A0 c := fun {c} h => by
    have n : ¬ (c = D ∨ c ∈ bs) := fun z => h.2 (A2 c z)
    exact ⟨by rw [← b.h0 c (fun z => n (.inl z)) fun z => n (.inr z)]; exact h.1, fun z => h.2 ((b.A c).mpr (.inl z))⟩
  have na : ∀ j, NstAt S j → NstAt (S.set i (.nst dss)) j := fun j q => q.of fun m d q => by
    rw [gs m fun z => by rw [z] at q; rw [q] at hn; cases hn]
    exact q
  refine ⟨by rw [List.length_set, List.length_set]; exact r.len, fun j d e => ?_, fun j es e => ?_, fun j c e => ?_, fun j k c e1 e2 => ?_, fun j es c e1 e2 => ?_, fun j es e => ?_, fun j c e => ?_, fun c z => r.trk c ((b.A c).mpr (.inl z)), fun c o h1 h2 => ?_, ⟨by rw [List.length_set]; exact r.ns.big, fun j d e => ?_, fun j c e1 e2 => ?_⟩⟩
  · by_cases hj : j = i
    · subst hj; rw [gi] at e; cases e
    · rw [gs j hj] at e
      obtain ⟨w, e1, e2⟩ := r.val j d e
      exact ⟨w, by rw [gσ j hj]; exact e1, rd_less e2 lt⟩
  · by_cases hj : j = i
    · subst hj; rw [gi] at e; cases e
    · rw [gs j hj] at e
      obtain ⟨c, us, e1, e2, e3, e4⟩ := r.own j es e
      exact ⟨c, us, by rw [on j (s4 j (olt e) hj)]; exact e1, by rw [gσ j hj]; exact e2, e3, rds_less e4 lt⟩
  · rcases cs e with ⟨h, _⟩ | ⟨k, h, h2⟩ | ⟨h, h2⟩
    · subst h; exact .inr (.inl ⟨dss, gi⟩)
    · exact .inr (.inr ⟨i, k, dss, h, gi, by rw [← b.len]; exact (List.getElem?_eq_some_iff.mp h2).1⟩)
    · rw [gs j fun z => h (by rw [z]; omega)]
      exact (r.ows j c h2).imp id (na j)
  · rcases cs e1 with ⟨h, h'⟩ | ⟨m, h, h'⟩ | ⟨h, h'⟩ <;> rcases cs e2 with ⟨g, g'⟩ | ⟨n, g, g'⟩ | ⟨g, g'⟩
    · rw [h, g]
    · exact absurd (by rw [← h']; exact List.mem_of_getElem? g') nd.1
    · exact absurd h' (nD g').1
    · exact absurd (by rw [← g']; exact List.mem_of_getElem? h') nd.1
    · have : m = n := nodup_idx nd.2 h' g'
      rw [h, g, this]
    · exact absurd (List.mem_of_getElem? h') (nD g').2
    · exact absurd g' (nD h').1
    · exact absurd (List.mem_of_getElem? g') (nD h').2
    · exact r.inj j k c h' g'
  · by_cases hj : j = i
    · subst hj; rw [gi] at e1; cases e1
    · rw [gs j hj] at e1
      rw [on j (s4 j (slt e1) hj)] at e2
      exact f2 (r.frs j es c e1 e2)
  · by_cases hj : j = i
    · subst hj; rw [gi] at e; cases e
    · rw [gs j hj] at e
      rw [on j (s4 j (slt e) hj), ← b.io]
      exact r.ios j es e
  · obtain ⟨h1, es, h2⟩ := r.iok j c (by rw [b.io]; exact e)
    exact ⟨hio j c e, es, by rw [gs j fun z => by rw [z] at h2; exact noio_io hi es h2]; exact h2⟩
  · have n : ¬ (c = D ∨ c ∈ bs) := fun z => by rw [(b.nw c z).1] at h1; cases h1
    exact r.ext c o (by rw [b.h0 c (fun z => n (.inl z)) fun z => n (.inr z)]; exact h1) fun j => by rw [b.io]; exact h2 j
  · by_cases hj : j = i
    · subst hj
      rw [gi] at e
      cases e
      refine ⟨D, bs, oi, gσi, hst D _ b.hD (.inl rfl), b.len, fun k c es q1 q2 => ?_⟩
      obtain ⟨us, h1, h2⟩ := b.inn k c es q1 q2
      exact ⟨(ok k).trans q1, us, hst c us h1 (.inr (List.mem_of_getElem? q1)), rds_less h2 lt⟩
    · rw [gs j hj] at e
      obtain ⟨c, cs', g1, g2, g3, g4, g5⟩ := r.ns.nst j d e
      refine ⟨c, cs', by rw [on j (s4 j (slt e) hj)]; exact g1, by rw [gσ j hj]; exact g2, g3, g4, fun k c' es q1 q2 => ?_⟩
      obtain ⟨f1, us, f2, f3⟩ := g5 k c' es q1 q2
      exact ⟨by rw [on _ (show nx j k % 4096 ≠ i by rw [nx_mod (r.lt4 e)]; exact hj)]; exact f1, us, f2, rds_less f3 lt⟩
  · rcases cs e2 with ⟨_, h⟩ | ⟨k, _, h⟩ | ⟨h, h2⟩
    · exact b.nw c (.inl h)
    · exact b.nw c (.inr (List.mem_of_getElem? h))
    · refine f2 (r.ns.frn j c ?_ h2)
      rcases e1 with ⟨d, q⟩ | ⟨m, k, d, q1, q2, q3⟩
      · rw [gs j fun z => h (by rw [z]; omega)] at q; exact .inl ⟨d, q⟩
      · rw [gs m fun z => h (by rw [q1, z]; exact nx_mod i4)] at q2; exact .inr ⟨m, k, d, q1, q2, q3⟩
end
def lcN (g : GT) (t : STt) (e : SN) (vs : List Nat) : List PyData → En → R (List (List PyData))
  | [], S => .ok [] S
  | d :: ds, S => match g d S with
    | .nx S2 => (t S2).bind fun b S3 => if b = true then (e S3).bind fun y S4 => (lcN g t e vs ds (wipeS vs S4)).bind fun ys S5 => .ok (y :: ys) S5 else lcN g t e vs ds (wipeS vs S3)
    | _ => .no
def putNst (i : Nat) (dss : List (List PyData)) (S : En) : RS := if noio S[i]? = true then .nx (S.set i (.nst dss)) else .no
def sSetNst (i : Nat) (it : SN) (g : GT) (t : STt) (e : SN) (vs : List Nat) : SS := fun S => (it S).st fun ds S1 =>
  if (vs.all fun v => (own? S1[v]?).isNone && nn S1[v]?) = true ∧ ds.length < sizeLine then (noEx (lcN g t e vs ds (wipeS vs S1))).st fun yss S2 => putNst i yss (unwipe vs S1 S2) else .no
section
variable {X : Cx} {W : WX} {C : Cn} {elt tg iter : Expr} {ifs : List Expr} {pos : Pos} {it : SN} {g : GT} {t : STt} {se : SN} {vs ts : List Nat} {i : Nat}
theorem lc_finN {σ : St} {H : Hp} {Dn : Ends} {K : PySem.W.Frag} {mg : Str → Option Value} (hpl : Plain g) (hts : ∀ j ∈ ts, j ∈ vs) (h : xS K mg W C (sSetNst i it g t se vs) Dn σ H) :
    tLc (xI K mg W C it) (fun v σ' H' Q' => ∃ C', xT K C' g ts v σ' H' Q') (fun σ' H' Q' => ∃ C', xB K mg W0 C' t σ' H' Q') (fun σ' H' Q' => ∃ C', xN K mg W0 C' se σ' H' Q') vs σ H fun v H1 => Dn.nx (σ.set i (some v)) H1 := by
  obtain ⟨ow, S, r, q⟩ := h
  change sst K mg W C ow H Dn (sSetNst i it g t se vs S) at q
  unfold sSetNst at q
  refine seqS r q fun S1 ds J H1 r1 x1 id k => ?_
  intro D hD
  by_cases z : (vs.all fun v => (own? S1[v]?).isNone && nn S1[v]?) = true ∧ ds.length < sizeLine
  · rw [if_pos z] at k
    have hv : ∀ v ∈ vs, own? S1[v]? = none ∧ nn S1[v]? = true := fun v hv => by
      have w := List.all_eq_true.mp z.1 v hv
      rw [Bool.and_eq_true] at w
      exact ⟨Option.isNone_iff_eq_none.mp w.1, w.2⟩
    have wz : ∀ w ∈ vs, (L2.wipe σ vs)[w]? = none ∨ (L2.wipe σ vs)[w]? = some none := fun w hw => by
      rw [wipe_get w, if_pos hw]
      cases σ[w]? with
      | none => exact .inl rfl
      | some o => exact .inr rfl
    have f0 := r1.fresh0 hD
    have hio : ∀ i a, C.io i = some a → C.A0 a := fun i a e => (r1.iok i a e).1
    have nD : ¬ av C ow D := r1.fresh hD
    cases eL : lcN g t se vs ds (wipeS vs S1) with
    | no => rw [eL] at k; exact k.elim
    | ex c S' => rw [eL] at k; exact k.elim
    | ok zs S2 =>
      rw [eL, noEx_ok, st_ok] at k
      refine ⟨fun n m H2 => m = ds.length - n ∧ n ≤ ds.length ∧ ∃ C2 T bs ys us, Rl K C2 ow T (wipe σ vs) H2 ∧ Bk K C C2 ow H2 D bs ys ∧ Ext (av C ow) H1 H2 ∧ (∀ a, a = D ∨ a ∈ bs → H1 a = none) ∧ H2 D = some (.lst (bs.map V.ref)) ∧ bs.length ≤ n ∧ lcN g t se vs (ds.drop n) T = .ok us S2 ∧ ys ++ us = zs,
        ⟨ds.length, by omega, by omega, C.plus D [], wipeS vs S1, [], [], zs, (r1.plus hD []).wipe hv, ⟨fun a => ?_, fun a h1 _ => upd_ne h1, upd_same, rfl, by simp, fun a h => ?_, rfl, fun k b ds h => by simp at h⟩, Ext.same (same_new hD), fun a h => ?_, upd_same, Nat.le_refl _, eL, rfl⟩, ?_⟩
      · show C.A0 a ∨ a = D ↔ _
        simp
      · rcases h with h | h
        · subst h; exact f0
        · simp at h
      · rcases h with h | h
        · subst h; exact hD
        · simp at h
      rintro n m H2 ⟨rfl, hi, C2, T, bs, ys, us, r2, bk, x2, hf, hacc, hlen, eT, eys⟩
      have gr : Grow (av C ow) (av C2 ow) H1 := fun a h => by
        rcases h with h | h
        · rcases (bk.A a).mp h with h | h
          · exact .inl (.inl h)
          · exact .inr (hf a h)
        · exact .inl (.inr h)
      obtain ⟨w1, w2, w3⟩ := id (av C2 ow) H2 x2 gr r2.tracked
      by_cases hlt : n < ds.length
      · refine .inr ⟨w1 n hlt, _, fun H3 z => ⟨ds.length - (n + 1), by omega, z⟩, fun v H3 y => ?_⟩
        have ed : ds[n]? = some ds[n] := List.getElem?_eq_getElem hlt
        obtain ⟨sm, rd⟩ := w3 n ds[n] v H3 ed y
        rw [List.drop_eq_getElem_cons hlt] at eT
        change (match g ds[n] T with
          | .nx S2 => (t S2).bind fun b S3 => if b = true then (se S3).bind fun y S4 => (lcN g t se vs (ds.drop (n + 1)) (wipeS vs S4)).bind fun ys S5 => .ok (y :: ys) S5 else lcN g t se vs (ds.drop (n + 1)) (wipeS vs S3)
          | _ => .no) = .ok us S2 at eT
        refine ⟨C2, ow, T, ds[n], r2.same sm, rd, ?_⟩
        rcases hpl ds[n] T with ⟨S3, e⟩ | e
        · rw [e] at eT ⊢
          simp only at eT
          intro σ3 H4 r3 x3 c3
          have ew : L2.wipe σ3 vs = L2.wipe σ vs := wipe_eq (c3.1.trans (wipe_length σ vs)) fun j hj => c3.2 j fun w => hj (hts j w)
          refine ⟨ew, C2, ow, S3, r3, ?_⟩
          have x24 : Ext (av C2 ow) H2 H4 := (Ext.same sm).trans (Grow.refl _ _) x3
          show pst K mg W0 C2 relB ow σ3 H4 _ (t S3)
          cases et : t S3 with
          | no => rw [et] at eT; cases eT
          | ex c S' => rw [et] at eT; cases eT
          | ok b S4 =>
            rw [et, bind_ok] at eT
            intro b' H5 r5 x5 eb
            have eb' : b' = b := eb
            subst eb'
            have r5w := r5.wipe (vs := vs) fun w hw => r2.quiet (r2.wiped (wz w hw)) r5
            rw [ew] at r5w
            have x25 : Ext (av C2 ow) H2 H5 := x24.trans (Grow.refl _ _) x5
            have at5 : H5 D = some (.lst (bs.map V.ref)) := r5.ext D _ bk.hD fun j z => (bk.nw D (.inl rfl)).2 (hio j D (by rw [← bk.io]; exact z))
            cases b' with
            | false => exact iteF ⟨rfl, hlt, C2, wipeS vs S4, bs, ys, us, r5w, bk.mono x25, x2.trans gr x25, hf, at5, by omega, eT, eys⟩
            | true =>
              refine iteT ⟨C2, ow, S4, r5, ?_⟩
              show pst K mg W0 C2 (relN K) ow σ3 H5 _ (se S4)
              simp only [if_true] at eT
              cases es : se S4 with
              | no => rw [es] at eT; cases eT
              | ex c S' => rw [es] at eT; cases eT
              | ok yd S6 =>
                rw [es, bind_ok] at eT
                rintro yv H6 r6 x6 ⟨a, ws, Hm, h1, h2, h3, h4, h5, h6⟩
                subst h1
                cases eR : lcN g t se vs (ds.drop (n + 1)) (wipeS vs S6) with
                | no => rw [eR] at eT; cases eT
                | ex c S' => rw [eR] at eT; cases eT
                | ok us' S7 =>
                  rw [eR, bind_ok] at eT
                  cases eT
                  have h5w := h5.wipe (vs := vs) fun w hw => r5w.quiet (r5w.wiped (wz w hw)) h5
                  rw [ew] at h5w
                  have x2m : Ext (av C2 ow) H2 Hm := x25.trans (Grow.refl _ _) h4
                  obtain ⟨rp, bk'⟩ := (bk.mono x2m).more h5w h2 h6 hio
                  have at6 : H6 D = some (.lst (bs.map V.ref)) := r6.ext D _ bk.hD fun j z => (bk.nw D (.inl rfl)).2 (hio j D (by rw [← bk.io]; exact z))
                  subst h3
                  have a1 : H1 a = none := by
                    cases q : H1 a with
                    | none => rfl
                    | some o =>
                      exfalso
                      have na : ¬ av C2 ow a := h5.fresh h2
                      have nc : ¬ av C ow a := fun z => na (z.imp (fun z => (bk.A a).mpr (.inl z)) fun z => z)
                      have := x2m a o na (x2 a o nc q)
                      rw [h2] at this; cases this
                  refine ⟨bs.map V.ref, at6, by rw [List.length_map]; omega, rfl, hlt, (C2.plus a ws).put D ((bs ++ [a]).map V.ref), wipeS vs S6, bs ++ [a], ys ++ [yd], us', ?_, ?_, ?_, fun c hc => ?_, ?_, by rw [List.length_append, List.length_singleton]; omega, eR, by rw [List.append_assoc]; exact eys⟩
                  · rw [show bs.map V.ref ++ [V.ref a] = (bs ++ [a]).map V.ref by simp]
                    exact rp
                  · rw [show bs.map V.ref ++ [V.ref a] = (bs ++ [a]).map V.ref by simp]
                    exact bk'
                  · intro c o nc e
                    rw [upd_ne (fun z => by rw [z, hf D (.inl rfl)] at e; cases e), upd_ne (fun z => by rw [z, a1] at e; cases e)]
                    exact (x2.trans gr x2m) c o nc e
                  · rw [List.mem_append, List.mem_singleton] at hc
                    rcases hc with hc | hc | hc
                    · exact hf c (.inl hc)
                    · exact hf c (.inr hc)
                    · rw [hc]; exact a1
                  · have := bk'.hD
                    rw [List.map_append]
                    exact upd_same
        · rw [e] at eT
          cases eT
      · have e : n = ds.length := by omega
        subst e
        rw [List.drop_length] at eT
        cases eT
        rw [List.append_nil] at eys
        subst eys
        refine .inl ⟨w2, ?_⟩
        have r0 := r2.unwipe r1 x2 gr hv
        unfold putNst at k
        by_cases hi' : noio (unwipe vs S1 S2)[i]? = true
        · rw [if_pos hi'] at k
          have ra := r0.adoptN bk hio hi'
          refine k _ _ _ ra x2 fun a h => ?_
          rcases h with h | ⟨j, h⟩
          · exact .inl (.inl h)
          · unfold owNst at h
            by_cases h1 : j % 4096 = i
            · rw [if_pos h1] at h
              by_cases h2 : j = i
              · rw [if_pos h2] at h; cases h; exact .inr (hf _ (.inl rfl))
              · rw [if_neg h2] at h; exact .inr (hf a (.inr (List.mem_of_getElem? h)))
            · rw [if_neg h1] at h; exact .inl (.inr ⟨j, h⟩)
        · rw [if_neg hi'] at k
          exact k.elim
  · rw [if_neg z] at k
    exact k.elim
end
end Ds
end

section
set_option Elab.async false
set_option linter.all false
set_option maxRecDepth 100000
set_option maxHeartbeats 4000000
namespace Ds
open PySem PySem.Spec PyProof.Rows L2
section
variable {X : Cx} {K : PySem.W.Frag}
/-! ### a power of a longer number -/
def CPowB (i j : Int) : Prop := 0 ≤ j ∧ j ≤ 1000 ∧ i.natAbs < 2 ^ 1000
theorem bitsB {a n : Int} (ha : a.natAbs < 2 ^ 1000) (h0 : 0 ≤ n) (hn : n ≤ 1000) : (Builtin.Int.intBits a : Int) * n ≤ 2 ^ 27 := by
  have hb : Builtin.Int.intBits a ≤ 1000 := intBits_le ha
  have h1 : (Builtin.Int.intBits a : Int) * n ≤ 1000 * n := Int.mul_le_mul_of_nonneg_right (by omega) h0
  omega
theorem op_powB : OpR X (binaryOp .Pow) (rI CPowB fun i j => .int (i ^ j.toNat)) := opI fun _ _ _ _ _ _ _ hc q => pow_int hc.1 (bitsB hc.2.2 hc.1 hc.2.1) q
def cPowB (i j : Int) : Bool := decide (0 ≤ j ∧ j ≤ 1000 ∧ i.natAbs < 2 ^ 1000)
def gPowB : PyData → PyData → Option PyData := gII cPowB fun i j => i ^ j.toNat
theorem od_powB : OpD K (rI CPowB fun i j => .int (i ^ j.toNat)) gPowB := od_II fun i j h => by
  exact (of_decide_eq_true (p := 0 ≤ j ∧ j ≤ 1000 ∧ i.natAbs < 2 ^ 1000) h)
end
section
variable {X : Cx} {W : WX} {C : Cn} {pos : Pos} {a b e tg : Expr} {sa sb se : SE} {sn : SN} {i : Nat}
/-! ### l + m, new -/
theorem relN_cat {ow : Ow} {S : En} {σ : St} {H : Hp} {K : PySem.W.Frag} {vs : List V} {ds : List PyData} {mg : Str → Option Value} {Q : VK} (r : Rl K C ow S σ H) (rd : RDs K (av C ow) H vs ds) (q : pst K mg W C (relN K) ow σ H Q (.ok ds S)) {p : Addr} (n : H p = none) : Q (.ref p) (upd H p (.lst vs)) :=
  pst_same r q (same_new n) ⟨p, vs, H, rfl, n, rfl, Ext.refl _ _, r, rd⟩
def sCatN (sa sb : SE) : SN := fun S => (sa S).bind fun d S1 => (sb S1).bind fun e S2 => match asL d, asL e with
  | some ds, some es => if ds.length + es.length ≤ sizeLine then .ok (ds ++ es) S2 else .no
  | _, _ => .no
theorem n_cat (ha : PE X a (xE X.K X.mg W C sa)) (hb : PE X b (xE X.K X.mg W C sb)) : PE X (.BinOp a .Add b pos) (xN X.K X.mg W C (sCatN sa sb)) :=
  pe_imp (pe_op op_catS ha hb) fun σ H Q ⟨ow, S, r, q⟩ => seq early_N r q fun S1 d x H1 r1 x1 rd k1 => seq early_N r1 k1 fun S2 f y H2 r2 x2 rf k2 => by
    cases e1 : asL d with
    | none => rw [e1] at k2; exact k2.elim
    | some ds =>
      cases e2 : asL f with
      | none => rw [e1, e2] at k2; exact k2.elim
      | some es =>
        rw [e1, e2] at k2
        have ed := asL_some e1
        have ef := asL_some e2
        subst ed
        subst ef
        have rd' := RD.mono x2 (Grow.refl _ _) _ x rd
        cases rd' with
        | lst h1 h2 =>
          cases rf with
          | lst g1 g2 =>
            by_cases z : ds.length + es.length ≤ sizeLine
            · simp only [if_pos z] at k2
              exact ⟨_, _, _, _, rfl, rfl, h1.sq, g1.sq, by rw [h2.len, g2.len]; exact z, fun p n => relN_cat r2 (h2.append g2) k2 n⟩
            · simp only [if_neg z] at k2
              exact k2.elim
def sCatV (i : Nat) (sb : SE) : SN := fun S => if (lst? S[i]?).isSome = true then (sb S).bind fun e S2 => match lst? S2[i]?, asL e with
  | some ds, some es => if ds.length + es.length ≤ sizeLine then .ok (ds ++ es) S2 else .no
  | _, _ => .no
  else .no
theorem n_catV (ha : PE X a (tVar i)) (hb : PE X b (xE X.K X.mg W C sb)) : PE X (.BinOp a .Add b pos) (xN X.K X.mg W C (sCatV i sb)) :=
  pe_imp (pe_op op_catS ha hb) fun σ H Q ⟨ow, S, r, q⟩ => by
    change pst X.K X.mg W C (relN X.K) ow σ H Q (sCatV i sb S) at q
    unfold sCatV at q
    cases e : lst? S[i]? with
    | none => rw [e] at q; exact q.elim
    | some ds0 =>
      rw [e] at q
      obtain ⟨p, vs, h1, _⟩ := r.list e
      refine ⟨.ref p, h1, seq early_N r q fun S2 f y H2 r2 x2 rf k2 => ?_⟩
      cases e1 : lst? S2[i]? with
      | none => rw [e1] at k2; exact k2.elim
      | some ds =>
        cases e2 : asL f with
        | none => rw [e1, e2] at k2; exact k2.elim
        | some es =>
          rw [e1, e2] at k2
          have ef := asL_some e2
          subst ef
          obtain ⟨p2, ws, g1, g2, g3⟩ := r2.list e1
          rw [h1] at g1; cases g1
          cases rf with
          | lst f1 f2 =>
            by_cases z : ds.length + es.length ≤ sizeLine
            · simp only [if_pos z] at k2
              exact ⟨_, _, _, _, rfl, rfl, g2, f1.sq, by rw [g3.len, f2.len]; exact z, fun p n => relN_cat r2 (g3.append f2) k2 n⟩
            · simp only [if_neg z] at k2
              exact k2.elim
/-! ### [..] * n, new -/
def sRepN (s1 : SN) (s2 : SE) : SN := fun S => (s1 S).bind fun ds S1 => (noEx (s2 S1)).bind fun k S2 => match k with
  | .int k => if -(2 ^ 63) ≤ k ∧ k < 2 ^ 63 ∧ ds.length * k.toNat ≤ sizeLine then .ok (List.replicate k.toNat ds).flatten S2 else .no
  | _ => .no
theorem n_rep {s1 : SN} (h1 : PE X a (xN X.K X.mg W C s1)) (h2 : ∀ C', PE X b (xE X.K X.mg W C' sb)) : PE X (.BinOp a .Mult b pos) (xN X.K X.mg W C (sRepN s1 sb)) :=
  pe_imp (pe_op (tb := fun σ H Q => ∃ C', xE X.K X.mg W C' sb σ H Q) op_rep h1 ⟨fun pins s σ H Q I ⟨C', q⟩ => (h2 C').run pins s σ H Q I q⟩) fun σ H Q ⟨ow, S, r, q⟩ => by
    change pst X.K X.mg W C (relN X.K) ow σ H Q ((s1 S).bind fun ds S1 => (noEx (sb S1)).bind fun k S2 => match k with
      | .int k => if -(2 ^ 63) ≤ k ∧ k < 2 ^ 63 ∧ ds.length * k.toNat ≤ sizeLine then .ok (List.replicate k.toNat ds).flatten S2 else .no
      | _ => .no) at q
    refine ⟨ow, S, r, ?_⟩
    show pst X.K X.mg W C (relN X.K) ow σ H _ (s1 S)
    cases ea : s1 S with
    | no => rw [ea] at q; exact q
    | ex c S' => rw [ea] at q; exact q
    | ok ds S1 =>
      rw [ea, bind_ok] at q
      rintro v H1 r1 x1 ⟨p, vs, Hm, e1, e2, e3, e4, e5, e6⟩
      subst e1
      subst e3
      have f0 := e5.fresh0 e2
      have hio : ∀ i a, C.io i = some a → C.A0 a := fun i a e => (e5.iok i a e).1
      refine ⟨C.plus p vs, ow, S1, e5.plus e2 vs, ?_⟩
      show pst X.K X.mg W (C.plus p vs) (relE X.K) ow σ _ _ (sb S1)
      cases eb : sb S1 with
      | no => rw [eb] at q; exact q.elim
      | ex c S' => rw [eb] at q; exact q.elim
      | ok k S2 =>
        rw [eb, noEx_ok, bind_ok] at q
        intro w H2 r2 x2 rk
        cases rk with
        | int k =>
          by_cases z : -(2 ^ 63) ≤ k ∧ k < 2 ^ 63 ∧ ds.length * k.toNat ≤ sizeLine
          · simp only [if_pos z] at q
            have at2 := r2.at f0.2 hio
            have rm := r2.minus f0.1 f0.2 hio
            have rs := rm.same (same_new (o := .lst vs) del_same)
            rw [upd_del at2] at rs
            have ex1 : Ext (av C ow) Hm H2 := fun c o n e => x2 c o (fun z => (av_plus.mp z).elim n fun z => by rw [z, e2] at e; cases e) ((same_new e2) c o e)
            have rds := RDs.mono ex1 (Grow.refl _ _) ds vs e6
            refine ⟨p, k, vs, rfl, rfl, at2, z.1, z.2.1, by rw [e6.len]; exact z.2.2, fun c nc => ?_⟩
            have xa : Ext (av C ow) H H2 := e4.trans (Grow.refl _ _) ex1
            exact q (.ref c) _ (rs.same (same_new nc)) (xa.trans (Grow.refl _ _) (Ext.same (same_new nc))) ⟨c, _, H2, rfl, nc, rfl, xa, rs, rds.rep _⟩
          · simp only [if_neg z] at q
            exact q.elim
        | _ => exact q.elim
/-! ### list of a text, new -/
theorem vals_signs {x : Str} {acc : Array Value} (h : ItemsOf (SignAt x) acc x.cps.size) : Vals (x.cps.toList.map fun c => V.str ⟨#[c]⟩) acc.toList := by
  refine vals_of_idx _ _ (by rw [Array.length_toList, List.length_map, Array.length_toList]; exact h.1) fun j u e => ?_
  obtain ⟨c, t, h1, h2⟩ := h.2 j u (by rw [← Array.getElem?_toList]; exact e)
  refine ⟨.str ⟨#[c]⟩, ?_, t, h2⟩
  rw [List.getElem?_map, Array.getElem?_toList, h1]
  rfl
def rListS : List V → Hp → VK → Prop := fun xs H Q => ∃ x : Str, xs = [.str x] ∧ x.cps.size ≤ sizeLine ∧ ∀ l, H l = none → Q (.ref l) (upd H l (.lst (x.cps.toList.map fun c => V.str ⟨#[c]⟩)))
theorem call_listS (hc : X.calm = true) : CallR X (.type "list") rListS := by
  intro pins s σ H xs us Q I r h
  obtain ⟨x, rfl, hz, q⟩ := h
  obtain ⟨u, rfl, t, rfl⟩ := vals1 r
  refine call_list_str (I.ok.hd hc) x t (fun h' tk acc c' kp e hi => ?_) hz
  refine ⟨.ref s.heap.objs.size, _, I.laid (t' := tk) kp (Nat.le_refl _) (show ObjOk X.prog X.w _ h' _ (.lst (x.cps.toList.map fun c => V.str ⟨#[c]⟩)) from ⟨by rw [List.length_map, Array.length_toList]; exact hz, acc.toList, c', vals_signs hi, ?_⟩), rfl, q _ (I.hok.fresh (Nat.le_refl _))⟩
  rw [Array.toArray_toList]
  exact e
def sListS (sr : SN) : SN := fun S => (sr S).bind fun ds S1 => match ds with
  | [.str x] => if x.cps.size ≤ sizeLine then .ok (signs x) S1 else .no
  | _ => .no
theorem rds_signs {K : PySem.W.Frag} {av : Addr → Prop} {H : Hp} (cs : List Nat) : RDs K av H (cs.map fun c => V.str ⟨#[c]⟩) (cs.map fun c => PyData.str ⟨#[c]⟩) := by
  induction cs with
  | nil => exact .nil
  | cons c cs ih => exact .cons (.str _) ih
theorem n_listS {x : Str} {p : Pos} {sr : SN} (hc : X.calm = true) (hg : Gl X x) (hm : X.mg x = none) (hv : bootBuiltins x = some (.type "list")) (ha : PA X [a] (xA X.K X.mg W C sr)) (hn : x ≠ "__name__" := by decide) (hdb : (x == ("__debug__" : Str)) = false := by decide)
    (he : starEach (a :: []) X.env = (false, eval a X.env) :: starEach [] X.env := by rfl) (hpl : (backTo pos (starEach [] X.env)).any (·.1) = false := by rfl) : PE X (.Call (.Name x p) [a] [] pos) (xN X.K X.mg W C (sListS sr)) :=
  pe_imp (pe_callTy (call_listS hc) hg hm hv ha hn hdb he hpl) fun σ H Q ⟨ow, S, r, q⟩ => seq early_N r q fun S1 ds vs H1 r1 x1 rd k => by
    match ds, rd, k with
    | [.str x], .cons (.str _) .nil, k =>
      change pst X.K X.mg W C (relN X.K) ow σ H1 Q (if x.cps.size ≤ sizeLine then .ok (signs x) S1 else .no) at k
      by_cases z : x.cps.size ≤ sizeLine
      · rw [if_pos z] at k
        exact ⟨x, rfl, z, fun l nl => relN_cat r1 (rds_signs _) k nl⟩
      · rw [if_neg z] at k
        exact k.elim
/-! ### range downwards -/
def rng3 (ds : List PyData) : Option (List PyData) := match ds with
  | [.int i, .int j, .int c] => if smallI i = true ∧ smallI j = true ∧ c = -1 then some ((List.range (i - j).toNat).map fun k => .int (i - (k : Nat))) else none
  | _ => none
def sRng3 (sr : SN) : SN := fun S => (sr S).bind fun ds S1 => R.opt (rng3 ds) S1
theorem itd_rng3 {K : PySem.W.Frag} {av1 : Addr → Prop} {H : Hp} {lo : Int} {n : Nat} : ItD K (Itc lo (-1) n) av1 H ((List.range n).map fun k => .int (lo - (k : Nat))) := fun av2 H1 x g _ => by
  refine ⟨fun i hi => by show i < n; simpa using hi, by show n ≤ _; simp, fun i d v H2 e y => ?_⟩
  obtain ⟨y1, y2⟩ := y
  subst y1
  subst y2
  rw [List.getElem?_map] at e
  cases q : (List.range n)[i]? with
  | none => rw [q] at e; cases e
  | some j =>
    rw [q] at e
    cases e
    obtain ⟨h1, h2⟩ := List.getElem?_eq_some_iff.mp q
    rw [List.getElem_range] at h2
    subst h2
    rw [show lo + (i : Int) * -1 = lo - (i : Int) by omega]
    exact ⟨Same.refl _, .int _⟩
theorem i_rng3 {c : Expr} {sr : SN} {p : Pos} (hg : Gl X "range") (hm : X.mg "range" = none) (ha : PA X [a, b, c] (xA X.K X.mg W C sr)) (hs : starEach [a, b, c] X.env = (false, eval a X.env) :: starEach [b, c] X.env := by rfl) (hpl : (backTo pos (starEach [b, c] X.env)).any (·.1) = false := by rfl) :
    PI X tg (.Call (.Name "range" p) [a, b, c] [] pos) (xI X.K X.mg W C (sRng3 sr)) :=
  pi_imp (pi_range3 hg hm ha hs hpl) fun σ H Q ⟨ow, S, r, q⟩ => seq early_I r q fun S1 ds vs H1 r1 x1 rd k => by
    match ds, rd, k with
    | [.int i, .int j, .int c], .cons (.int _) (.cons (.int _) (.cons (.int _) .nil)), k =>
      change pst X.K X.mg W C (relI X.K) ow σ H1 Q (R.opt (if smallI i = true ∧ smallI j = true ∧ c = -1 then some ((List.range (i - j).toNat).map fun k => .int (i - (k : Nat))) else none) S1) at k
      by_cases z : smallI i = true ∧ smallI j = true ∧ c = -1
      · rw [if_pos z] at k
        have b := smallI_of z.1
        have d := smallI_of z.2.1
        obtain ⟨_, _, rfl⟩ := z
        exact ⟨i, j, -1, _, rfl, RgC.neg b.1 b.2 d.1 d.2, pst_ok r1 k itd_rng3⟩
      · rw [if_neg z] at k
        exact k.elim
/-! ### a list's item as a target -/
def gSubI (i : Nat) (sk : SE) : GT := fun d S => match sk S with
  | .ok k S1 => match own? S1[i]? with
    | some ds => match setI ds k d with
      | some es => if (own? S[i]?).isSome = true then .nx (upL i es S1) else .no
      | none => .no
    | none => .no
  | _ => .no
theorem g_subI {k : Expr} {sk : SE} (hk : PE X k (xE X.K X.mg W0 C sk)) (hp : ∀ {u : TE}, PE X k u → PG X tg (gSub (tVar i) u rSetL)) : PG X tg (xT X.K C (gSubI i sk) []) :=
  pg_imp (hp hk) fun v σ H Q ⟨ow, S, d, r, rd, q⟩ => by
    unfold gSubI at q
    cases ek : sk S with
    | no => simp only [ek] at q
    | ex c S' => simp only [ek] at q
    | ok kd S1 =>
      simp only [ek] at q
      cases e1 : own? S1[i]? with
      | none => simp only [e1] at q
      | some ds =>
        simp only [e1] at q
        cases e2 : setI ds kd d with
        | none => simp only [e2] at q
        | some es =>
          simp only [e2] at q
          by_cases e3 : (own? S[i]?).isSome = true
          · rw [if_pos e3] at q
            obtain ⟨ds0, e4⟩ := Option.isSome_iff_exists.mp e3
            obtain ⟨a, vs, h0, h1, h2, h3⟩ := r.own i ds0 e4
            refine ⟨.ref a, h1, ow, S, r, ?_⟩
            show pst X.K X.mg W0 C (relE X.K) ow σ H _ (sk S)
            rw [ek]
            intro kv H1 r1 x1 rk
            obtain ⟨b, ws, g0, g1, g2, g3⟩ := r1.own i ds e1
            rw [h0] at g0; cases g0
            cases rk with
            | int j =>
              unfold setI at e2
              by_cases z : 0 ≤ j ∧ j < ds.length
              · simp only [if_pos z] at e2
                cases e2
                have hw : ws.length = ds.length := g3.len
                obtain ⟨r3, x3⟩ := r1.up (es := ds.set j.toNat d) (vs := ws.set j.toNat v) e1 h0 (RDs.set (RD.mono x1 (Grow.refl _ _) d v rd) j.toNat g3)
                exact ⟨a, ws, j, j.toNat, rfl, rfl, g2, by unfold ixN; rw [if_pos z.1, if_pos (by omega)], q σ _ r3 (x1.trans (Grow.refl _ _) x3) ⟨rfl, fun _ _ => rfl⟩⟩
              · simp only [if_neg z] at e2
                cases e2
            | _ => cases e2
          · rw [if_neg e3] at q
            exact q.elim
theorem plain_sub {sk : SE} : Plain (gSubI i sk) := fun d S => by
  unfold gSubI
  split
  · split
    · split
      · split
        · exact .inl ⟨_, rfl⟩
        · exact .inr rfl
      · exact .inr rfl
    · exact .inr rfl
  · exact .inr rfl
/-! ### n += e -/
def sAug (g : PyData → PyData → Option PyData) (i : Nat) (se : SE) : SS := fun S => match val? S[i]? with
  | some d => (se S).st fun e S1 => match g d e with
    | some z => put i (.val z) S1
    | none => .no
  | none => .no
theorem s_augAdd {x : Str} {p2 : Pos} (he : PE X e (xE X.K X.mg W C se)) (hp : ∀ {t : TE}, PE X e t → PS X (.AugAssign (.Name x p2) .Add e pos) (tAug i t (ipI fun i j => i + j))) : PS X (.AugAssign (.Name x p2) .Add e pos) (xS X.K X.mg W C (sAug (gII (fun _ _ => true) fun i j => i + j) i se)) :=
  ps_imp (hp he) fun D σ H ⟨ow, S, r, q⟩ => by
    change sst X.K X.mg W C ow H D (sAug (gII (fun _ _ => true) fun i j => i + j) i se S) at q
    unfold sAug at q
    cases e0 : val? S[i]? with
    | none => rw [e0] at q; exact q.elim
    | some d =>
      rw [e0] at q
      obtain ⟨v, h1, h2⟩ := r.val i d (val?_some e0)
      refine ⟨v, h1, seqS r q fun S1 f y H1 r1 x1 rf k1 => ?_⟩
      cases h2 with
      | int m =>
        cases rf with
        | int n => exact ⟨m, n, rfl, rfl, put_val r1 (.int _) k1⟩
        | _ => exact k1.elim
      | _ => cases rf <;> exact k1.elim
end
end Ds
end

section
set_option Elab.async false
set_option linter.all false
set_option maxRecDepth 100000
set_option maxHeartbeats 4000000
namespace Ds
open PySem PySem.Spec PyProof.Rows L2
section
variable {X : Cx} {W : WX} {C : Cn} {pos : Pos} {e tg : Expr} {i : Nat}
/-! ### enumerate(l), l a list -/
def Iel (K : PySem.W.Frag) (a : Addr) : It where
  go := fun i H => ∃ (xs : List V) (x : V), SqL K H a xs ∧ xs[i]? = some x
  yld := fun i H v H' => ∃ (T : Addr) (x : V) (o : Obj), v = .ref T ∧ H T = none ∧ o.dict = none ∧ o.cls = .type "tuple" ∧ H' = upd H T (.frz o (.tup [.int (i : Nat), x])) ∧ ∀ xs, SqL K H a xs → xs[i]? = some x
  stop := fun i H => ∃ xs : List V, SqL K H a xs ∧ xs.length = i
theorem turn_enumL {P : Program} {w : World} {K : PySem.W.Frag} {elts : List Expr} {kk : Nat} {tpos : Pos} (a e it : Addr) :
    Turn P w K (.Tuple elts kk tpos) (Iel K a) [e, it] e (fun i h => (∃ old, IsEnum h e it ((i : Nat) : Int) old) ∧ h.IsListIter it a i ∧ e ≠ it) where
  mem := by simp
  obj := fun i h ⟨⟨old, he⟩, ⟨o, ho, hc, hd⟩, _⟩ b hb => by
    rcases two_mem hb with rfl | rfl
    · exact ⟨_, he, fun v q => nomatch q⟩
    · exact ⟨o, ho, fun v q => by rw [hd] at q; cases q⟩
  keep := fun i h h' ⟨⟨old, he⟩, hi, hne⟩ k => ⟨⟨old, k e (by simp) _ he⟩, hi.at fun o q => k it (by simp) o q, hne⟩
  item := by
    intro X hP hw hK hc i pins s σ H E I hf st hg
    subst hP hw hK
    obtain ⟨⟨old, he⟩, hit, hne⟩ := st
    obtain ⟨xs, x, hq, hx⟩ := hg
    obtain ⟨its, rv, pl, hz⟩ := I.list hq
    obtain ⟨u, hu, ru⟩ := rv.get hx
    have hel : e < s.heap.objs.size := Heap.lt_size he
    have hil : it < s.heap.objs.size := hit.elim fun _ q => Heap.lt_size q.1
    refine wpAny_pyNext_enum_item he hit pl.isList (x := u) (by simpa using hu) hne fun h1 ho hst hN hsz hk => ?_
    refine ⟨_, rfl, wpAny_letOwnedTupleGo_enum (s := { s with heap := h1, toks := s.toks + 1 }) ho fun h2 he2 sb => ?_⟩
    have hN2 : h2.get? s.heap.objs.size = some { cls := .type "tuple", data := .seq #[.int i s.toks, u] } := (sb.2 _ (Nat.ne_of_gt hel)).trans hN
    have new : ObjOk X.prog X.w (upd H s.heap.objs.size (.frz { cls := .type "tuple", data := .seq #[.int i s.toks, u] } (.tup [.int (i : Nat), x]))) h2 s.heap.objs.size (.frz { cls := .type "tuple", data := .seq #[.int i s.toks, u] } (.tup [.int (i : Nat), x])) :=
      ⟨hN2, by show 2 ≤ sizeLine; decide, [.int i s.toks, u], .cons ⟨_, rfl⟩ (.cons ru .nil), ⟨_, hN2, rfl, _, rfl⟩⟩
    have I1 := I.turnedNew (t' := s.toks + 1) (ch := [e, it]) (fun b ob hb q => (sb.2 b (fun z => hb (by simp [z]))).trans (hk b ob (fun z => hb (by simp [z])) (fun z => hb (by simp [z])) q)) hf (Nat.le_refl _) new
    refine ⟨.ref s.heap.objs.size, _, I1, rfl, ⟨_, x, _, rfl, I.hok.fresh (Nat.le_refl _), rfl, rfl, rfl, fun ys hy => by rw [I.list_inj hy hq]; exact hx⟩, ⟨⟨u, ?_⟩, hst.at fun o q => (sb.2 it (Ne.symm hne)).trans q, hne⟩, fun b hb => ?_⟩
    · have e1 : ((i + 1 : Nat) : Int) = (i : Int) + 1 := by omega
      rw [e1]
      exact he2
    · have hb2 : b < s.heap.objs.size := by
        rcases two_mem hb with rfl | rfl
        · exact hel
        · exact hil
      rw [upd_ne (Nat.ne_of_lt hb2)]
      exact (hf b hb).1
  done := by
    intro X hP hw hK hc i pins s σ H E I hf st hg
    subst hP hw hK
    obtain ⟨⟨old, he⟩, hit, hne⟩ := st
    obtain ⟨xs, hq, hx⟩ := hg
    obtain ⟨its, rv, pl, hz⟩ := I.list hq
    have hl := rv.length
    obtain ⟨f0, f1, f2, f3, f4, f5⟩ := hf it (by simp)
    exact wpAny_pyNext_enum_end (I.ok.hd hc) he hit pl.isList (by simp; omega) fun h' eb => ⟨rfl, I.turned (t' := s.toks) (fun b o hb q => eb b o hb q) f0 f1 f3 f4 f5⟩
  self := fun A i s Q E ⟨⟨_, he⟩, _⟩ h => wpAny_pyIter_enum he h
def rIel (K : PySem.W.Frag) (ta : TA) : TI := fun σ H R => ta σ H fun vs H1 => ∃ a xs, vs = [.ref a] ∧ SqL K H1 a xs ∧ R (Iel K a) H1
theorem pi_enumL {p tpos : Pos} {elts : List Expr} {kk : Nat} {ta : TA} (hg : Gl X "enumerate") (hm : X.mg "enumerate" = none) (ha : PA X [e] ta) (hs : starEach [e] X.env = [(false, eval e X.env)] := by rfl) :
    PI X (.Tuple elts kk tpos) (.Call (.Name "enumerate" p) [e] [] pos) (rIel X.K ta) := by
  refine ⟨fun pins s σ H R I h => ?_⟩
  refine Call_ (ld_blt I hg hm boot_enumerate (PyProof.Rows.callWith_type1 (thn (ha.run pos pins s σ H _ I h) fun us s1 ⟨vs, H1, I1, r1, a, xs, ex, hq, q⟩ => ?_) hs rfl))
  subst ex
  obtain ⟨u, rfl, ru⟩ := vals1 r1
  cases ru
  obtain ⟨its, rv, pl, hz⟩ := I1.list hq
  refine call_enumerate_list pl.isList fun h1 he hit hsz hk => wpAny_pyIter_enum he ?_
  have I2 := I1.kept (t' := s1.toks) (h' := h1) hk
  refine ⟨s1.heap.objs.size + 1, [s1.heap.objs.size + 1, s1.heap.objs.size], _, _, H1, rfl, I2, turn_enumL a (s1.heap.objs.size + 1) s1.heap.objs.size, ⟨⟨.none, he⟩, hit, Nat.succ_ne_self _⟩, fun b hb => ?_, q⟩
  have hle : s1.heap.objs.size ≤ b := by
    rcases two_mem hb with rfl | rfl
    · exact Nat.le_add_right _ _
    · exact Nat.le_refl _
  exact I1.fpOk hle (I1.hok.fresh hle)
theorem itd_enumL {K : PySem.W.Frag} {av1 : Addr → Prop} {H : Hp} {p : Addr} {vs : List V} {ds : List PyData} (h : LK K av1 H p vs) (r : RDs K av1 H vs ds) : ItD K (Iel K p) av1 H (enumD ds) := fun av2 H1 x g tr => by
  have q := (h.mono x g).sq
  have r' := RDs.mono x g ds vs r
  have hl := r.len
  rw [enumD_len]
  refine ⟨fun i hi => ⟨vs, vs[i]'(by omega), q, List.getElem?_eq_getElem _⟩, ⟨vs, q, hl⟩, fun i z v H2 e y => ?_⟩
  obtain ⟨d, e1, e2⟩ := enumD_get e
  subst e2
  obtain ⟨T, w, o, rfl, nT, d1, c1, rfl, f⟩ := y
  obtain ⟨w', e3, e4⟩ := r'.get e1
  have := f vs q
  rw [e3] at this
  cases this
  exact ⟨same_new nT, rd_newT tr (.cons (.int _) (.cons e4 .nil)) nT d1 c1⟩
def asLE : List PyData → Option (List PyData)
  | [.list ds] => some (enumD ds)
  | _ => none
def sIEnL (sr : SN) : SN := fun S => (sr S).bind fun ds S1 => R.opt (asLE ds) S1
theorem i_enumL {p tpos : Pos} {elts : List Expr} {kk : Nat} {sr : SN} (hg : Gl X "enumerate") (hm : X.mg "enumerate" = none) (ha : PA X [e] (xA X.K X.mg W C sr)) (hs : starEach [e] X.env = [(false, eval e X.env)] := by rfl) :
    PI X (.Tuple elts kk tpos) (.Call (.Name "enumerate" p) [e] [] pos) (xI X.K X.mg W C (sIEnL sr)) := pi_imp (pi_enumL hg hm ha hs) fun σ H Q ⟨ow, S, r, q⟩ =>
  seq early_I r q fun S1 ds vs H1 r1 x1 rd k => by
    match ds, rd, k with
    | [.list es], .cons (.lst h1 h2) .nil, k => exact ⟨_, _, rfl, h1.sq, pst_ok r1 k (itd_enumL h1 h2)⟩
end
end Ds
end

section
set_option Elab.async false
set_option linter.all false
set_option maxRecDepth 100000
set_option maxHeartbeats 4000000
namespace Ds
open PySem PySem.Spec PyProof.Rows L2
section
variable {X : Cx} {W : WX} {C : Cn} {pos : Pos} {elt tg iter e a b c : Expr} {ifs : List Expr} {it sr : SN} {g : GT} {t : STt} {sn : SN} {vs ts : List Nat} {scope : Scope} {own : List (Str × Nat)} {i j l : Nat}
/-! ### x, y = e1, e2 by values -/
def put1 (i : Nat) (d : PyData) (r : RS) : RS := match r with
  | .nx S => put i (.val d) S
  | _ => .no
def sParV (i j : Nat) (sr : SN) : SS := fun S => (sr S).st fun ds S1 => match ds with
  | [d, e] => put1 j e (put1 i d (.nx S1))
  | _ => .no
def sParV3 (i j l : Nat) (sr : SN) : SS := fun S => (sr S).st fun ds S1 => match ds with
  | [d, e, f] => put1 l f (put1 j e (put1 i d (.nx S1)))
  | _ => .no
theorem put1_nx {i : Nat} {d : PyData} {S S' : En} (h : put1 i d (.nx S) = .nx S') : noio S[i]? = true ∧ S' = S.set i (.val d) := by
  change put i (.val d) S = .nx S' at h
  unfold put at h
  by_cases z : noio S[i]? = true
  · rw [if_pos z] at h; cases h; exact ⟨z, rfl⟩
  · rw [if_neg z] at h; cases h
theorem put1_cases {i : Nat} {d : PyData} {r : RS} : (∃ S S', r = .nx S ∧ put1 i d r = .nx S') ∨ put1 i d r = .no := by
  cases r with
  | nx S =>
    show (∃ S1 S', RS.nx S = .nx S1 ∧ put i (.val d) S = .nx S') ∨ put i (.val d) S = .no
    unfold put
    by_cases z : noio S[i]? = true
    · exact .inl ⟨S, _, rfl, if_pos z⟩
    · exact .inr (if_neg z)
  | _ => exact .inr rfl
theorem sst_put1 {ow : Ow} {σ : St} {H : Hp} {D : Ends} {K : PySem.W.Frag} {mg : Str → Option Value} {r : RS} {d : PyData} (h : sst K mg W C ow H D (put1 i d r)) : ∃ S S', r = .nx S ∧ put1 i d (.nx S) = .nx S' ∧ sst K mg W C ow H D (.nx S') := by
  rcases put1_cases (i := i) (d := d) (r := r) with ⟨S, S', h1, h2⟩ | h1
  · subst h1
    rw [h2] at h
    exact ⟨S, S', rfl, h2, h⟩
  · rw [h1] at h; exact h.elim
theorem s_parV {tgs : List Expr} {k2 pt2} (ha : PA X [a, b] (xA X.K X.mg W C sr)) (hp : ∀ {t : TA}, PA X [a, b] t → PS X (.Assign tgs (.Tuple [a, b] k2 pt2) pos) (tPar i j t)) : PS X (.Assign tgs (.Tuple [a, b] k2 pt2) pos) (xS X.K X.mg W C (sParV i j sr)) :=
  ps_imp (hp ha) fun D σ H ⟨ow, S, r, q⟩ => seqS r q fun S1 ds vs H1 r1 x1 rd k => by
    match ds, rd, k with
    | [d, e], .cons rd1 (.cons rd2 .nil), k =>
      refine ⟨_, _, rfl, ?_⟩
      obtain ⟨S2, S3, h1, h2, k3⟩ := sst_put1 (σ := σ) k
      obtain ⟨h3, rfl⟩ := put1_nx h1
      obtain ⟨h4, rfl⟩ := put1_nx h2
      have p1 := r1.putV h3 rd1
      have lt1 : ∀ a, av C (owSet ow i none) a → av C ow a := fun a z => (av_set z).elim id fun z => by cases z
      have p2 := p1.putV h4 (rd_less rd2 lt1)
      exact k3 _ _ _ p2 (Ext.refl _ _) ((grow_set fun a z => by cases z).trans (Ext.refl _ _) (grow_set fun a z => by cases z))
    | [], _, k => exact k.elim
    | [_], _, k => exact k.elim
    | _ :: _ :: _ :: _, _, k => exact k.elim
theorem s_parV3 {tgs : List Expr} {k2 pt2} (ha : PA X [a, b, c] (xA X.K X.mg W C sr)) (hp : ∀ {t : TA}, PA X [a, b, c] t → PS X (.Assign tgs (.Tuple [a, b, c] k2 pt2) pos) (tPar3 i j l t)) : PS X (.Assign tgs (.Tuple [a, b, c] k2 pt2) pos) (xS X.K X.mg W C (sParV3 i j l sr)) :=
  ps_imp (hp ha) fun D σ H ⟨ow, S, r, q⟩ => seqS r q fun S1 ds vs H1 r1 x1 rd k => by
    match ds, rd, k with
    | [d, e, f], .cons rd1 (.cons rd2 (.cons rd3 .nil)), k =>
      refine ⟨_, _, _, rfl, ?_⟩
      obtain ⟨S3, S4, h0, h3, k3⟩ := sst_put1 (σ := σ) k
      obtain ⟨S2, S2', e2, e3⟩ : ∃ S2 S2', put1 i d (.nx S1) = .nx S2 ∧ put1 j e (.nx S2) = .nx S2' := by
        rcases put1_cases (i := j) (d := e) (r := put1 i d (.nx S1)) with ⟨S2, S2', h1, h2⟩ | h1
        · rw [h1] at h2; exact ⟨S2, S2', h1, h2⟩
        · rw [h1] at h0; cases h0
      rw [e2, e3] at h0
      cases h0
      obtain ⟨h5, rfl⟩ := put1_nx e2
      obtain ⟨h6, rfl⟩ := put1_nx e3
      obtain ⟨h7, rfl⟩ := put1_nx h3
      have p1 := r1.putV h5 rd1
      have lt : ∀ {ow : Ow} {i : Nat} a, av C (owSet ow i none) a → av C ow a := fun a z => (av_set z).elim id fun z => by cases z
      have p2 := p1.putV h6 (rd_less rd2 lt)
      have p3 := p2.putV h7 (rd_less (rd_less rd3 lt) lt)
      exact k3 _ _ _ p3 (Ext.refl _ _) (((grow_set fun a z => by cases z).trans (Ext.refl _ _) (grow_set fun a z => by cases z)).trans (Ext.refl _ _) (grow_set fun a z => by cases z))
    | [], _, k => exact k.elim
    | [_], _, k => exact k.elim
    | [_, _], _, k => exact k.elim
    | _ :: _ :: _ :: _ :: _, _, k => exact k.elim
theorem lc_setN {y : Str} {py spos : Pos} (hc : X.calm = true) (hN : X.N.Nodup) (hy : X.N[i]? = some y) (hyl : X.env.scope.names.lookup y = some .local) (hsw : swapsWith (.ListComp elt [⟨tg, iter, ifs, 0⟩] scope pos) (some (.Name y py)) spos.line X.env = pure true)
    (hpl : Plain g) (hts : ∀ j ∈ ts, j ∈ own.map (·.2)) (hi : PI X tg iter (xI X.K X.mg W C it)) (ok : BlkOk X.N X.env.scope scope own)
    (hg : ∀ (s : Shared) (H : Hp) (A : Addr) (cl : List (Str × Addr)) (fp : List Addr) (C' : Cn), PG (X.blk s H scope (compEnvC scope cl A X.env) fp) tg (xT X.K C' g ts))
    (ht : ∀ (s : Shared) (H : Hp) (A : Addr) (cl : List (Str × Addr)) (fp : List Addr) (C' : Cn), PTs (X.blk s H scope (compEnvC scope cl A X.env) fp) ifs (xB X.K X.mg W0 C' t))
    (he : ∀ (s : Shared) (H : Hp) (A : Addr) (cl : List (Str × Addr)) (fp : List Addr) (C' : Cn), PE (X.blk s H scope (compEnvC scope cl A X.env) fp) elt (xN X.K X.mg W0 C' sn))
    (hs : ∀ x, foldedSetIterable iter X.env x = pure x := by intro _; rfl) : PS X (.Assign [.Name y py] (.ListComp elt [⟨tg, iter, ifs, 0⟩] scope pos) spos) (xS X.K X.mg W C (sSetNst i it g t sn (own.map (·.2)))) :=
  ps_imp (ps_setLc (g := fun v σ' H' Q' => ∃ C', xT X.K C' g ts v σ' H' Q') (tt := fun σ' H' Q' => ∃ C', xB X.K X.mg W0 C' t σ' H' Q') (te := fun σ' H' Q' => ∃ C', xN X.K X.mg W0 C' sn σ' H' Q') hc hN hy hyl hsw hi ok
    (fun s H A cl fp => ⟨fun pins s' σ H' v u Q I r ⟨C', q⟩ => (hg s H A cl fp C').run pins s' σ H' v u Q I r q⟩)
    (fun s H A cl fp => ⟨fun pins s' σ H' Q I ⟨C', q⟩ => (ht s H A cl fp C').run pins s' σ H' Q I q⟩)
    (fun s H A cl fp => ⟨fun pins s' σ H' Q I ⟨C', q⟩ => (he s H A cl fp C').run pins s' σ H' Q I q⟩) hs) fun D σ H h => lc_finN hpl hts h
end
/-! ### rules to work these out -/
@[simp] theorem nst?_n {d : List (List PyData)} : nst? (some (.nst d)) = some d := rfl
@[simp] theorem r_put1 {i : Nat} {d : PyData} {S : En} : put1 i d (.nx S) = if noio S[i]? = true then .nx (S.set i (.val d)) else .no := rfl
@[simp] theorem r_putNst {i : Nat} {d : List (List PyData)} {S : En} : putNst i d S = if noio S[i]? = true then .nx (S.set i (.nst d)) else .no := rfl
@[simp] theorem r_asLE {d : List PyData} : asLE [.list d] = some (enumD d) := rfl
@[simp] theorem r_sParV {i j : Nat} {sr : SN} {S : En} : sParV i j sr S = ((sr S).stt fun ds S1 => match ds with
  | [d, e] => put1 j e (put1 i d (.nx S1))
  | _ => .no) := rfl
@[simp] theorem r_sParV3 {i j l : Nat} {sr : SN} {S : En} : sParV3 i j l sr S = ((sr S).stt fun ds S1 => match ds with
  | [d, e, f] => put1 l f (put1 j e (put1 i d (.nx S1)))
  | _ => .no) := rfl
@[simp] theorem r_sFrzN {i : Nat} {s : SS} {S : En} : sFrzN i s S = (match nst? S[i]? with
  | some dss => s (S.set i (.val (.list (dss.map .list))))
  | none => .no) := rfl
@[simp] theorem r_sFrz {i : Nat} {s : SS} {S : En} : sFrz i s S = (match own1? S[i]? with
  | some ds => s (S.set i (.val (.list ds)))
  | none => .no) := rfl
@[simp] theorem nstIx_n {dss : List (List PyData)} {j : Int} : nstIx (some (.nst dss)) (.int j) = if 0 ≤ j ∧ j < dss.length then some j.toNat else none := rfl
@[simp] theorem r_sNJ {i : Nat} {sb : SE} {S : En} : sNJ i sb S = (if (nst? S[i]?).isSome = true then (sb S).bnd fun k S1 => R.opt (nstIx S1[i]? k) S1 else .no) := rfl
@[simp] theorem r_sNIx {i : Nat} {sb : SE} {S : En} : sNIx i sb S = ((sNJ i sb S).bnd fun k S1 => R.opt ((nst? S1[i]?).bind fun dss => dss[k]?) S1) := rfl
@[simp] theorem r_sNApp {i : Nat} {sb se : SE} {S : En} : sNApp i sb se S = ((sNJ i sb S).bnd fun k S1 => (se S1).bnd fun d S2 => match nst? S2[i]? with
  | some dss => match dss[k]? with
    | some ds => if ds.length < sizeLine then .ok .none (S2.set i (.nst (dss.set k (ds ++ [d])))) else .no
    | none => .no
  | none => .no) := rfl
@[simp] theorem r_sNIns {i : Nat} {sb : SE} {sg : SN} {S : En} : sNIns i sb sg S = ((sNJ i sb S).bnd fun k S1 => (sg S1).bnd fun gs S2 => match nst? S2[i]?, gs with
  | some dss, [.int j, d] => match dss[k]? with
    | some ds => if ds.length < sizeLine ∧ 0 ≤ j ∧ j < 2 ^ 63 then .ok .none (S2.set i (.nst (dss.set k (ds.take j.toNat ++ [d] ++ ds.drop j.toNat)))) else .no
    | none => .no
  | _, _ => .no) := rfl
@[simp] theorem r_sSetNst {i : Nat} {it : SN} {g : GT} {t : STt} {e : SN} {vs : List Nat} {S : En} : sSetNst i it g t e vs S = ((it S).stt fun ds S1 =>
  if (vs.all fun v => (own? S1[v]?).isNone && nn S1[v]?) = true ∧ ds.length < sizeLine then (noEx (lcN g t e vs ds (wipeS vs S1))).stt fun yss S2 => putNst i yss (unwipe vs S1 S2) else .no) := rfl
@[simp] theorem r_sCatN {sa sb : SE} {S : En} : sCatN sa sb S = ((sa S).bnd fun d S1 => (sb S1).bnd fun e S2 => match asL d, asL e with
  | some ds, some es => if ds.length + es.length ≤ sizeLine then .ok (ds ++ es) S2 else .no
  | _, _ => .no) := rfl
@[simp] theorem r_sCatV {i : Nat} {sb : SE} {S : En} : sCatV i sb S = (if (lst? S[i]?).isSome = true then (sb S).bnd fun e S2 => match lst? S2[i]?, asL e with
  | some ds, some es => if ds.length + es.length ≤ sizeLine then .ok (ds ++ es) S2 else .no
  | _, _ => .no
  else .no) := rfl
@[simp] theorem r_sRepN {s1 : SN} {s2 : SE} {S : En} : sRepN s1 s2 S = ((s1 S).bnd fun ds S1 => (noEx (s2 S1)).bnd fun k S2 => match k with
  | .int k => if -(2 ^ 63) ≤ k ∧ k < 2 ^ 63 ∧ ds.length * k.toNat ≤ sizeLine then .ok (List.replicate k.toNat ds).flatten S2 else .no
  | _ => .no) := rfl
@[simp] theorem r_sListS {sr : SN} {S : En} : sListS sr S = ((sr S).bnd fun ds S1 => match ds with
  | [.str x] => if x.cps.size ≤ sizeLine then .ok (signs x) S1 else .no
  | _ => .no) := rfl
@[simp] theorem r_sRng3 {sr : SN} {S : En} : sRng3 sr S = ((sr S).bnd fun ds S1 => R.opt (rng3 ds) S1) := rfl
@[simp] theorem r_sIEnL {sr : SN} {S : En} : sIEnL sr S = ((sr S).bnd fun ds S1 => R.opt (asLE ds) S1) := rfl
@[simp] theorem r_sAnd {ta tb : STt} {S : En} : sAnd ta tb S = ((ta S).bnd fun c S1 => if c = true then tb S1 else .ok false S1) := rfl
@[simp] theorem r_sAndV {ta tb : SE} {S : En} : sAndV ta tb S = ((ta S).bnd fun d S1 => match d with
  | .bool true => tb S1
  | .bool false => .ok (.bool false) S1
  | _ => .no) := rfl
@[simp] theorem r_sOrV {ta tb : SE} {S : En} : sOrV ta tb S = ((ta S).bnd fun d S1 => match d with
  | .bool false => tb S1
  | .bool true => .ok (.bool true) S1
  | _ => .no) := rfl
@[simp] theorem r_sNotV {sa : SE} {S : En} : sNotV sa S = ((sa S).bnd fun d S1 => match d with
  | .bool b => .ok (.bool (!b)) S1
  | _ => .no) := rfl
@[simp] theorem r_sPop {i : Nat} {se : SE} {S : En} : sPop i se S = (if (own? S[i]?).isSome = true then (se S).bnd fun d S1 => match own? S1[i]? with
  | some ds => match popI ds d with
    | some (x, es) => .ok x (upL i es S1)
    | none => .no
  | none => .no
  else .no) := rfl
@[simp] theorem r_gSubI {i : Nat} {sk : SE} {d : PyData} {S : En} : gSubI i sk d S = (match sk S with
  | .ok k S1 => match own? S1[i]? with
    | some ds => match setI ds k d with
      | some es => if (own? S[i]?).isSome = true then .nx (upL i es S1) else .no
      | none => .no
    | none => .no
  | _ => .no) := rfl
@[simp] theorem r_sAug {g : PyData → PyData → Option PyData} {i : Nat} {se : SE} {S : En} : sAug g i se S = (match val? S[i]? with
  | some d => (se S).stt fun e S1 => match g d e with
    | some z => put i (.val z) S1
    | none => .no
  | none => .no) := rfl
end Ds
end

section
set_option Elab.async false
set_option linter.all false
set_option maxRecDepth 100000
set_option maxHeartbeats 4000000
namespace Ds
open PySem PySem.Spec PyProof.Rows L2
section
variable {X : Cx} {W : WX} {C : Cn} {a b c : Expr} {sa sb : SE} {i : Nat}
/-! ### l.index(x), flat items -/
def gLIx (ds : List PyData) (d : PyData) : Option PyData := if flatD d = true ∧ ds.all flatD = true then (ds.findIdx? fun z => PyData.eqv z d).map fun j => .int (j : Nat) else none
theorem RDs.get2 {K : PySem.W.Frag} {av : Addr → Prop} {H : Hp} : ∀ {vs : List V} {ds : List PyData} {i : Nat} {v : V}, RDs K av H vs ds → vs[i]? = some v → ∃ d, ds[i]? = some d ∧ RD K av H v d
  | _, _, _, _, .nil, e => by simp at e
  | _, _, 0, _, .cons h _, e => by simp at e; subst e; exact ⟨_, rfl, h⟩
  | _, _, i + 1, _, .cons _ h, e => by
    obtain ⟨v, h1, h2⟩ := RDs.get2 (i := i) h (by simpa using e)
    exact ⟨v, by simpa using h1, h2⟩
theorem lix_run {K : PySem.W.Frag} {av : Addr → Prop} {H : Hp} {p : Addr} {vs : List V} {ds : List PyData} {v : V} {d z : PyData} {Q : VK} (hl : SqL K H p vs) (rs : RDs K av H vs ds) (rv : RD K av H v d) (g : gLIx ds d = some z) (q : ∀ w, RD K av H w z → Q w H) : rIndex K (.ref p) [v] H Q := by
  unfold gLIx at g
  by_cases f : flatD d = true ∧ ds.all flatD = true
  · rw [if_pos f] at g
    cases e : ds.findIdx? fun z => PyData.eqv z d with
    | none => rw [e] at g; cases g
    | some j =>
      rw [e] at g
      cases g
      obtain ⟨lt, h1, h2⟩ := List.findIdx?_eq_some_iff_getElem.mp e
      have ej := List.getElem?_eq_getElem lt
      obtain ⟨w, h3, h4⟩ := rs.get ej
      have fl : ∀ {y : PyData}, y ∈ ds → flatD y = true := fun h => List.all_eq_true.mp f.2 _ h
      refine ⟨p, vs, v, j, w, rfl, rfl, hl, flat_rd rv f.1, flat_rds rs f.2, h3, ?_, fun m z' hm hz => ?_, q _ (.int _)⟩
      · rw [eqv_rd h4 rv (fl (List.getElem_mem _)) f.1]; exact h1
      · obtain ⟨y, h5, h6⟩ := rs.get2 hz
        obtain ⟨lm, h7⟩ := List.getElem?_eq_some_iff.mp h5
        rw [eqv_rd h6 rv (fl (List.mem_of_getElem? h5)) f.1]
        have := h2 m hm
        rw [h7] at this
        simpa using this
  · rw [if_neg f] at g; cases g
def sLixV (i : Nat) (sb : SE) : SE := fun S => if (lst? S[i]?).isSome = true then (sb S).bind fun d S1 => match lst? S1[i]? with
  | some ds => R.opt (gLIx ds d) S1
  | none => .no
  else .no
theorem e_lixV (hp : ∀ {t : TE}, PE X b t → PE X c (tBM X.K "list" (rIndex X.K) (tVar i) (tCons t tNil))) (hb : PE X b (xE X.K X.mg W C sb)) : PE X c (xE X.K X.mg W C (sLixV i sb)) :=
  pe_imp (hp hb) fun σ H Q ⟨ow, S, r, q⟩ => by
    change pst X.K X.mg W C (relE X.K) ow σ H Q (sLixV i sb S) at q
    unfold sLixV at q
    cases e : lst? S[i]? with
    | none => rw [e] at q; exact q.elim
    | some ds0 =>
      rw [e] at q
      obtain ⟨p, vs, h1, h2, _⟩ := r.list e
      refine ⟨.ref p, h1, .inl ⟨rfl, vs, h2⟩, seq early_E r q fun S1 d v H1 r1 x1 rv k => ?_⟩
      cases e1 : lst? S1[i]? with
      | none => rw [e1] at k; exact k.elim
      | some ds =>
        rw [e1] at k
        obtain ⟨p2, ws, g1, g2, g3⟩ := r1.list e1
        rw [h1] at g1; cases g1
        change pst X.K X.mg W C (relE X.K) ow σ H1 Q (R.opt (gLIx ds d) S1) at k
        cases e2 : gLIx ds d with
        | none => rw [e2] at k; exact k.elim
        | some z =>
          rw [e2] at k
          exact lix_run g2 g3 rv e2 fun w rw' => pst_ok r1 k rw'
def sLixE (sa sb : SE) : SE := fun S => (sa S).bind fun e S1 => match e with
  | .list ds => (sb S1).bind fun d S2 => R.opt (gLIx ds d) S2
  | _ => .no
theorem e_lixE (hp : ∀ {u t : TE}, PE X a u → PE X b t → PE X c (tBM X.K "list" (rIndex X.K) u (tCons t tNil))) (ha : PE X a (xE X.K X.mg W C sa)) (hb : PE X b (xE X.K X.mg W C sb)) : PE X c (xE X.K X.mg W C (sLixE sa sb)) :=
  pe_imp (hp ha hb) fun σ H Q ⟨ow, S, r, q⟩ => seq early_E r q fun S1 e x H1 r1 x1 re k1 => by
    cases re with
    | lst h1 h2 =>
      refine ⟨.inl ⟨rfl, _, h1.sq⟩, seq early_E r1 k1 fun S2 d v H2 r2 x2 rv k => ?_⟩
      rename_i vs ds
      change pst X.K X.mg W C (relE X.K) ow σ H2 Q (R.opt (gLIx ds d) S2) at k
      cases e2 : gLIx ds d with
      | none => rw [e2] at k; exact k.elim
      | some z =>
        rw [e2] at k
        exact lix_run (LK.mono x2 (Grow.refl _ _) h1).sq (RDs.mono x2 (Grow.refl _ _) _ _ h2) rv e2 fun w rw' => pst_ok r2 k rw'
    | _ => exact k1.elim
end
@[simp] theorem r_sLixV {i : Nat} {sb : SE} {S : En} : sLixV i sb S = (if (lst? S[i]?).isSome = true then (sb S).bnd fun d S1 => match lst? S1[i]? with
  | some ds => R.opt (gLIx ds d) S1
  | none => .no
  else .no) := rfl
@[simp] theorem r_sLixE {sa sb : SE} {S : En} : sLixE sa sb S = ((sa S).bnd fun e S1 => match e with
  | .list ds => (sb S1).bnd fun d S2 => R.opt (gLIx ds d) S2
  | _ => .no) := rfl
end Ds
end

section
set_option Elab.async false
set_option linter.all false
set_option maxRecDepth 100000
set_option maxHeartbeats 4000000
namespace Ds
open PySem PySem.Spec PyProof.Rows L2
section
variable {X : Cx} {W : WX} {C : Cn} {pos : Pos} {e tg : Expr} {se : SE} {sr : SN}
/-! ### over a list or a tuple -/
def asLT (d : PyData) : Option (List PyData) := match d with
  | .list ds => some ds
  | .tuple ds => some ds
  | _ => none
def sISq (se : SE) : SN := fun S => (se S).bind fun d S1 => R.opt (asLT d) S1
def isTupR {α : Type} (x : R PyData) (a b : α) : α := match x with
  | .ok (.tuple _) _ => a
  | _ => b
theorem i_seq (h : PE X e (xE X.K X.mg W C se)) : PI X tg e (xI X.K X.mg W C (sISq se)) := by
  have h1 := i_list (tg := tg) (W := W) (C := C) h
  have h2 := i_tup (tg := tg) (W := W) (C := C) h
  refine ⟨fun pins s σ H R I q => ?_⟩
  obtain ⟨ow, S, r, q⟩ := q
  change pst X.K X.mg W C (relI X.K) ow σ H R (sISq se S) at q
  unfold sISq at q
  cases es : se S with
  | no => rw [es] at q; exact q.elim
  | ex c S' =>
    refine h1.run pins s σ H R I ⟨ow, S, r, ?_⟩
    show pst X.K X.mg W C (relI X.K) ow σ H R (sIL se S)
    unfold sIL
    rw [es] at q ⊢
    exact q
  | ok d S' =>
    rw [es, bind_ok] at q
    cases d with
    | list ds =>
      refine h1.run pins s σ H R I ⟨ow, S, r, ?_⟩
      show pst X.K X.mg W C (relI X.K) ow σ H R (sIL se S)
      unfold sIL
      rw [es]
      exact q
    | tuple ds =>
      refine h2.run pins s σ H R I ⟨ow, S, r, ?_⟩
      show pst X.K X.mg W C (relI X.K) ow σ H R (sIT se S)
      unfold sIT
      rw [es]
      exact q
    | _ => exact q.elim
end
@[simp] theorem r_sISq {se : SE} {S : En} : sISq se S = ((se S).bnd fun d S1 => R.opt (asLT d) S1) := rfl
@[simp] theorem r_asLT1 {ds : List PyData} : asLT (.list ds) = some ds := rfl
@[simp] theorem r_asLT2 {ds : List PyData} : asLT (.tuple ds) = some ds := rfl
end Ds
end

section
set_option linter.all false
set_option Elab.async false
set_option maxRecDepth 100000
open PySem PySem.Spec PyProof.Rows L2
namespace Ds
def c_is_whole : SS :=
  (sRet (sAndV (sIsi "int" (sVar 0)) (sNotV (sIsi "bool" (sVar 0)))))
def m_is_whole : Mf := mB 1 c_is_whole
def c_is_name : SS :=
  (sSeq (sIf (sOr (sNot (sTst (sIsi "str" (sVar 0)))) (sNot (sTst (sCh gLe gLe (sK (.int 1)) (sCallB gLen (sCons (sVar 0) sNil)) (sK (.int 8))))))
    (sRet (sK (.bool false)))
    sNx)
  (sRet (sRd lAll (sLc (sIS (sVar 0)) (gNm 1) sYes (sBin (gIn false) (sVar 1) (sK (.str (Str.ofString "abcdefghijklmnopqrstuvwxyz")))) [1]))))
def m_is_name : Mf := mB 2 c_is_name
def c_open_desks : SS :=
  (sSeq (sSetNst 2 (sISq (sVar 1)) (gNm 4) sYes (sLst sNil) [4])
  (sSeq (sFor (sRng3 (sCons (sCallB gLen (sCons (sVar 0) sNil)) (sCons (sK (.int 0)) (sCons (sNeg (sK (.int 1))) sNil)))) (gNm 3)
    (sIf (sAnd (sTst (sBin gEq (sRd lLen (sNIx 2 (sVar 3))) (sK (.int 0)))) (sTst (sBin gIx (sVar 1) (sVar 3))))
      (sDrop (sNIns 2 (sBin gIx (sVar 0) (sBin gSub_ (sVar 3) (sK (.int 1)))) (sCons (sK (.int 0)) (sCons (sVar 3) sNil))))
      sNx))
  (sFrzN 2 (sRet (sVar 2)))))
def m_open_desks : Mf := mB 5 c_open_desks
def c_blockers_at : SS :=
  (sSeq (sSet 4 (sBin gIx (sVar 2) (sVar 0)))
  (sSeq (sIf (sTst (sBin (gInT true) (sVar 4) (sVar 3)))
    (sRet (sIfE (sTst (sBin gGt (sRd lLen (sLVar 1)) (sK (.int 0)))) (sNE (sLst (sCons (sK .none) sNil))) (sNE (sLst sNil))))
    sNx)
  (sSeq (sSet 5 (sNE (sLc (sIL (sVar 1)) (gNm 7) sYes (sBin gIx (sVar 2) (sVar 7)) [7])))
  (sSeq (sSet 6 (sCut (sVar 3) (sP1 (sBin gAdd (sTix (sVar 3) (sVar 4)) (sK (.int 1)))) sP0))
  (sRet (sNE (sLc (sISq (sVar 6)) (gNm 8) (sTst (sBin (gInT false) (sVar 8) (sVar 5))) (sTix (sVar 2) (sVar 8)) [8])))))))
def m_blockers_at : Mf := mB 9 c_blockers_at
def c_is_number : SS :=
  (sRet (sAndV (sCallV m_is_whole (sGv (sVar 0) sG0)) (sCh gLe gLe (sVar 1) (sVar 0) (sVar 2))))
def m_is_number : Mf := mB 3 c_is_number
def c_are_different_names : SS :=
  (sSeq (sIf (sOr (sNot (sTst (sIsi "tuple" (sVar 0)))) (sNot (sTst (sRd lAll (sLc (sISq (sVar 0)) (gNm 1) sYes (sCallV m_is_name (sGv (sVar 1) sG0)) [1])))))
    (sRet (sK (.bool false)))
    sNx)
  (sRet (sBin gEq (sLenSet (sVar 0)) (sCallB gLen (sCons (sVar 0) sNil)))))
def m_are_different_names : Mf := mB 2 c_are_different_names
def c_open_below : SS :=
  (sRet (sCallV m_open_desks (sGv (sVar 0) (sGv (sNE (sLc (sISq (sVar 1)) (gNm 3) sYes (sBin (gInT false) (sVar 3) (sVar 2)) [3])) sG0))))
def m_open_below : Mf := mB 4 c_open_below
def c_status_of : SS :=
  (sSeq (sIf (sTst (sBin gGt (sCallB gLen (sCons (sCallV m_blockers_at (sGv (sVar 0) (sGv (sVar 1) (sGv (sVar 2) (sGv (sVar 3) sG0))))) sNil)) (sK (.int 0))))
    (sRet (sK (.str (Str.ofString "unsettled"))))
    sNx)
  (sSeq (sIf (sTst (sBin gGt (sRd lLen (sLVar 1)) (sK (.int 0))))
    (sRet (sK (.str (Str.ofString "center"))))
    sNx)
  (sRet (sIfE (sTst (sBin (gInT false) (sBin gIx (sVar 2) (sVar 0)) (sVar 3))) (sK (.str (Str.ofString "open"))) (sK (.str (Str.ofString "silent")))))))
def m_status_of : Mf := mB 4 c_status_of
def c_is_office : SS :=
  (sSeq (sIf (sOr (sNot (sTst (sIsi "tuple" (sVar 0)))) (sTst (sBin gGe (sCallB gLen (sCons (sVar 0) sNil)) (sK (.int 40)))))
    (sRet (sK (.bool false)))
    sNx)
  (sRet (sRd lAll (sLc (sIEnT (sCons (sVar 0) sNil)) (gTp (gNC (gNm 1) (gNC (gNm 2) gN0))) sYes (sCallV m_is_number (sGv (sVar 2) (sGv (sK (.int 0)) (sGv (sVar 1) sG0)))) [1, 2]))))
def m_is_office : Mf := mB 3 c_is_office
def c_blockers : SS :=
  (sSeq (sSet 3 (sCallV m_open_below (sGv (sVar 0) (sGv (sVar 1) (sGv (sVar 2) sG0)))))
  (sRetNew (sLc (sIEnL (sCons (sVar 3) sNil)) (gTp (gNC (gNm 4) (gNC (gNm 5) gN0))) sYes (sCallV m_blockers_at (sGv (sVar 4) (sGv (sVar 5) (sGv (sVar 1) (sGv (sVar 2) sG0))))) [4, 5])))
def m_blockers : Mf := mB 6 c_blockers
def c_need_office : SS :=
  (sIf (sNot (sTst (sCallV m_is_office (sGv (sVar 0) sG0))))
    sStop
    sNx)
def m_need_office : Mf := mB 1 c_need_office
def c_is_settled : SS :=
  (sRet (sRd lAll (sLc (sIL (sNE (sCallN m_blockers (sGv (sVar 0) (sGv (sVar 1) (sGv (sVar 2) sG0)))))) (gNm 3) sYes (sBin gEq (sRd lLen (sLVar 3)) (sK (.int 0))) [3])))
def m_is_settled : Mf := mB 4 c_is_settled
def c_is_seating : SS :=
  (sSeq (sDrop (sCallV m_need_office (sGv (sVar 0) sG0)))
  (sRet (sAndV (sCallV m_are_different_names (sGv (sVar 1) sG0)) (sBin gEq (sCallB gLen (sCons (sVar 1) sNil)) (sBin gAdd (sCallB gLen (sCons (sVar 0) sNil)) (sK (.int 1)))))))
def m_is_seating : Mf := mB 2 c_is_seating
def c_need_seating : SS :=
  (sIf (sNot (sTst (sCallV m_is_seating (sGv (sVar 0) (sGv (sVar 1) sG0)))))
    sStop
    sNx)
def m_need_seating : Mf := mB 2 c_need_seating
def c_is_order : SS :=
  (sSeq (sDrop (sCallV m_need_seating (sGv (sVar 0) (sGv (sVar 1) sG0))))
  (sRet (sAndV (sCallV m_are_different_names (sGv (sVar 2) sG0)) (sRd lAll (sLc (sISq (sVar 2)) (gNm 3) sYes (sBin (gInT false) (sVar 3) (sVar 1)) [3])))))
def m_is_order : Mf := mB 4 c_is_order
def c_need_order : SS :=
  (sIf (sNot (sTst (sCallV m_is_order (sGv (sVar 0) (sGv (sVar 1) (sGv (sVar 2) sG0))))))
    sStop
    sNx)
def m_need_order : Mf := mB 3 c_need_order
def c_statuses : SS :=
  (sSeq (sDrop (sCallV m_need_order (sGv (sVar 0) (sGv (sVar 1) (sGv (sVar 2) sG0)))))
  (sSeq (sSet 3 (sCallV m_open_below (sGv (sVar 0) (sGv (sVar 1) (sGv (sVar 2) sG0)))))
  (sRetNew (sLc (sIEnL (sCons (sVar 3) sNil)) (gTp (gNC (gNm 4) (gNC (gNm 5) gN0))) sYes (sCallV m_status_of (sGv (sVar 4) (sGv (sVar 5) (sGv (sVar 1) (sGv (sVar 2) sG0))))) [4, 5]))))
def m_statuses : Mf := mB 6 c_statuses
def c_is_recurrent : SS :=
  (sSeq (sDrop (sCallV m_need_order (sGv (sVar 0) (sGv (sVar 1) (sGv (sVar 2) sG0)))))
  (sRet (sCallV m_is_settled (sGv (sVar 0) (sGv (sVar 1) (sGv (sVar 2) sG0))))))
def m_is_recurrent : Mf := mB 3 c_is_recurrent
end Ds
end

section
set_option linter.all false
set_option Elab.async false
set_option maxRecDepth 100000
open PySem PySem.Spec PyProof.Rows L2
namespace Ds
def c__law_source : SS :=
  (sRetNew (sLst (sCons (sCallB gMax (sCons (sK (.int 0)) (sCons (sBin gSub_ (sVar 0) (sBin gPow (sK (.int 10)) (sK (.int 18)))) sNil))) (sCons (sBin gMod (sVar 0) (sBin gAdd (sBin gPow (sK (.int 10)) (sK (.int 36))) (sK (.int 67)))) (sCons (sK (.int 0)) sNil)))))
def m__law_source : Mf := mB 1 c__law_source
def c__law_draw : SS :=
  (sSeq (sIf (sTst (sBin gGt (sIxV 0 (sK (.int 0))) (sK (.int 0))))
    (sSeq (sSet 3 (sBin gMod (sIxV 0 (sK (.int 0))) (sVar 1)))
    (sSeq (sSetIx 0 (sK (.int 0)) (sBin gDiv (sIxV 0 (sK (.int 0))) (sVar 1)))
    (sRet (sVar 3))))
    sNx)
  (sSeq (sSetIx 0 (sK (.int 2)) (sBin gAdd (sIxV 0 (sK (.int 2))) (sK (.int 1))))
  (sSeq (sSet 2 (sBin gMod (sBin gPowB (sBin gAdd (sIxV 0 (sK (.int 1))) (sBin gMul (sK (.int 49979687)) (sIxV 0 (sK (.int 2))))) (sK (.int 3))) (sBin gAdd (sBin gPow (sK (.int 10)) (sK (.int 38))) (sK (.int 133)))))
  (sSeq (sSet 2 (sBin gMod (sBin gPowB (sBin gAdd (sVar 2) (sBin gMul (sK (.int 67867967)) (sIxV 0 (sK (.int 2))))) (sK (.int 5))) (sBin gAdd (sBin gPow (sK (.int 10)) (sK (.int 37))) (sK (.int 43)))))
  (sRet (sBin gMod (sBin gDiv (sVar 2) (sK (.int 1048576))) (sVar 1)))))))
def m__law_draw : Mf := mB 4 c__law_draw
def c__law_day : SS :=
  (sSeq (sSetNew 3 (sListN (sCons (sVar 1) sNil)))
  (sSeq (sFor (sISq (sVar 2)) (gNm 4)
    (sSeq (sSet 5 (sLixV 3 (sVar 4)))
    (sIf (sTst (sBin gGt (sVar 5) (sK (.int 0))))
      (sSeq (sSet 6 (sBin gIx (sVar 0) (sBin gSub_ (sVar 5) (sK (.int 1)))))
      (sAsg (gTp (gNC (gSubI 3 (sVar 5)) (gNC (gSubI 3 (sVar 6)) gN0))) (sTup (sCons (sIxV 3 (sVar 6)) (sCons (sIxV 3 (sVar 5)) sNil)))))
      sNx)))
  (sRet (sRd lTup (sLVar 3)))))
def m__law_day : Mf := mB 7 c__law_day
def c__law_statuses : SS :=
  (sSeq (sSetNew 3 (sRepN (sLst (sCons (sK (.str (Str.ofString ""))) sNil)) (sCallB gLen (sCons (sVar 1) sNil))))
  (sSeq (sFor (sRng3 (sCons (sBin gSub_ (sCallB gLen (sCons (sVar 1) sNil)) (sK (.int 1))) (sCons (sNeg (sK (.int 1))) (sCons (sNeg (sK (.int 1))) sNil)))) (gNm 4)
    (sSeq (sSet 5 (sNE (sLc (sRng2 (sCons (sBin gAdd (sVar 4) (sK (.int 1))) (sCons (sCallB gLen (sCons (sVar 1) sNil)) sNil))) (gNm 6) (sAnd (sTst (sBin gEq (sBin gIx (sVar 0) (sBin gSub_ (sVar 6) (sK (.int 1)))) (sVar 4))) (sTst (sBin gEq (sIxV 3 (sVar 6)) (sK (.str (Str.ofString "open")))))) (sVar 6) [6])))
    (sIf (sTst (sBin (gInT true) (sBin gIx (sVar 1) (sVar 4)) (sVar 2)))
      (sSetIx 3 (sVar 4) (sIfE (sTst (sBin gEq (sVar 5) (sNE (sLst sNil)))) (sK (.str (Str.ofString "silent"))) (sK (.str (Str.ofString "unsettled")))))
      (sIf (sTst (sBin gEq (sVar 5) (sNE (sLst sNil))))
        (sSetIx 3 (sVar 4) (sK (.str (Str.ofString "open"))))
        (sSeq (sSet 7 (sNE (sLc (sISq (sVar 5)) (gNm 6) (sTst (sBin gGt (sTix (sVar 2) (sBin gIx (sVar 1) (sVar 6))) (sTix (sVar 2) (sBin gIx (sVar 1) (sVar 4))))) (sVar 6) [6])))
        (sSetIx 3 (sVar 4) (sIfE (sTst (sBin gEq (sVar 7) (sNE (sLst sNil)))) (sK (.str (Str.ofString "center"))) (sK (.str (Str.ofString "unsettled"))))))))))
  (sRetOwn 3)))
def m__law_statuses : Mf := mB 8 c__law_statuses
def c__law_office : SS :=
  (sSeq (sSet 2 (sNE (sLst (sCons (sBin gAdd (sK (.int 1)) (sCallV m__law_draw (sGr 0 (sGv (sCallB gMin (sCons (sVar 1) (sCons (sK (.int 6)) sNil))) sG0)))) (sCons (sBin gAdd (sK (.int 1)) (sCallV m__law_draw (sGr 0 (sGv (sVar 1) sG0)))) (sCons (sVar 1) sNil))))))
  (sSeq (sParV 5 6 (sCons (sBin gIx (sVar 2) (sCallV m__law_draw (sGr 0 (sGv (sK (.int 3)) sG0)))) (sCons (sCallV m__law_draw (sGr 0 (sGv (sK (.int 5)) sG0))) sNil)))
  (sSeq (sSetNew 3 (sLst sNil))
  (sSeq (sFor (sRng2 (sCons (sK (.int 1)) (sCons (sVar 5) sNil))) (gNm 4)
    (sSeq (sParV3 7 8 9 (sCons (sCallV m__law_draw (sGr 0 (sGv (sVar 4) sG0))) (sCons (sCallV m__law_draw (sGr 0 (sGv (sK (.int 3)) sG0))) (sCons (sCallV m__law_draw (sGr 0 (sGv (sCallB gMin (sCons (sVar 4) (sCons (sK (.int 4)) sNil))) sG0))) sNil))))
    (sDrop (sAppend 3 (sBin gIx (sNE (sLst (sCons (sBin gSub_ (sVar 4) (sK (.int 1))) (sCons (sK (.int 0)) (sCons (sVar 7) (sCons (sCallB gMax (sCons (sK (.int 0)) (sCons (sBin gSub_ (sBin gSub_ (sVar 4) (sK (.int 1))) (sVar 8)) sNil))) (sCons (sVar 9) sNil))))))) (sVar 6))))))
  (sRet (sRd lTup (sLVar 3)))))))
def m__law_office : Mf := mB 10 c__law_office
def c__law_names : SS :=
  (sSeq (sSetNew 2 (sCatN (sNE (sListS (sCons (sK (.str (Str.ofString "abcdefghijklmnopqrstuvwxyz"))) sNil))) (sNE (sLst (sCons (sK (.str (Str.ofString "ab"))) (sCons (sK (.str (Str.ofString "ba"))) (sCons (sK (.str (Str.ofString "aa"))) (sCons (sK (.str (Str.ofString "zz"))) (sCons (sK (.str (Str.ofString "zzzzzzzz"))) (sCons (sK (.str (Str.ofString "zzzzzzza"))) (sCons (sK (.str (Str.ofString "open"))) (sCons (sK (.str (Str.ofString "call"))) (sCons (sK (.str (Str.ofString "days"))) sNil)))))))))))))
  (sSeq (sSetNew 2 (sCatV 2 (sNE (sLst (sCons (sK (.str (Str.ofString "order"))) (sCons (sK (.str (Str.ofString "silent"))) (sCons (sK (.str (Str.ofString "center"))) (sCons (sK (.str (Str.ofString "at"))) (sCons (sK (.str (Str.ofString "none"))) sNil)))))))))
  (sRet (sRd lTup (sLc (sRng1 (sCons (sVar 1) sNil)) (gNm 3) sYes (sPop 2 (sCallV m__law_draw (sGr 0 (sGv (sRd lLen (sLVar 2)) sG0)))) [3])))))
def m__law_names : Mf := mB 4 c__law_names
def c__law_called : SS :=
  (sSeq (sSetNew 2 (sListN (sCons (sVar 1) sNil)))
  (sSeq (sSet 3 (sNE (sLst (sCons (sRd lLen (sLVar 2)) (sCons (sCallV m__law_draw (sGr 0 (sGv (sBin gAdd (sRd lLen (sLVar 2)) (sK (.int 1))) sG0))) (sCons (sRd lLen (sLVar 2)) (sCons (sCallB gMin (sCons (sRd lLen (sLVar 2)) (sCons (sCallV m__law_draw (sGr 0 (sGv (sK (.int 4)) sG0))) sNil))) sNil)))))))
  (sRet (sRd lTup (sLc (sRng1 (sCons (sBin gIx (sVar 3) (sCallV m__law_draw (sGr 0 (sGv (sK (.int 4)) sG0)))) sNil)) (gNm 4) sYes (sPop 2 (sCallV m__law_draw (sGr 0 (sGv (sRd lLen (sLVar 2)) sG0)))) [4])))))
def m__law_called : Mf := mB 5 c__law_called
end Ds
end

section
set_option Elab.async false
set_option linter.all false
set_option maxRecDepth 100000
set_option maxHeartbeats 4000000
namespace Ds
open PySem PySem.Spec PyProof.Rows L2
/-! ### sorted(l) of pairs of ints -/
abbrev mkP (p : Int × Int) : PyData := .tuple [.int p.1, .int p.2]
def prs : List PyData → Option (List (Int × Int))
  | [] => some []
  | .tuple [.int a, .int b] :: ds => (prs ds).map ((a, b) :: ·)
  | _ => none
theorem prs_map : ∀ {ds : List PyData} {ps : List (Int × Int)}, prs ds = some ps → ds = ps.map mkP
  | [], ps, h => by cases h; rfl
  | .tuple [.int a, .int b] :: ds, ps, h => by
    change (prs ds).map ((a, b) :: ·) = some ps at h
    cases e : prs ds with
    | none => rw [e] at h; cases h
    | some qs =>
      rw [e] at h
      cases h
      rw [List.map_cons, ← prs_map e]
theorem prs_mk : ∀ ps : List (Int × Int), prs (ps.map mkP) = some ps
  | [] => rfl
  | (a, b) :: ps => by
    show (prs (ps.map mkP)).map ((a, b) :: ·) = _
    rw [prs_mk ps]
    rfl
def leP (p q : Int × Int) : Bool := !SrtO.lexB q p
theorem leP_iff {p q : Int × Int} : leP p q = true ↔ p.1 < q.1 ∨ (p.1 = q.1 ∧ p.2 ≤ q.2) := by
  unfold leP SrtO.lexB
  by_cases e : q.1 = p.1
  · rw [if_pos e]; simp; omega
  · rw [if_neg e]; simp; omega
theorem leP_anti {p q : Int × Int} (h : leP p q = true) (g : leP q p = true) : p = q := by
  rw [leP_iff] at h g
  exact Prod.ext (by omega) (by omega)
def srtP (ps : List (Int × Int)) : List (Int × Int) := ps.mergeSort leP
theorem srtP_perm (ps : List (Int × Int)) : (srtP ps).Perm ps := List.mergeSort_perm ps leP
theorem srtP_sorted (ps : List (Int × Int)) : (srtP ps).Pairwise (fun p q => leP p q = true) :=
  List.pairwise_mergeSort (fun a b c h g => by rw [leP_iff] at *; omega) (fun a b => by
    by_cases h : leP a b = true
    · simp [h]
    · have : leP b a = true := by
        rw [leP_iff] at *
        omega
      simp [this]) ps
theorem rds_mem {K : PySem.W.Frag} {av : Addr → Prop} {H : Hp} {f : V → PyData} : ∀ {xs : List V}, (∀ x ∈ xs, RD K av H x (f x)) → RDs K av H xs (xs.map f)
  | [], _ => .nil
  | x :: xs, h => .cons (h x List.mem_cons_self) (rds_mem fun y hy => h y (List.mem_cons_of_mem _ hy))
theorem rds_prs {K : PySem.W.Frag} {av : Addr → Prop} {H : Hp} {k : V → Int × Int} : ∀ {xs : List V} {ps : List (Int × Int)}, RDs K av H xs (ps.map mkP) → (∀ x ∈ xs, ∀ p, RD K av H x (mkP p) → p = k x) → ps = xs.map k
  | _, [], h, _ => by cases h; rfl
  | _, p :: ps, h, f => by
    cases h with
    | cons h1 h2 =>
      rw [List.map_cons, ← rds_prs h2 fun x m => f x (List.mem_cons_of_mem _ m), ← f _ List.mem_cons_self p h1]
theorem rds_ex {K : PySem.W.Frag} {av : Addr → Prop} {H : Hp} : ∀ {xs : List V} {ps : List (Int × Int)}, RDs K av H xs (ps.map mkP) → ∀ x ∈ xs, ∃ p, RD K av H x (mkP p)
  | _, [], h, x, m => by cases h; cases m
  | _, p :: ps, h, x, m => by
    cases h with
    | cons h1 h2 =>
      rcases List.mem_cons.mp m with e | m
      · exact ⟨p, e ▸ h1⟩
      · exact rds_ex h2 x m
theorem rd_pair {K : PySem.W.Frag} {av : Addr → Prop} {H : Hp} {x : V} {p : Int × Int} (h : RD K av H x (mkP p)) : ∃ t, x = .ref t ∧ SqT K H t [.int p.1, .int p.2] := by
  cases h with
  | tup h1 h2 =>
    cases h2 with
    | cons a b =>
      cases b with
      | cons c d =>
        cases d
        cases a
        cases c
        exact ⟨_, rfl, h1.sq⟩
def rSrtD (K : PySem.W.Frag) : List V → Hp → VK → Prop := fun vs H Q => ∃ (a : Addr) (xs : List V) (ps : List (Int × Int)) (av : Addr → Prop), vs = [V.ref a] ∧ SqL K H a xs ∧ RDs K av H xs (ps.map mkP) ∧
  ∀ ys p, RDs K av H ys ((srtP ps).map mkP) → H p = none → Q (.ref p) (upd H p (.lst ys))
section
variable {X : Cx}
theorem cr_srtD : CallR X (.builtin "sorted") (rSrtD X.K) := by
  intro pins s σ H vs us Q I r h
  obtain ⟨a, xs, ps, av, rfl, hs, hr, q⟩ := h
  obtain ⟨its, rv, hl, hz⟩ := I.list hs
  obtain ⟨u, rfl, ru⟩ := vals1 r
  obtain rfl : u = Value.ref a := ru
  have ex := rds_ex hr
  obtain ⟨k, hk⟩ : ∃ k : V → Int × Int, ∀ x ∈ xs, RD X.K av H x (mkP (k x)) := by
    classical
    refine ⟨fun x => if h : ∃ p, RD X.K av H x (mkP p) then h.choose else (0, 0), fun x m => ?_⟩
    have h := ex x m
    show RD X.K av H x (mkP (if h : ∃ p, RD X.K av H x (mkP p) then h.choose else (0, 0)))
    rw [dif_pos h]
    exact h.choose_spec
  have fn : ∀ x ∈ xs, ∀ p, RD X.K av H x (mkP p) → p = k x := fun x m p g => by
    obtain ⟨t, e, c⟩ := rd_pair g
    obtain ⟨t', e', c'⟩ := rd_pair (hk x m)
    rw [e] at e'
    cases e'
    have := I.tuple_inj c c'
    injection this with a b
    injection b with b
    injection a with a
    injection b with b
    exact Prod.ext a b
  have ek := rds_prs hr fn
  obtain ⟨e1, e2⟩ := refs_back rv fun x m => by
    obtain ⟨t, e, _⟩ := rd_pair (hk x m)
    exact ⟨t, e⟩
  refine SrtO.sorted_pairsO (k := fun u => k (backV u)) hl.isList (by rw [← rv.length]; exact hz) (fun v hv => ?_) fun h' d out h1 h2 kp hd hn => ?_
  · obtain ⟨t, rfl⟩ := e2 v hv
    have hm : V.ref t ∈ xs := by rw [e1]; exact List.mem_map.mpr ⟨_, hv, rfl⟩
    obtain ⟨t', e, ht⟩ := rd_pair (hk _ hm)
    cases e
    obtain ⟨its2, r2, ⟨o, ho, hc, n, hd⟩, _⟩ := I.tuple ht
    obtain ⟨u1, u2, rfl, ri, rj⟩ := vals2 r2
    obtain ⟨t1, rfl⟩ := ri
    obtain ⟨t2, rfl⟩ := rj
    exact ⟨t, o, t1, t2, n, rfl, ho, hc, hd⟩
  · have h3 : ∀ u ∈ out, ∃ a, u = Value.ref a := fun u hu => e2 u (h2.perm.mem_iff.mp hu)
    obtain ⟨n, hn⟩ := hn
    have hb : SrtO.Stb (ltP k) (out.map backV) xs := by
      rw [e1]
      exact SrtO.Stb.map (ltP_swo k) backV h2
    have hs2 : SrtO.Srtd (ltP k) (out.map backV) := SrtO.srtd_map h1
    refine ⟨.ref d, upd H d (.lst (out.map backV)), I.laid (t' := s.toks) kp hd ⟨?_, out, n, vals_back h3, hn⟩, rfl, q _ d ?_ (I.hok.fresh hd)⟩
    · rw [hb.len]
      exact hz
    · have e4 : (out.map backV).map k = srtP ps := by
        refine List.Perm.eq_of_pairwise (le := fun p q => leP p q = true) (fun a b _ _ => leP_anti) ?_ (srtP_sorted ps) ?_
        · rw [List.pairwise_map]
          refine hs2.imp fun {u v} (g : ltP k v u = false) => ?_
          show (!SrtO.lexB (k v) (k u)) = true
          rw [show SrtO.lexB (k v) (k u) = false from g]
          rfl
        · refine List.Perm.trans ?_ (srtP_perm ps).symm
          rw [ek]
          exact hb.perm.map k
      rw [← e4, List.map_map]
      exact rds_mem fun x m => hk x (hb.perm.mem_iff.mp m)
end
section
variable {X : Cx} {W : WX} {C : Cn} {a b : Expr} {sr : SN} {sa sb : SE} {pos : Pos}
def srtOf : List PyData → Option (List PyData)
  | [.list es] => (prs es).map fun ps => (srtP ps).map mkP
  | _ => none
def sSrtP (sr : SN) : SN := fun S => (sr S).bind fun ds S1 => R.opt (srtOf ds) S1
theorem n_srtP {x : Str} {p : Pos} (hg : Gl X x) (hm : X.mg x = none) (hv : bootBuiltins x = some (.builtin "sorted")) (ha : PA X [a] (xA X.K X.mg W C sr)) (hn : x ≠ "__name__" := by decide) (hdb : (x == ("__debug__" : Str)) = false := by decide)
    (he : starEach (a :: []) X.env = (false, eval a X.env) :: starEach [] X.env := by rfl) (hpl : (backTo pos (starEach [] X.env)).any (·.1) = false := by rfl) : PE X (.Call (.Name x p) [a] [] pos) (xN X.K X.mg W C (sSrtP sr)) :=
  pe_imp (pe_callB cr_srtD hg hm hv ha hn hdb he hpl) fun σ H Q ⟨ow, S, r, q⟩ => seq early_N r q fun S1 ds vs H1 r1 x1 rd k => by
    cases e : srtOf ds with
    | none => rw [e] at k; exact k.elim
    | some zs =>
      rw [e] at k
      match ds, rd, e with
      | [.list es], .cons (.lst h1 h2) .nil, e =>
        cases e1 : prs es with
        | none => rw [show srtOf [.list es] = (prs es).map fun ps => (srtP ps).map mkP from rfl, e1] at e; cases e
        | some ps =>
          rw [show srtOf [.list es] = (prs es).map fun ps => (srtP ps).map mkP from rfl, e1] at e
          cases e
          rw [prs_map e1] at h2
          exact ⟨_, _, ps, _, rfl, h1.sq, h2, fun ys l hy nl => pst_same r1 k (same_new nl) ⟨l, _, H1, rfl, nl, rfl, Ext.refl _ _, r1, hy⟩⟩
/-! ### x is None, x is True -/
def isN : PyData → Bool
  | .none => true
  | _ => false
def isV (d e : PyData) : Option Bool := match e with
  | .none => some (isN d)
  | .bool b => match d with
    | .bool a => some (decide (a = b))
    | _ => none
  | _ => none
def gIs (d e : PyData) : Option PyData := (isV d e).map .bool
def gIsNot (d e : PyData) : Option PyData := (isV d e).map fun b => .bool (!b)
def rIsB : R2 := fun x y H Q => ∃ a b, x = .bl a ∧ y = .bl b ∧ Q (.bl (decide (a = b))) H
def rIsNotB : R2 := fun x y H Q => ∃ a b, x = .bl a ∧ y = .bl b ∧ Q (.bl (!decide (a = b))) H
def rIsW : R2 := fun x y H Q => rIsN x y H Q ∨ rIsB x y H Q
def rIsNotW : R2 := fun x y H Q => rNotN x y H Q ∨ rIsNotB x y H Q
theorem op_isW : OpR X (compareOp .Is) rIsW := op_isN1.or op_is_bl
theorem op_isNotW : OpR X (compareOp .IsNot) rIsNotW := op_notN1.or op_isnot_bl
theorem rd_nonD {K : PySem.W.Frag} {av : Addr → Prop} {H : Hp} {x : V} {d : PyData} (h : RD K av H x d) : decide (x = .non) = isN d := by
  cases h <;> simp [isN, scrD]
theorem od_isW {K : PySem.W.Frag} : OpD K rIsW gIs := fun av H x y d e z Q tr rx ry g q => by
  cases ry with
  | non =>
    cases g
    exact .inl ⟨rfl, by rw [rd_nonD rx]; exact q _ H (Same.refl H) (.bl _)⟩
  | bl b =>
    cases rx with
    | bl a => cases g; exact .inr ⟨a, b, rfl, rfl, q _ H (Same.refl H) (.bl _)⟩
    | _ => cases g
  | _ => cases g
theorem od_isNotW {K : PySem.W.Frag} : OpD K rIsNotW gIsNot := fun av H x y d e z Q tr rx ry g q => by
  cases ry with
  | non =>
    cases g
    exact .inl ⟨rfl, by rw [rd_nonD rx]; exact q _ H (Same.refl H) (.bl _)⟩
  | bl b =>
    cases rx with
    | bl a => cases g; exact .inr ⟨a, b, rfl, rfl, q _ H (Same.refl H) (.bl _)⟩
    | _ => cases g
  | _ => cases g
end
end Ds
end

section
set_option Elab.async false
set_option linter.all false
set_option maxRecDepth 100000
set_option maxHeartbeats 4000000
namespace Ds
open PySem PySem.Spec PyProof.Rows L2
section
variable {X : Cx} {W : WX} {C : Cn} {e : Expr} {es : List Expr} {sa : SE} {sr : SN} {p pos : Pos}
/-! ### *e among items -/
def sStarA (sa : SE) (sr : SN) : SN := fun S => (sa S).bind fun d S1 => match seqOf [d] with
  | some xs => (sr S1).bind fun ds S2 => .ok (xs ++ ds) S2
  | none => .no
theorem RDs.app {K : PySem.W.Frag} {av : Addr → Prop} {H : Hp} : ∀ {vs ws : List V} {ds fs : List PyData}, RDs K av H vs ds → RDs K av H ws fs → RDs K av H (vs ++ ws) (ds ++ fs)
  | _, _, _, _, .nil, h => h
  | _, _, _, _, .cons a r, h => .cons a (RDs.app r h)
theorem a_star (he : PE X e (xE X.K X.mg W C sa)) (hr : PA X es (xA X.K X.mg W C sr)) (hs : starEach (.Starred e p :: es) X.env = (true, eval e X.env) :: starEach es X.env := by rfl) : PA X (.Starred e p :: es) (xA X.K X.mg W C (sStarA sa sr)) :=
  pa_imp (StX.pa_star he hr hs) fun σ H Q ⟨ow, S, rl, q⟩ => seq early_A rl q fun S1 d x H1 r1 x1 rd k1 => by
    match d, rd, k1 with
    | .tuple xs, .tup h1 h2, k1 => exact ⟨_, _, rfl, .inl h1.sq, seq early_A r1 k1 fun S2 ds vs H2 r2 x2 rds k2 => pst_ok r2 k2 (RDs.app (RDs.mono x2 (Grow.refl _ _) xs _ h2) rds)⟩
    | .list xs, .lst h1 h2, k1 => exact ⟨_, _, rfl, .inr h1.sq, seq early_A r1 k1 fun S2 ds vs H2 r2 x2 rds k2 => pst_ok r2 k2 (RDs.app (RDs.mono x2 (Grow.refl _ _) xs _ h2) rds)⟩
@[simp] theorem r_sStarA {S : En} : sStarA sa sr S = ((sa S).bnd fun d S1 => match seqOf [d] with
  | some xs => (sr S1).bnd fun ds S2 => .ok (xs ++ ds) S2
  | none => .no) := rfl
end
end Ds
end

section
set_option Elab.async false
set_option linter.all false
set_option maxRecDepth 100000
set_option maxHeartbeats 4000000
namespace Ds
open PySem PySem.Spec PyProof.Rows L2
/-! ### raise C('m'), C an own class over ValueError without an __init__ of its own -/
structure XC (K : PySem.W.Frag) (mg : Str → Option Value) (x : Str) (A : Addr) : Prop where
  g : mg x = some (.ref A)
  x : PySem.W.excIn K A [.type "ValueError", .type "Exception", .type "BaseException", .type "object"] "ValueError.__new__" = true
  k : PySem.W.keepIn K (.ref A) = true
  b : PySem.W.subIn K (.ref A) (.type "BaseException") = some true
  t : PySem.W.typeIn K (.ref A) = some (.type "type")
def sRaise (c : Str) : SS := fun S => .ex c S
@[simp] theorem r_sRaise {c : Str} {S : En} : sRaise c S = .ex c S := rfl
section
variable {X : Cx} {W : WX} {C : Cn} {x m : Str} {A : Addr} {j : Nat} {p p2 pos pos' : Pos}
theorem s_raise (hc : X.calm = true) (tk : Takes X W) (T : XC X.K X.mg x A) (hg : Gl X x) (hdb : (x == ("__debug__" : Str)) = false := by decide) :
    PS X (.Raise (some (.Call (.Name x p) [.Constant (.str m) j p2] [] pos)) none pos') (xS X.K X.mg W C (sRaise x)) :=
  ps_imp (ps_raise hc tk (pmk_own PySem.F.excBase_ValueError T.x T.g T.k (raises_own T.b T.t) hg hdb)) fun D σ H ⟨ow, S, r, q⟩ => by
    have z := q ow σ H r (Ext.refl _ _) (Grow.refl _ _)
    have e : clOf X.mg x = .ref A := by unfold clOf; rw [T.g]; rfl
    rw [e] at z
    exact z
end
end Ds
end

section
set_option Elab.async false
set_option linter.all false
set_option maxRecDepth 100000
set_option maxHeartbeats 4000000
namespace Ds
open PySem PySem.Spec PyProof.Rows L2
/-! ### a caught error that is kept beyond its except suite -/
section
variable {X : Cx} {pins : List (Addr × Obj)} {σ : L2.St} {H : Hp} {s : Shared} {a : Addr} {oe : Obj}
/-- the suite's pin is handed on -/
theorem Inv.keepPin (I : Inv (X.suite a ((a, oe) :: (X.pn ++ pins))) [] σ H s) (ok : X.Ok) : Inv X ((a, oe) :: pins) σ H s := by
  refine ⟨ok, I.os, I.bare, I.base, I.loc, I.cell, I.free, I.freeC, fun p hp => I.pin p ?_, I.hok, I.len⟩
  rw [List.append_nil]
  show p ∈ (a, oe) :: (X.pn ++ pins)
  rw [List.mem_append, List.mem_cons] at hp
  rw [List.mem_cons, List.mem_append]
  rcases hp with h | h | h
  · exact .inr (.inl h)
  · exact .inl h
  · exact .inr (.inr h)
/-- a pinned thing that came after the beginning is told of -/
theorem Inv.tell (I : Inv X ((a, oe) :: pins) σ H s) (n0 : X.s_0.heap.get? a = none) (nC : ∀ v, oe.data ≠ .cell v) (dj : ∀ p ∈ X.pn ++ pins, p.1 ≠ a) : Inv X pins σ (upd H a (kepO a oe)) s := by
  have P := I.pin (a, oe) (by simp)
  obtain ⟨pa, pn, pl, pf, pc⟩ := P
  have pa : s.heap.get? a = some oe := pa
  have pn : H a = none := pn
  have ne0 : ∀ {b : Addr} {o : Obj}, X.s_0.heap.get? b = some o → b ≠ a := fun e q => by rw [q, n0] at e; cases e
  have un : ∀ {b : Addr} {o : HO}, H b = some o → upd H a (kepO a oe) b = some o := fun {b o} e => by
    rw [upd_ne fun q => by rw [q, pn] at e; cases e]; exact e
  refine ⟨I.ok, I.os, I.bare, ⟨fun b o e => I.base.keep b o e, fun b o e => I.base.slot b o e, fun b o e n x => ?_, fun b o e => I.base.there b o e, fun b xs e => un (I.base.tups b xs e), fun b o u e => un (I.base.frzs b o u e), fun b ps e => ?_⟩, I.loc, I.cell, ?_, fun x c e => ?_, fun p hp => ?_, fun b o e => ?_, I.len⟩
  · rw [upd_ne (ne0 e)]; exact I.base.free b o e n x
  · obtain ⟨m, q⟩ := I.base.tbls b ps e
    exact ⟨m, un q⟩
  · rw [upd_ne fun q => pl q.symm]; exact I.free
  · obtain ⟨v, oc, z1, z2⟩ := I.cell x c e
    rw [upd_ne fun q => ?_]
    · exact I.freeC x c e
    · subst q
      rw [pa] at z1
      cases z1
      exact nC v z2
  · obtain ⟨q1, q2, q3, q4, q5⟩ := I.pin p (by
      rw [List.mem_append] at hp
      rcases hp with h | h
      · exact List.mem_append_left _ h
      · exact List.mem_append_right _ (List.mem_cons_of_mem _ h))
    exact ⟨q1, by rw [upd_ne (dj p hp)]; exact q2, q3, q4, q5⟩
  · by_cases ba : b = a
    · subst ba
      rw [upd_same] at e
      cases e
      exact ⟨pa, ⟨oe, pa⟩, fun h1 h2 z k => k _ z⟩
    · rw [upd_ne ba] at e
      refine (I.hok b o e).stay (fun c u _ q => q) (fun c q => un q) fun c xs q => un q
end
/-- the wish of the clause 'except x as n': its suite ends, and the error is told of behind it; slot i is n's -/
def wKeep (K : PySem.W.Frag) (c : Value) (i : Nat) (ts : Addr → Value → Option Addr → TS) (Wout : WX) (D : Ends) : WX := fun cls d σ H =>
  ∃ b, PySem.W.exmOne K cls c = some b ∧
    (b = true → ∀ a oe, H a = none → Zc cls d oe → (∃ vs, oe.data = .fields vs) → ts a cls d { nx := fun σ2 H2 => H2 a = none → D.nx (σ2.set i none) (upd H2 a (kepO a oe)), bk := fun _ _ => False, ct := fun _ _ => False, rt := fun _ _ => False } (σ.set i (some (.ref a))) H) ∧
    (b = false → Wout cls d σ H)
section
variable {X : Cx} {x n : Str} {c : Value} {i : Nat} {body suite : List Stmt} {b0 : Stmt} {np pos pos2 : Pos} {tb : WX → TS} {ts : Addr → Value → Option Addr → TS} {Wout : WX}
theorem ps_try_keep (hst : X.stack = X.env :: X.outer) (hfm : X.env.frame = some X.env.locals) (hex : X.ex = []) (hnd : X.N.Nodup) (hix : X.N[i]? = some n) (hlc : X.env.kindOf n = some .local) (hcl : Names X x c) (tk : Takes X Wout)
    (hbd : ∀ (W : WX) (pn : List (Addr × Obj)) (xe : Value → Shared → Prop), Takes (X.tr pn xe) W → PassesOwn (model X.prog X.w) X.A X.env xe → PSs (X.tr pn xe) body (tb W))
    (hsu : ∀ (a : Addr) (oe : Obj) (cls : Value) (d : Option Addr) (pn : List (Addr × Obj)), Zc cls d oe → (∃ vs, oe.data = .fields vs) → PSs (X.suite a ((a, oe) :: pn)) (b0 :: suite) (ts a cls d)) :
    PS X (.Try body [.ExceptHandler (some (.Name x np)) (some n) (b0 :: suite) pos2] [] [] pos) (fun D σ H => tb (wKeep X.K c i ts Wout D) D σ H) := by
  refine ⟨fun pins s σ H D I h => wpAny_Try_except ?_⟩
  have okX := I.ok
  have frE : X.A.frames = some (X.env :: X.outer) := okX.frames.trans (by rw [hst])
  refine wpAny_mono ((hbd (wKeep X.K c i ts Wout D) (X.pn ++ pins)
    (fun e u1 => wpAny (model X.prog X.w) X.A (noteFrame e X.env) (fun _ u2 => wpAny (model X.prog X.w) X.A (setFlight e none) (fun _ u3 => wpAny (model X.prog X.w) X.A
      (handleBy e X.env [.ExceptHandler (some (.Name x np)) (some n) (b0 :: suite) pos2]) (L2.SP X pins D) X.xe u3) X.xe u2) X.xe u1) (fun ev sv air => ?_) PassesOwn.looking).run [] s σ H D (I.toTry _) h) (fun fl t1 got => ?_) (fun _ _ z => z)
  · obtain ⟨a, B, t0, pins', τ, G, cls, d, rfl, JT, keepB, upA, sky, noA, osE, bareE, b, isB, yes, no⟩ := air
    have J : Inv X pins τ G t0 := JT.ofTry okX
    have sky2 : Sky B (X.env :: X.outer) a (Zc cls d) X.env.locals sv.heap := hst ▸ sky
    show wpAny _ X.A (noteFrame (.ref a) X.env) _ _ _
    refine Sky.land Zc.steady frE hfm sky2 fun k3 land3 up3 => ?_
    have J3 : Inv X pins τ G { sv with heap := k3 } := J.landed keepB land3.1 (upA.trans up3) osE bareE
    obtain ⟨o3, w3, get3, zc3, fld3⟩ := land3.there
    have outF : a ∉ frs (X.env :: X.outer) := fun hm => by
      obtain ⟨_, o4, get4, no4⟩ := land3.2.2.1.mem hm
      rw [get3] at get4
      cases get4
      exact no4 _ fld3
    have aL : a ≠ X.env.locals := fun z => outF (List.mem_filterMap.mpr ⟨X.env, by simp, by rw [hfm, z]⟩)
    have aF : a ∉ X.fs := fun hm => by
      obtain ⟨e, me, q⟩ := List.mem_filterMap.mp hm
      exact outF (List.mem_filterMap.mpr ⟨e, by simp [me], q⟩)
    have noB : B.get? a = none := land3.2.1
    have new0 : X.s_0.heap.get? a = none := by
      cases e : X.s_0.heap.get? a with
      | none => rfl
      | some o =>
        obtain ⟨o', e'⟩ := J.base.there a o e (by rw [hex]; simp)
        rw [keepB a o' e' (by rw [hst]; exact outF)] at noB
        cases noB
    have apart : ∀ p ∈ X.pn ++ pins, p.1 ≠ a := fun p hp q => by
      obtain ⟨g1, _⟩ := J.pin p hp
      rw [q] at g1
      rw [keepB a p.2 g1 (by rw [hst]; exact outF)] at noB
      cases noB
    have S3 := J3.suite get3 fld3 noA aL aF
    refine wpAny_handleBy_cons (codeAny_handlers_test ?_) (by intro q; cases q)
    have ty3 : PySem.W.Looks (model X.prog X.w) k3 (typeOf (.ref a)) cls := fun _ _ _ _ k q => wpAny_typeOf_ref (k _ _ get3) (zc3.1 ▸ q)
    have ask : ∀ {Q : Value → Shared → Prop} {E : Value → Shared → Prop}, Q c { sv with heap := k3 } → wpAny (model X.prog X.w) (X.A.mark (some (.ref a))) (eval (.Name x np) X.env) Q E { sv with heap := k3 } := fun {Q E} q => by
      obtain ⟨c1, c2, c3 | ⟨c3, c4, c5⟩⟩ := hcl
      · exact ld_glob (X := X.suite a ((a, o3) :: (X.pn ++ pins))) S3 c1 c3 q c2
      · exact ld_blt (X := X.suite a ((a, o3) :: (X.pn ++ pins))) S3 c1 c3 c4 q c5 c2
    refine ask ((PySem.W.exm_one (M := model X.prog X.w) J3.kIn ty3 isB).here ?_)
    cases b with
    | true =>
      refine codeAny_handlers_suite_as (HandSPX.lands_againZ land3 fun k4 land4 up4 => ?_)
      have J4 : Inv X pins τ G { sv with heap := k4 } := J.landed keepB land4.1 ((upA.trans up3).trans up4) osE bareE
      obtain ⟨o4, w4, get4, zc4, fld4⟩ := land4.there
      have S4 := J4.suite get4 fld4 noA aL aF
      refine store_ok (X := X.suite a ((a, o4) :: (X.pn ++ pins))) (v := .ref a) S4 hnd hix (.inl hlc) rfl (fun t5 S5 => ?_) (.inr hlc)
      refine wpAny_mono ((hsu a o4 cls d (X.pn ++ pins) zc4 ⟨_, fld4⟩).run [] t5 _ G _ S5 (yes rfl a o4 noA zc4 ⟨_, fld4⟩)) (fun fl t6 got => ?_) (fun _ _ z => z.elim)
      cases fl with
      | next =>
        obtain ⟨τ6, G6, S6, w6⟩ := got
        have a6 : G6 a = none := (S6.pin (a, o4) (by simp)).2.1
        have P6 : Inv X ((a, o4) :: pins) τ6 G6 t6 := Inv.keepPin S6 okX
        exact gone_ok P6 hnd hix hlc fun t7 J7 => ⟨_, _, Inv.tell J7 new0 (fun v q => by rw [fld4] at q; cases q) apart, w6 a6⟩
      | brk => exact let ⟨_, _, _, z⟩ := got; z.elim
      | cont => exact let ⟨_, _, _, z⟩ := got; z.elim
      | ret u => exact let ⟨_, _, _, _, _, z⟩ := got; z.elim
    | false =>
      show wpAny _ X.A (handleBy (.ref a) X.env []) _ _ _
      refine wpAny_handleBy_nil ?_
      obtain ⟨_, _, _, o5, w5, T5, oT5, l5, get5, zc5, fld5, at5, _⟩ := id land3
      unfold PySem.passOn
      refine wpAny_bind (wpAny_field get5 fld5 at5 ?_)
      rw [if_neg (by simp : ¬ ((Value.ref T5 == Value.none) = true))]
      have goOn : wpAny (model X.prog X.w) X.A (setFlight (.ref a) X.env.frame) (fun _ t4 => wpAny (model X.prog X.w) X.A (throw (.ref a) : Sem Flow) (L2.SP X pins D) X.xe t4) X.xe { sv with heap := k3 } := by
        rw [hfm]
        refine HandSPX.setFlight_upZ land3 fun k4 held4 up4 => wpAny_throw (tk _ _ ?_)
        exact ⟨a, B, t0, pins, τ, G, cls, d, rfl, J, keepB, (upA.trans up3).trans up4, .inr (.inr (hst ▸ held4)), noA, osE, bareE, no rfl⟩
      first
        | exact wpAny_bind (wpAny_pure (wpAny_bind goOn))
        | exact wpAny_bind goOn
  · cases fl with
    | next => exact let ⟨τ, G, J, q⟩ := got; wpAny_execs_nil ⟨τ, G, J.ofTry okX, q⟩
    | brk => exact let ⟨τ, G, J, q⟩ := got; ⟨τ, G, J.ofTry okX, q⟩
    | cont => exact let ⟨τ, G, J, q⟩ := got; ⟨τ, G, J.ofTry okX, q⟩
    | ret u => exact let ⟨v, τ, G, J, r, q⟩ := got; ⟨v, τ, G, J.ofTry okX, r, q⟩
end
end Ds
end

section
set_option Elab.async false
set_option linter.all false
set_option maxRecDepth 100000
set_option maxHeartbeats 4000000
namespace Ds
open PySem PySem.Spec PyProof.Rows L2
section
variable {K : PySem.W.Frag} {C : Cn} {ow : Ow} {S : En} {σ : L2.St} {H : Hp}
/-- a slot of which nothing is said -/
theorem Rl.setNil (r : Rl K C ow S σ H) {i : Nat} (hi : S[i]? = some .nil) (w : Option V) : Rl K C ow S (σ.set i w) H := by
  have ne : ∀ {j : Nat} {x : Sl}, S[j]? = some x → x ≠ .nil → (σ.set i w)[j]? = σ[j]? := fun {j x} e n => by
    refine List.getElem?_set_ne fun q => ?_
    subst q
    rw [hi] at e
    cases e
    exact n rfl
  refine ⟨by rw [List.length_set]; exact r.len, fun j d e => ?_, fun j ds e => ?_, r.ows, r.inj, r.frs, r.ios, r.iok, r.trk, r.ext, ?_⟩
  · rw [ne e (by simp)]
    exact r.val j d e
  · obtain ⟨a, vs, h1, h2, h3, h4⟩ := r.own j ds e
    refine ⟨a, vs, h1, ?_, h3, h4⟩
    cases q : S[j]? with
    | none => rw [q] at e; cases e
    | some x =>
      rw [ne q fun z => by rw [q, z] at e; cases e]
      exact h2
  · exact r.ns.move r.ns.big (fun _ _ e => e) (fun _ _ => rfl) (fun j dss e _ => ne e (by simp)) (fun _ _ _ _ _ e => e) (fun _ _ h => h) fun _ _ _ _ h => h
end
def isNil : Option Sl → Bool
  | some .nil => true
  | _ => false
theorem isNil_eq {o : Option Sl} (h : isNil o = true) : o = some .nil := by
  match o, h with
  | some .nil, _ => rfl
/-- try: s, except the classes of cs: slot j keeps the error; slot i is the clause's own name -/
def sTry (cs : List Str) (i j : Nat) (s : SS) : SS := fun S => match s S with
  | .ex c S' => if c ∈ cs ∧ noio S'[j]? = true ∧ isNil S'[i]? = true ∧ i ≠ j then .nx (S'.set j (.val (.dict [(.none, .str c)]))) else .no
  | r => r
/-- what the module and its classes must say -/
def Caught (K : PySem.W.Frag) (mg : Str → Option Value) (cB : Value) (cs : List Str) : Prop := ∀ c ∈ cs, ∃ D : Addr, mg c = some (.ref D) ∧ PySem.W.nsIn K mainGlobals c = some (some (.ref D)) ∧ PySem.W.exmOne K (.ref D) cB = some true ∧ ExcK K D
section
variable {X : Cx} {W : WX} {C : Cn} {x n : Str} {cB : Value} {i j : Nat} {body suite : List Stmt} {b0 : Stmt} {np pos pos2 : Pos} {s : SS} {cs : List Str}
theorem s_try (hT : Caught X.K X.mg cB cs) (hst : X.stack = X.env :: X.outer) (hfm : X.env.frame = some X.env.locals) (hex : X.ex = []) (hnd : X.N.Nodup) (hix : X.N[i]? = some n) (hlc : X.env.kindOf n = some .local) (hcl : Names X x cB) (tk : Takes X W)
    (hbd : ∀ (W : WX) (pn : List (Addr × Obj)) (xe : Value → Shared → Prop), Takes (X.tr pn xe) W → PSs (X.tr pn xe) body (xS X.K X.mg W C s))
    (hsu : ∀ (a : Addr) (oe : Obj) (pn : List (Addr × Obj)), PSs (X.suite a ((a, oe) :: pn)) (b0 :: suite) (tAsg (tVar i) (gName j))) :
    PS X (.Try body [.ExceptHandler (some (.Name x np)) (some n) (b0 :: suite) pos2] [] [] pos) (xS X.K X.mg W C (sTry cs i j s)) :=
  ps_imp (ps_try_keep (tb := fun W => xS X.K X.mg W C s) (ts := fun _ _ _ => tAsg (tVar i) (gName j)) hst hfm hex hnd hix hlc hcl tk (fun W pn xe t _ => hbd W pn xe t) fun a oe cls d pn _ _ => hsu a oe pn) fun D σ H ⟨ow, S, r, q⟩ => by
    refine ⟨ow, S, r, ?_⟩
    change sst X.K X.mg W C ow H D (match s S with
      | .ex c S' => if c ∈ cs ∧ noio S'[j]? = true ∧ isNil S'[i]? = true ∧ i ≠ j then .nx (S'.set j (.val (.dict [(.none, .str c)]))) else .no
      | r => r) at q
    cases e : s S with
    | nx S' => rw [e] at q; exact q
    | rt v S' => rw [e] at q; exact q
    | bk S' => rw [e] at q; exact q
    | ct S' => rw [e] at q; exact q
    | no => rw [e] at q; exact q
    | ex c S' =>
      rw [e] at q
      intro ow' σ' H' r1 x1 g1
      by_cases z : c ∈ cs ∧ noio S'[j]? = true ∧ isNil S'[i]? = true ∧ i ≠ j
      · have q2 : sst X.K X.mg W C ow H D (.nx (S'.set j (.val (.dict [(.none, .str c)])))) := by
          have q3 : sst X.K X.mg W C ow H D (if c ∈ cs ∧ noio S'[j]? = true ∧ isNil S'[i]? = true ∧ i ≠ j then .nx (S'.set j (.val (.dict [(.none, .str c)]))) else .no) := q
          rw [if_pos z] at q3
          exact q3
        obtain ⟨z1, z2, z3, z4⟩ := z
        obtain ⟨E, m1, m2, m3, m4⟩ := hT c z1
        have ec : clOf X.mg c = .ref E := by unfold clOf; rw [m1]; rfl
        have hi := isNil_eq z3
        rw [ec]
        refine ⟨true, m3, fun _ a oe na hz hf => ?_, fun w => by cases w⟩
        have il : i < σ'.length := by
          rw [← r1.len]
          exact (List.getElem?_eq_some_iff.mp hi).1
        refine ⟨.ref a, List.getElem?_set_self il, fun _ => ?_⟩
        have r3 := (r1.setNil hi (some (.ref a))).same (same_new (o := kepO a oe) na)
        have rd : RD X.K (av C ow') (upd H' a (kepO a oe)) (.ref a) (.dict [(.none, .str c)]) := .exc ⟨oe, E, upd_same, m2, hz, hf, m4⟩ (r1.fresh na)
        have r4 := r3.putV z2 rd
        have r5 := r4.setNil (i := i) (by rw [List.getElem?_set_ne (Ne.symm z4)]; exact hi) none
        exact q2 _ _ _ r5 (x1.trans (Grow.refl _ _) (Ext.same (same_new na))) (g1.trans x1 (grow_set fun b w => by cases w))
      · have q3 : sst X.K X.mg W C ow H D (if c ∈ cs ∧ noio S'[j]? = true ∧ isNil S'[i]? = true ∧ i ≠ j then .nx (S'.set j (.val (.dict [(.none, .str c)]))) else .no) := q
        rw [if_neg z] at q3
        exact q3.elim
end
end Ds
end

section
set_option Elab.async false
set_option linter.all false
set_option maxRecDepth 100000
set_option maxHeartbeats 4000000
namespace Ds
open PySem PySem.Spec PyProof.Rows L2
/-! ### isinstance of a kept error, one class or several -/
def excN : PyData → Option Str
  | .dict [(.none, .str c)] => some c
  | _ => none
def sIsX (f : Str → Option Bool) (sa : SE) : SE := fun S => (sa S).bind fun d S1 => R.opt (((excN d).bind f).map .bool) S1
@[simp] theorem r_sIsX {f : Str → Option Bool} {sa : SE} {S : En} : sIsX f sa S = ((sa S).bnd fun d S1 => R.opt (((excN d).bind f).map .bool) S1) := rfl
@[simp] theorem excN_some {c : Str} : excN (.dict [(.none, .str c)]) = some c := rfl
theorem excN_eq {d : PyData} {c : Str} (h : excN d = some c) : d = .dict [(.none, .str c)] := by
  unfold excN at h
  split at h
  · cases h; rfl
  · cases h
def tVs (vs : List V) : TA := fun _ H Q => Q vs H
section
variable {X : Cx} {W : WX} {C : Cn} {a b : Expr} {es : List Expr} {sa : SE} {v : V} {vs : List V} {u : Value} {us : List Value} {f : Str → Option Bool} {pos : Pos}
theorem pa_v0 : PA X [] (tVs []) := pa_imp pa_nil fun _ _ _ h => h
theorem pa_v (h : PE X a (tC v)) (r : PA X es (tVs vs)) (hs : starEach (a :: es) X.env = (false, eval a X.env) :: starEach es X.env := by rfl) : PA X (a :: es) (tVs (v :: vs)) := pa_imp (pa_cons h r hs) fun _ _ _ h => h
theorem e_isX {p : Pos} (hg : Gl X "isinstance") (hm : X.mg "isinstance" = none) (ha : PE X a (xE X.K X.mg W C sa)) (hb : PE X b (tC v)) (cl : ClsV v u)
    (hK : ∀ c z D, f c = some z → PySem.W.nsIn X.K mainGlobals c = some (some (.ref D)) → PySem.W.kitOne X.K (.ref D) u = some z)
    (h1 : starEach (a :: [b]) X.env = (false, eval a X.env) :: starEach [b] X.env := by rfl) (h2 : starEach (b :: []) X.env = (false, eval b X.env) :: starEach [] X.env := by rfl) (hpl : (backTo pos (starEach [b] X.env)).any (·.1) = false := by rfl) :
    PE X (.Call (.Name "isinstance" p) [a, b] [] pos) (xE X.K X.mg W C (sIsX f sa)) :=
  pe_imp (pe_callB call_isX hg hm (by decide +kernel) (pa_cons ha (pa_cons hb pa_nil h2) h1) (by decide) (by decide) h1 hpl) fun σ H Q ⟨ow, S, r, q⟩ => seq early_E r q fun S1 d y H1 r1 x1 rd k => by
    cases e : excN d with
    | none => rw [e] at k; exact k.elim
    | some c =>
      obtain rfl := excN_eq e
      rw [e, Option.bind_some] at k
      cases g : f c with
      | none => rw [g] at k; exact k.elim
      | some z =>
        rw [g] at k
        cases rd with
        | exc x h =>
          obtain ⟨oe, D, g1, g2, g3, g4, g5⟩ := x
          exact ⟨_, oe, D, v, u, z, rfl, g1, g3, g4, g5.c, cl, hK c z D g g2, pst_ok r1 k (.bl z)⟩
theorem e_isXT {p p2 : Pos} {x1} (hg : Gl X "isinstance") (hm : X.mg "isinstance" = none) (ha : PE X a (xE X.K X.mg W C sa)) (hb : PA X es (tVs vs)) (cl : Paired ClsV vs us) (hl : vs.length ≤ 1000)
    (hK : ∀ c z D, f c = some z → PySem.W.nsIn X.K mainGlobals c = some (some (.ref D)) → PySem.W.kitAny X.K (.ref D) us = some z)
    (h1 : starEach (a :: [.Tuple es x1 p2]) X.env = (false, eval a X.env) :: starEach [.Tuple es x1 p2] X.env := by rfl) (h2 : starEach (.Tuple es x1 p2 :: []) X.env = (false, eval (.Tuple es x1 p2) X.env) :: starEach [] X.env := by rfl) (hpl : (backTo pos (starEach [.Tuple es x1 p2] X.env)).any (·.1) = false := by rfl) :
    PE X (.Call (.Name "isinstance" p) [a, .Tuple es x1 p2] [] pos) (xE X.K X.mg W C (sIsX f sa)) :=
  pe_imp (pe_callB call_isXT hg hm (by decide +kernel) (pa_cons ha (pa_cons (pe_tup hb) pa_nil h2) h1) (by decide) (by decide) h1 hpl) fun σ H Q ⟨ow, S, r, q⟩ => seq early_E r q fun S1 d y H1 r1 x1 rd k => by
    cases e : excN d with
    | none => rw [e] at k; exact k.elim
    | some c =>
      obtain rfl := excN_eq e
      rw [e, Option.bind_some] at k
      cases g : f c with
      | none => rw [g] at k; exact k.elim
      | some z =>
        rw [g] at k
        cases rd with
        | @exc ad _ x h =>
          obtain ⟨oe, D, g1, g2, g3, g4, g5⟩ := x
          refine ⟨by rw [sizeLine_eq]; omega, fun tp np => ?_⟩
          exact ⟨ad, oe, D, tp, vs, us, z, rfl, upd_same, cl, by rw [upd_ne fun w => by rw [w, np] at g1; cases g1]; exact g1, g3, g4, g5.c, hK c z D g g2, pst_same r1 k (same_new np) (.bl z)⟩
end
end Ds
end

section
set_option Elab.async false
set_option linter.all false
set_option maxRecDepth 100000
set_option maxHeartbeats 4000000
namespace Ds
open PySem PySem.Spec PyProof.Rows L2
/-! ### all that a text's defs ask of the error classes: all = those that are raised, tst = those that are asked for, base = their own base, which ValueError bears -/
structure ErrF (K : PySem.W.Frag) (mg : Str → Option Value) (all tst : List Str) (base : Str) : Prop where
  c : ∀ x ∈ all, ∃ E, PySem.W.nsIn K mainGlobals x = some (some (.ref E)) ∧ XC K mg x E ∧ ExcK K E
  t : ∀ x ∈ tst, ∃ E, mg x = some (.ref E) ∧ ∀ c ∈ all, ∀ D, PySem.W.nsIn K mainGlobals c = some (some (.ref D)) → PySem.W.kitOne K (.ref D) (.ref E) = some (x == base || c == x)
  b : ∃ E, mg base = some (.ref E) ∧ ∀ c ∈ all, ∀ D, PySem.W.nsIn K mainGlobals c = some (some (.ref D)) → PySem.W.exmOne K (.ref D) (.ref E) = some true
  v : ∀ c ∈ all, ∀ D, PySem.W.nsIn K mainGlobals c = some (some (.ref D)) → PySem.W.kitOne K (.ref D) (.type "ValueError") = some true
def clsF (all : List Str) (base : Str) (xs : List Str) : Str → Option Bool := fun c => if c ∈ all then some (xs.any fun x => x == base || c == x) else none
def valF (all : List Str) : Str → Option Bool := fun c => if c ∈ all then some true else none
section
variable {X : Cx} {W : WX} {C : Cn} {all tst : List Str} {base : Str}
theorem ErrF.caught (F : ErrF X.K X.mg all tst base) {E : Addr} (hb : ∀ c ∈ all, ∀ D, PySem.W.nsIn X.K mainGlobals c = some (some (.ref D)) → PySem.W.exmOne X.K (.ref D) (.ref E) = some true) : Caught X.K X.mg (.ref E) all := fun c hc => by
  obtain ⟨D, h1, h2, h3⟩ := F.c c hc
  exact ⟨D, h2.g, h1, hb c hc D h1, h3⟩
theorem s_raiseF {x m : Str} {j : Nat} {p p2 pos pos' : Pos} (F : ErrF X.K X.mg all tst base) (hx : x ∈ all) (hc : X.calm = true) (tk : Takes X W) (hg : Gl X x) (hdb : (x == ("__debug__" : Str)) = false := by decide) :
    PS X (.Raise (some (.Call (.Name x p) [.Constant (.str m) j p2] [] pos)) none pos') (xS X.K X.mg W C (sRaise x)) := by
  obtain ⟨A, _, h, _⟩ := F.c x hx
  exact s_raise hc tk h hg hdb
theorem s_tryF {n : Str} {i j : Nat} {body suite : List Stmt} {b0 : Stmt} {np pos pos2 : Pos} {s : SS} (F : ErrF X.K X.mg all tst base) (hst : X.stack = X.env :: X.outer) (hfm : X.env.frame = some X.env.locals) (hex : X.ex = []) (hnd : X.N.Nodup) (hix : X.N[i]? = some n) (hlc : X.env.kindOf n = some .local) (hg : Gl X base) (hdb : (base == ("__debug__" : Str)) = false) (tk : Takes X W)
    (hbd : ∀ (W : WX) (pn : List (Addr × Obj)) (xe : Value → Shared → Prop), Takes (X.tr pn xe) W → PSs (X.tr pn xe) body (xS X.K X.mg W C s))
    (hsu : ∀ (a : Addr) (oe : Obj) (pn : List (Addr × Obj)), PSs (X.suite a ((a, oe) :: pn)) (b0 :: suite) (tAsg (tVar i) (gName j))) :
    PS X (.Try body [.ExceptHandler (some (.Name base np)) (some n) (b0 :: suite) pos2] [] [] pos) (xS X.K X.mg W C (sTry all i j s)) := by
  obtain ⟨E, h1, h2⟩ := F.b
  exact s_try (F.caught h2) hst hfm hex hnd hix hlc ⟨hg, hdb, .inl h1⟩ tk hbd hsu
variable {a : Expr} {sa : SE} {es : List Expr} {pos : Pos}
theorem clsF_one {x c : Str} {z : Bool} (h : clsF all base [x] c = some z) : c ∈ all ∧ z = (x == base || c == x) := by
  unfold clsF at h
  by_cases q : c ∈ all
  · rw [if_pos q] at h
    cases h
    exact ⟨q, by simp⟩
  · rw [if_neg q] at h; cases h
theorem e_isXo {x : Str} {p np : Pos} (F : ErrF X.K X.mg all tst base) (hx : x ∈ tst) (hg : Gl X "isinstance") (hm : X.mg "isinstance" = none) (ha : PE X a (xE X.K X.mg W C sa)) (hgx : Gl X x) (hdb : (x == ("__debug__" : Str)) = false)
    (h1 : starEach (a :: [.Name x np]) X.env = (false, eval a X.env) :: starEach [.Name x np] X.env := by rfl) (h2 : starEach (.Name x np :: []) X.env = (false, eval (.Name x np) X.env) :: starEach [] X.env := by rfl) (hpl : (backTo pos (starEach [.Name x np] X.env)).any (·.1) = false := by rfl) :
    PE X (.Call (.Name "isinstance" p) [a, .Name x np] [] pos) (xE X.K X.mg W C (sIsX (clsF all base [x]) sa)) := by
  obtain ⟨E, e1, e2⟩ := F.t x hx
  refine e_isX hg hm ha (pe_glob hgx e1 (show RelV (.ref E) (.ref E) from rfl) hdb) (.own E) (fun c z D h n => ?_) h1 h2 hpl
  obtain ⟨hc, rfl⟩ := clsF_one h
  exact e2 c hc D n
theorem e_isXv {p np : Pos} (F : ErrF X.K X.mg all tst base) (hg : Gl X "isinstance") (hm : X.mg "isinstance" = none) (hgx : Gl X "ValueError") (hmx : X.mg "ValueError" = none) (ha : PE X a (xE X.K X.mg W C sa))
    (h1 : starEach (a :: [.Name "ValueError" np]) X.env = (false, eval a X.env) :: starEach [.Name "ValueError" np] X.env := by rfl) (h2 : starEach (.Name "ValueError" np :: []) X.env = (false, eval (.Name "ValueError" np) X.env) :: starEach [] X.env := by rfl) (hpl : (backTo pos (starEach [.Name "ValueError" np] X.env)).any (·.1) = false := by rfl) :
    PE X (.Call (.Name "isinstance" p) [a, .Name "ValueError" np] [] pos) (xE X.K X.mg W C (sIsX (valF all) sa)) := by
  refine e_isX hg hm ha (pe_bltn (v := .ty "ValueError") hgx hmx (by decide +kernel) rfl) (.ty _) (fun c z D h n => ?_) h1 h2 hpl
  unfold valF at h
  by_cases q : c ∈ all
  · rw [if_pos q] at h
    cases h
    exact F.v c q D n
  · rw [if_neg q] at h; cases h
/-- the written tuple of classes -/
inductive Cls (X : Cx) (K : PySem.W.Frag) (all : List Str) (base : Str) : List Str → List Expr → Prop
  | nil : Cls X K all base [] []
  | cons {x : Str} {np : Pos} {xs : List Str} {es : List Expr} {E : Addr} : PE X (.Name x np) (tC (.ref E)) → (∀ c ∈ all, ∀ D, PySem.W.nsIn K mainGlobals c = some (some (.ref D)) → PySem.W.kitOne K (.ref D) (.ref E) = some (x == base || c == x)) → starEach (.Name x np :: es) X.env = (false, eval (.Name x np) X.env) :: starEach es X.env → Cls X K all base xs es → Cls X K all base (x :: xs) (.Name x np :: es)
theorem Cls.vals {xs : List Str} {es : List Expr} (h : Cls X X.K all base xs es) : ∃ vs us, PA X es (tVs vs) ∧ Paired ClsV vs us ∧ vs.length = xs.length ∧ ∀ c ∈ all, ∀ D, PySem.W.nsIn X.K mainGlobals c = some (some (.ref D)) → PySem.W.kitAny X.K (.ref D) us = some (xs.any fun x => x == base || c == x) := by
  induction h with
  | nil => exact ⟨[], [], pa_v0, .nil, rfl, fun _ _ _ _ => rfl⟩
  | @cons x np xs es E h1 h2 h3 _ ih =>
    obtain ⟨vs, us, a1, a2, a3, a4⟩ := ih
    refine ⟨.ref E :: vs, .ref E :: us, pa_v h1 a1 h3, .cons (.own E) a2, by simp [a3], fun c hc D n => ?_⟩
    rw [List.any_cons]
    exact kitAny_cons (h2 c hc D n) (fun z => by rw [z, Bool.false_or]; exact a4 c hc D n) fun z => by rw [z, Bool.true_or]
theorem cls_one {x : Str} {np : Pos} {xs : List Str} {es : List Expr} (F : ErrF X.K X.mg all tst base) (hx : x ∈ tst) (hgx : Gl X x) (hdb : (x == ("__debug__" : Str)) = false) (r : Cls X X.K all base xs es) (hs : starEach (.Name x np :: es) X.env = (false, eval (.Name x np) X.env) :: starEach es X.env := by rfl) : Cls X X.K all base (x :: xs) (.Name x np :: es) := by
  obtain ⟨E, e1, e2⟩ := F.t x hx
  exact .cons (pe_glob hgx e1 (show RelV (.ref E) (.ref E) from rfl) hdb) e2 hs r
theorem e_isXs {p p2 : Pos} {x1} {xs : List Str} (hg : Gl X "isinstance") (hm : X.mg "isinstance" = none) (ha : PE X a (xE X.K X.mg W C sa)) (cl : Cls X X.K all base xs es) (hl : xs.length ≤ 1000)
    (h1 : starEach (a :: [.Tuple es x1 p2]) X.env = (false, eval a X.env) :: starEach [.Tuple es x1 p2] X.env := by rfl) (h2 : starEach (.Tuple es x1 p2 :: []) X.env = (false, eval (.Tuple es x1 p2) X.env) :: starEach [] X.env := by rfl) (hpl : (backTo pos (starEach [.Tuple es x1 p2] X.env)).any (·.1) = false := by rfl) :
    PE X (.Call (.Name "isinstance" p) [a, .Tuple es x1 p2] [] pos) (xE X.K X.mg W C (sIsX (clsF all base xs) sa)) := by
  obtain ⟨vs, us, a1, a2, a3, a4⟩ := cl.vals
  refine e_isXT hg hm ha a1 a2 (by omega) (fun c z D h n => ?_) h1 h2 hpl
  unfold clsF at h
  by_cases q : c ∈ all
  · rw [if_pos q] at h
    cases h
    exact a4 c q D n
  · rw [if_neg q] at h; cases h
end
end Ds
end

section
set_option Elab.async false
set_option linter.all false
set_option maxRecDepth 100000
set_option maxHeartbeats 4000000
namespace Ds
open PySem PySem.Spec PyProof.Rows L2
/-! ### divmod -/
section
variable {X : Cx} {K : PySem.W.Frag}
def rDM (H : Hp) (i j : Int) (Q : VK) : Prop := CDivP i j ∧ NT H [.int (i / j), .int (i % j)] Q
theorem call_divF : CallR X (.builtin "divmod") (fun xs H Q => ∃ i j, xs = [.int i, .int j] ∧ rDM H i j Q) := by
  intro pins s σ H xs us Q I r h
  obtain ⟨i, j, rfl, ⟨h1, h2⟩, q⟩ := h
  obtain ⟨u, w', rfl, ⟨t, rfl⟩, ⟨t', rfl⟩⟩ := vals2 r
  refine divmod_int (by omega) ?_ (.inl h2)
  rw [Int.fdiv_eq_ediv_of_nonneg i (by omega), Int.fmod_eq_emod_of_nonneg i (by omega)]
  exact q.run (tk := s.toks + 1 + 1) I (its := [.int (i / j) s.toks, .int (i % j) (s.toks + 1)]) (.cons ⟨_, rfl⟩ (.cons ⟨_, rfl⟩ .nil)) (by simp only [List.length_cons, List.length_nil]; rw [sizeLine_eq]; decide)
def cDM (i j : Int) : Bool := decide (0 < j) && decide (Builtin.Int.intBits i ≤ Builtin.Int.intBits j + 4000)
def gDM : List PyData → Option PyData
  | [.int i, .int j] => if cDM i j = true then some (.tuple [.int (i / j), .int (i % j)]) else none
  | _ => none
theorem cd_dm : CallD K (fun xs H Q => ∃ i j, xs = [.int i, .int j] ∧ rDM H i j Q) gDM := fun av H xs ds z Q tr r g q => by
  match ds, r, g with
  | [.int i, .int j], .cons (.int _) (.cons (.int _) .nil), g =>
    by_cases c : cDM i j = true
    · rw [show gDM [.int i, .int j] = if cDM i j = true then some (.tuple [.int (i / j), .int (i % j)]) else none from rfl, if_pos c] at g
      cases g
      unfold cDM at c
      rw [Bool.and_eq_true, decide_eq_true_eq, decide_eq_true_eq] at c
      exact ⟨i, j, rfl, divp_ok c.1 c.2, fun l o nl d c => q _ _ (same_new nl) (rd_newT tr (.cons (.int _) (.cons (.int _) .nil)) nl d c)⟩
    · rw [show gDM [.int i, .int j] = if cDM i j = true then some (.tuple [.int (i / j), .int (i % j)]) else none from rfl, if_neg c] at g
      cases g
end
end Ds
namespace Ds
open PySem PySem.Spec PyProof.Rows L2
/-! ### l.count(x), flat items -/
section
variable {X : Cx}
theorem cnt_vals {y : V} : ∀ {ys : List V} {its : List Value}, Vals ys its → ys.all flatV = true → its.countP (eqU y) = ys.countP fun z => eqV z y
  | _, _, .nil, _ => rfl
  | _, _, .cons a r, f => by
    rw [List.all_cons, Bool.and_eq_true] at f
    have ih := cnt_vals (y := y) r f.2
    rw [List.countP_cons, List.countP_cons, ih, eqU_of a f.1]
def rCntF (K : PySem.W.Frag) : V → List V → Hp → VK → Prop := fun x xs H Q => ∃ (a : Addr) (ys : List V) (y : V), x = V.ref a ∧ xs = [y] ∧ SqL K H a ys ∧ flatV y = true ∧ ys.all flatV = true ∧ Q (.int ((ys.countP fun z => eqV z y) : Nat)) H
theorem mt_cntF : MtR X "list.count" (rCntF X.K) := by
  intro pins s σ H x xs v us Q I rx rxs h
  obtain ⟨a, ys, y, rfl, rfl, hs, fy, fys, q⟩ := h
  cases rx
  cases rxs with
  | cons ry rt =>
    rename_i uy ut
    cases rt
    obtain ⟨its, rv, ⟨⟨cls, dd, data, sl⟩, n, ho, hc, hdn, hd⟩, hlen⟩ := I.list hs
    simp only at hc hd
    subst hc hd
    refine call_meets PySem.F.slot_list_count ⟨_, ho, rfl⟩ PySem.F.entry_list_count (PySem.F.args_list_count_2 _ _) (SeqAt.list_countAt a its.toArray n dd sl uy (eqU y)) ⟨ho, fun w hw => mem_eqAt ry fy rv fys w (by simpa using hw), ?_⟩
    refine ⟨.int ((ys.countP fun z => eqV z y) : Nat), H, I.tok _, ⟨s.toks, ?_⟩, q⟩
    show Value.int ((its.toArray.toList.countP (eqU y) : Nat) : Int) s.toks = Value.int ((ys.countP fun z => eqV z y : Nat) : Int) s.toks
    rw [show its.toArray.toList = its from rfl, cnt_vals rv fys]
end
section
variable {X : Cx} {W : WX} {C : Cn} {a b c : Expr} {sa sb : SE}
def gCnt (ds : List PyData) (d : PyData) : Option PyData := if flatD d = true ∧ ds.all flatD = true then some (.int ((ds.countP fun z => PyData.eqv z d) : Nat)) else none
theorem cnt_rds {K : PySem.W.Frag} {av : Addr → Prop} {H : Hp} {v : V} {d : PyData} (h : RD K av H v d) (f : flatD d = true) : ∀ {vs : List V} {ds : List PyData}, RDs K av H vs ds → ds.all flatD = true → (vs.countP fun z => eqV z v) = ds.countP fun z => PyData.eqv z d
  | _, _, .nil, _ => rfl
  | _, _, .cons r t, g => by
    rw [List.all_cons, Bool.and_eq_true] at g
    rw [List.countP_cons, List.countP_cons, cnt_rds h f t g.2, eqv_rd r h g.1 f]
def sCntE (sa sb : SE) : SE := fun S => (sa S).bind fun e S1 => match e with
  | .list ds => (sb S1).bind fun d S2 => R.opt (gCnt ds d) S2
  | _ => .no
theorem e_cntE (hp : ∀ {u t : TE}, PE X a u → PE X b t → PE X c (tBM X.K "list" (rCntF X.K) u (tCons t tNil))) (ha : PE X a (xE X.K X.mg W C sa)) (hb : PE X b (xE X.K X.mg W C sb)) : PE X c (xE X.K X.mg W C (sCntE sa sb)) :=
  pe_imp (hp ha hb) fun σ H Q ⟨ow, S, r, q⟩ => seq early_E r q fun S1 e x H1 r1 x1 re k1 => by
    cases re with
    | lst h1 h2 =>
      refine ⟨.inl ⟨rfl, _, h1.sq⟩, seq early_E r1 k1 fun S2 d v H2 r2 x2 rv k => ?_⟩
      rename_i vs ds
      change pst X.K X.mg W C (relE X.K) ow σ H2 Q (R.opt (gCnt ds d) S2) at k
      by_cases f : flatD d = true ∧ ds.all flatD = true
      · rw [gCnt, if_pos f] at k
        have rds := RDs.mono x2 (Grow.refl _ _) _ _ h2
        refine ⟨_, vs, v, rfl, rfl, (LK.mono x2 (Grow.refl _ _) h1).sq, flat_rd rv f.1, flat_rds rds f.2, ?_⟩
        rw [cnt_rds rv f.1 rds f.2]
        exact pst_ok r2 k (.int _)
      · rw [gCnt, if_neg f] at k
        exact k.elim
    | _ => exact k1.elim
@[simp] theorem r_sCntE {S : En} : sCntE sa sb S = ((sa S).bnd fun e S1 => match e with
  | .list ds => (sb S1).bnd fun d S2 => R.opt (gCnt ds d) S2
  | _ => .no) := rfl
end
end Ds
end

section
set_option Elab.async false
set_option linter.all false
set_option maxRecDepth 100000
set_option maxHeartbeats 4000000
namespace Ds
open PySem PySem.Spec PyProof.Rows L2
/-! ### isinstance's facts out of those that k_is tells -/
section
variable {K : PySem.W.Frag} {D E : Addr} {T : String} {b : Bool}
theorem kit_of_sub (h1 : PySem.W.isClsIn K E = true) (h2 : PySem.W.typeIn K (.ref E) = some (.type "type")) (h3 : PySem.W.subIn K (.ref D) (.ref E) = some b) (h4 : PySem.W.subIn K (.ref E) (.ref E) = some true) : PySem.W.kitOne K (.ref D) (.ref E) = some b := by
  unfold PySem.W.kitOne
  by_cases e : D = E
  · subst e
    rw [h3] at h4
    rw [if_pos (beq_self_eq_true _), h4]
  · have n : ¬ (Value.ref D == Value.ref E) = true := fun z => e (Value.ref.inj (beq_iff_eq.mp z))
    rw [if_neg n]
    unfold PySem.W.kitCls
    have h1' : (PySem.W.clsIn K E).isSome = true := h1
    have c : ((PySem.W.clsIn K E).isSome && PySem.W.typeIn K (.ref E) == some (.type "type")) = true := by rw [h1', h2] <;> rfl
    simp only [c, if_true]
    exact h3
theorem kit_of_ty (hk : PySem.W.kitMeta T = true) (h : PySem.W.subIn K (.ref D) (.type T) = some b) : PySem.W.kitOne K (.ref D) (.type T) = some b := by
  unfold PySem.W.kitOne
  have n : ¬ (Value.ref D == Value.type T) = true := fun z => by
    have e := beq_iff_eq.mp z
    cases e
  rw [if_neg n]
  unfold PySem.W.kitCls
  simp only [hk, if_true]
  exact h
end
end Ds
end

section
set_option Elab.async false
set_option linter.all false
set_option maxRecDepth 100000
set_option maxHeartbeats 4000000
namespace Ds
open PySem PySem.Spec PyProof.Rows L2
/-! ### sorted(t) of a tuple or a list of texts -/
section
variable {prog : Program} {w : World} {A : Around} {E : Value → Shared → Prop} {s : Shared}
theorem gather_tup {l : Addr} {vs : List Value} {Q : List Value → Shared → Prop} (hl : IsTup s.heap l vs.toArray) (hz : vs.length ≤ sizeLine)
    (h : Q vs { s with heap := (s.heap.push (seqObj "list" #[] 0)).update s.heap.objs.size (Obj.mapSeq (· ++ vs.toArray)) }) : wpAny (model prog w) A (collect (.ref l)) Q E s := by
  obtain ⟨o, ho, hc, n, hd⟩ := id hl
  unfold collect
  refine wpAny_bind (wpAny_runValue (codeAny_builtin entry_proto_collect' (show wpAny _ _ (do again (.builtin "list.__iadd__" ⟨[← newList [], .ref l], []⟩)) _ _ s from ?_)))
  refine wpAny_bind (wpAny_newList (wpAny_pure ⟨Code.quiet_builtin _ (by decide +kernel), codeAny_builtin entry_list_iadd' (show wpAny _ _ (Builtin.List.listExtendWith (.ref s.heap.objs.size) (.ref l) (.ref s.heap.objs.size)) _ _ { s with heap := s.heap.push (seqObj "list" #[] 0) } from ?_)⟩))
  unfold Builtin.List.listExtendWith
  have hp : (s.heap.push (seqObj "list" #[] 0)).get? l = some o := Heap.get?_push_of_some _ ho
  refine wpAny_bind (wpAny_typeOf (T := "tuple") ⟨o, hp, hc⟩ ?_)
  rw [if_pos (by first | rfl | simp | decide)]
  refine wpAny_bind (listItems_at hp hd (wpAny_bind (listItems_at (xs := #[]) (n := 0) (Heap.get?_push_size _ rfl) rfl ?_)))
  rw [if_neg (by simp)]
  refine wpAny_bind (listUpdate_at (xs := #[]) (n := 0) (Heap.get?_push_size _ rfl) rfl (wpAny_pure ?_) (Nat.zero_le _) (by show (#[] ++ vs.toArray).size ≤ sizeLine + 1; simp only [Array.size_append, List.size_toArray, List.length_nil]; omega))
  show wpAny (model prog w) A (load s.heap.objs.size >>= fun o => match o.data with | .seq xs _ => pure xs.toList | _ => unsupported "internal:collect") Q E { s with heap := (s.heap.push (seqObj "list" #[] 0)).update s.heap.objs.size (Obj.mapSeq (· ++ vs.toArray)) }
  refine wpAny_bind (wpAny_load (get?_update_seq (Heap.get?_push_size _ rfl) _) (show wpAny _ _ (pure ((#[] : Array Value) ++ vs.toArray).toList) Q E _ from ?_))
  rw [show ((#[] : Array Value) ++ vs.toArray).toList = vs by simp]
  exact wpAny_pure h
theorem sorted_tupK {κ : KeyKind} (hO : κ.OneLt) {l : Addr} {vs : List Value} {Q : Value → Shared → Prop} (hl : IsTup s.heap l vs.toArray) (h0 : KeysOf κ (pairsOf vs)) (hkk : ∀ v₁ v₂ rest, vs = v₁ :: v₂ :: rest → keyKind' (v₁ :: v₂ :: rest).toArray = pure oneType') (hL : vs.length ≤ sizeLine)
    (h : ∀ st' : SortSt, (arrOf st').Perm (pairsOf vs) → SortedToK κ (arrOf st') (pairsOf vs).size → Q (.ref (s.heap.objs.size + 1)) { s with heap := sortedAll s.heap vs ((arrOf st').map (·.2)) }) : wpAny (model prog w) A (call (.builtin "sorted") [.ref l]) Q E s := by
  refine Calls.call_function_entry kind_sorted plain_sorted entry_sorted (args_sorted1 _) (show wpAny _ _ (Builtin.«sorted» _) _ _ _ from ?_)
  unfold Builtin.«sorted»
  refine wpAny_bind (m := checkCount "sorted" 1 1 _) (wpAny_pure (wpAny_bind (gather_tup hl hL (wpAny_bind (wpAny_newList ?_)))))
  have e1 : ((s.heap.push (seqObj "list" #[] 0)).update s.heap.objs.size (Obj.mapSeq (· ++ vs.toArray))).objs.size = s.heap.objs.size + 1 := by rw [Heap.size_update, size_push']
  have e2 : (((s.heap.push (seqObj "list" #[] 0)).update s.heap.objs.size (Obj.mapSeq (· ++ vs.toArray))).push (seqObj "list" vs.toArray 0)).get? (s.heap.objs.size + 1) = some (seqObj "list" vs.toArray 0) := by rw [← e1]; exact Heap.get?_push_size _ rfl
  change wpAny _ _ _ _ _ { s with heap := ((s.heap.push (seqObj "list" #[] 0)).update s.heap.objs.size (Obj.mapSeq (· ++ vs.toArray))).push (seqObj "list" vs.toArray 0) }
  rw [e1]
  refine wpAny_bind (wpAny_holding (wpAny_call_entry slot_list_sort ⟨_, e2, rfl⟩ entry_list_sort (list_sort_treeKAny hO e2 h0 hkk hL fun st' a1 a2 => ⟨_, rfl, wpAny_pure ⟨_, rfl, h st' a1 a2⟩⟩) (args_list_sort _)))
theorem sorted_tupS {l : Addr} {vs : List Value} {ss : List Str} {Q : Value → Shared → Prop} (hl : IsTup s.heap l vs.toArray) (hS : StrsAre vs ss) (hL : vs.length ≤ sizeLine)
    (h : ∀ (out : Array Value) (ss' : List Str), StrsAre out.toList ss' → ss'.Perm ss → sortedS ss' = true → Q (.ref (s.heap.objs.size + 1)) { s with heap := sortedAll s.heap vs out }) : wpAny (model prog w) A (call (.builtin "sorted") [.ref l]) Q E s :=
  sorted_tupK strKind_oneLt hl hS.keysOf (fun v₁ v₂ rest e => keyKind_strs (by rw [← e]; exact hS)) hL fun st' hp hs => let ⟨ss', h1, h2, h3⟩ := sorted_out_str hS hp hs; h _ ss' h1 h2 h3
end
/-! the order of texts -/
def leS (a b : Str) : Bool := !(ltCps b.cps.toList a.cps.toList)
theorem leS_iff {a b : Str} : leS a b = true ↔ a.cps.toList ≤ b.cps.toList := by
  unfold leS
  rw [ltCps_eq]
  simp
theorem leS_anti {a b : Str} (h : leS a b = true) (g : leS b a = true) : a = b := by
  rw [leS_iff] at h g
  have e := List.le_antisymm h g
  cases a; cases b
  simpa using e
def srtS (xs : List Str) : List Str := xs.mergeSort leS
theorem srtS_perm (xs : List Str) : (srtS xs).Perm xs := List.mergeSort_perm xs leS
theorem leS_trans {a b c : Str} (h : leS a b = true) (g : leS b c = true) : leS a c = true := by rw [leS_iff] at *; exact List.le_trans h g
theorem leS_total (a b : Str) : (leS a b || leS b a) = true := by
  rw [Bool.or_eq_true, leS_iff, leS_iff]
  exact List.le_total _ _
theorem srtS_sorted (xs : List Str) : (srtS xs).Pairwise (fun p q => leS p q = true) := List.pairwise_mergeSort (le := leS) (fun a b c h g => leS_trans h g) leS_total xs
theorem rising_pw : ∀ (l : List Str) (p : Str), risingS p l = true → (p :: l).Pairwise (fun p q => leS p q = true)
  | [], p, _ => List.pairwise_singleton _ _
  | x :: r, p, h => by
    have h' : leS p x = true ∧ risingS x r = true := by
      change (!ltCps x.cps.toList p.cps.toList && risingS x r) = true at h
      rw [Bool.and_eq_true] at h
      exact h
    have ih := rising_pw r x h'.2
    refine List.pairwise_cons.mpr ⟨fun y hy => ?_, ih⟩
    rcases List.mem_cons.mp hy with e | e
    · rw [e]; exact h'.1
    · exact leS_trans h'.1 ((List.pairwise_cons.mp ih).1 y e)
theorem sorted_pw : ∀ l : List Str, sortedS l = true → l.Pairwise (fun p q => leS p q = true)
  | [], _ => .nil
  | x :: r, h => rising_pw r x h
theorem srtS_eq {xs ys : List Str} (h : xs.Perm ys) : srtS xs = srtS ys :=
  List.Perm.eq_of_pairwise (le := fun p q => leS p q = true) (fun a b _ _ => leS_anti) (srtS_sorted _) (srtS_sorted _) ((srtS_perm xs).trans (h.trans (srtS_perm ys).symm))
theorem srtS_of {xs ys : List Str} (h : ys.Perm xs) (g : sortedS ys = true) : ys = srtS xs :=
  List.Perm.eq_of_pairwise (le := fun p q => leS p q = true) (fun a b _ _ => leS_anti) (sorted_pw _ g) (srtS_sorted _) (h.trans (srtS_perm xs).symm)
theorem srtS_inj {xs ys : List Str} (h : srtS xs = srtS ys) : xs.Perm ys := (srtS_perm xs).symm.trans (h ▸ srtS_perm ys)
def rSrtS (K : PySem.W.Frag) : List V → Hp → VK → Prop := fun vs H Q => ∃ (a : Addr) (xs : List Str), vs = [V.ref a] ∧ (SqL K H a (xs.map V.str) ∨ SqT K H a (xs.map V.str)) ∧ ∀ p, H p = none → Q (.ref p) (upd H p (.lst ((srtS xs).map V.str)))
section
variable {X : Cx}
theorem cr_srtS : CallR X (.builtin "sorted") (rSrtS X.K) := by
  intro pins s σ H vs us Q I r h
  obtain ⟨a, xs, rfl, hs, q⟩ := h
  rcases hs with hs | hs
  · obtain ⟨its, rv, hl, hz⟩ := I.list hs
    rw [Vals.ref1 r]
    refine sorted_strsAny hl.isList rv.strs (by rw [← rv.length]; exact hz) fun out ss' h1 h2 h3 => ?_
    obtain ⟨ep, he⟩ := sortedAll_at s.heap its out
    rw [srtS_of h2 h3] at h1
    have hlen : ((srtS xs).map V.str).length ≤ sizeLine := by rw [List.length_map] at hz ⊢; rw [(srtS_perm xs).length_eq]; exact hz
    exact ⟨.ref _, upd H (s.heap.objs.size + 1) (.lst ((srtS xs).map V.str)), I.laid (t' := s.toks) (fun _ _ => sortedAll_old) (Nat.le_succ _) ⟨hlen, out.toList, ep, vals_of_strs h1, he⟩, rfl, q _ (I.hok.fresh (Nat.le_succ _))⟩
  · obtain ⟨its, rv, hl, hz⟩ := I.tuple hs
    rw [Vals.ref1 r]
    refine sorted_tupS hl rv.strs (by rw [← rv.length]; exact hz) fun out ss' h1 h2 h3 => ?_
    obtain ⟨ep, he⟩ := sortedAll_at s.heap its out
    rw [srtS_of h2 h3] at h1
    have hlen : ((srtS xs).map V.str).length ≤ sizeLine := by rw [List.length_map] at hz ⊢; rw [(srtS_perm xs).length_eq]; exact hz
    exact ⟨.ref _, upd H (s.heap.objs.size + 1) (.lst ((srtS xs).map V.str)), I.laid (t' := s.toks) (fun _ _ => sortedAll_old) (Nat.le_succ _) ⟨hlen, out.toList, ep, vals_of_strs h1, he⟩, rfl, q _ (I.hok.fresh (Nat.le_succ _))⟩
end
section
variable {X : Cx} {W : WX} {C : Cn} {a b : Expr} {sr : SN} {sa sb : SE} {pos : Pos}
def srtSOf : List PyData → Option (List PyData)
  | [.list es] => (strsOf es).map fun ss => (srtS ss).map .str
  | [.tuple es] => (strsOf es).map fun ss => (srtS ss).map .str
  | _ => none
def sSrtS (sr : SN) : SN := fun S => (sr S).bind fun ds S1 => R.opt (srtSOf ds) S1
theorem rds_mkS {K : PySem.W.Frag} {av : Addr → Prop} {H : Hp} : ∀ ns : List Str, RDs K av H (ns.map V.str) (ns.map PyData.str)
  | [] => .nil
  | n :: ns => .cons (.str n) (rds_mkS ns)
theorem n_srtS {x : Str} {p : Pos} (hg : Gl X x) (hm : X.mg x = none) (hv : bootBuiltins x = some (.builtin "sorted")) (ha : PA X [a] (xA X.K X.mg W C sr)) (hn : x ≠ "__name__" := by decide) (hdb : (x == ("__debug__" : Str)) = false := by decide)
    (he : starEach (a :: []) X.env = (false, eval a X.env) :: starEach [] X.env := by rfl) (hpl : (backTo pos (starEach [] X.env)).any (·.1) = false := by rfl) : PE X (.Call (.Name x p) [a] [] pos) (xN X.K X.mg W C (sSrtS sr)) :=
  pe_imp (pe_callB cr_srtS hg hm hv ha hn hdb he hpl) fun σ H Q ⟨ow, S, r, q⟩ => seq early_N r q fun S1 ds vs H1 r1 x1 rd k => by
    cases e : srtSOf ds with
    | none => rw [e] at k; exact k.elim
    | some zs =>
      rw [e] at k
      match ds, rd, e with
      | [.list es], .cons (.lst h1 h2) .nil, e =>
        cases e1 : strsOf es with
        | none => rw [show srtSOf [.list es] = (strsOf es).map fun ss => (srtS ss).map .str from rfl, e1] at e; cases e
        | some ss =>
          rw [show srtSOf [.list es] = (strsOf es).map fun ss => (srtS ss).map .str from rfl, e1] at e
          cases e
          rw [strsOf_map e1] at h2
          have ev := h2.strs
          subst ev
          exact ⟨_, ss, rfl, .inl h1.sq, fun l nl => pst_same r1 k (same_new nl) ⟨l, _, H1, rfl, nl, rfl, Ext.refl _ _, r1, rds_mkS _⟩⟩
      | [.tuple es], .cons (.tup h1 h2) .nil, e =>
        cases e1 : strsOf es with
        | none => rw [show srtSOf [.tuple es] = (strsOf es).map fun ss => (srtS ss).map .str from rfl, e1] at e; cases e
        | some ss =>
          rw [show srtSOf [.tuple es] = (strsOf es).map fun ss => (srtS ss).map .str from rfl, e1] at e
          cases e
          rw [strsOf_map e1] at h2
          have ev := h2.strs
          subst ev
          exact ⟨_, ss, rfl, .inr h1.sq, fun l nl => pst_same r1 k (same_new nl) ⟨l, _, H1, rfl, nl, rfl, Ext.refl _ _, r1, rds_mkS _⟩⟩
@[simp] theorem r_sSrtS {sr : SN} {S : En} : sSrtS sr S = (sr S).bind fun ds S1 => R.opt (srtSOf ds) S1 := rfl
end
end Ds
end

section
set_option Elab.async false
set_option linter.all false
set_option maxRecDepth 100000
set_option maxHeartbeats 4000000
namespace Ds
open PySem PySem.Spec PyProof.Rows L2
/-! ### x, l = value, new list -/
section
variable {X : Cx} {W : WX} {C : Cn} {pos : Pos} {i j : Nat}
def sParVN (i j : Nat) (s1 : SE) (s2 : SN) : SS := fun S => (s1 S).st fun d S1 => (noEx (s2 S1)).st fun es S2 => match put i (.val d) S2 with
  | .nx S3 => put j (.own es) S3
  | _ => .no
theorem s_parVN {e1 e2 : Expr} {s1 : SE} {s2 : SN} {tgs : List Expr} {k2 pt2} (h1 : PE X e1 (xE X.K X.mg W C s1)) (h2 : PE X e2 (xN X.K X.mg W C s2))
    (hp : ∀ {t u : TE}, PE X e1 t → PE X e2 u → PS X (.Assign tgs (.Tuple [e1, e2] k2 pt2) pos) (tPar i j (tCons t (tCons u tNil)))) : PS X (.Assign tgs (.Tuple [e1, e2] k2 pt2) pos) (xS X.K X.mg W C (sParVN i j s1 s2)) :=
  ps_imp (hp h1 h2) fun D σ H ⟨ow, S, r, q⟩ => by
    change sst X.K X.mg W C ow H D ((s1 S).st fun d S1 => (noEx (s2 S1)).st fun es S2 => match put i (.val d) S2 with | .nx S3 => put j (.own es) S3 | _ => .no) at q
    refine ⟨ow, S, r, ?_⟩
    show pst X.K X.mg W C (relE X.K) ow σ H _ (s1 S)
    cases ea : s1 S with
    | no => rw [ea] at q; exact q
    | ex c S' => rw [ea] at q; exact fun H' r' x => q ow σ H' r' x (Grow.refl _ _)
    | ok d S1 =>
      rw [ea] at q
      rintro v H1 r1 x1 rd
      refine ⟨ow, S1, r1, ?_⟩
      show pst X.K X.mg W C (relN X.K) ow σ H1 _ (s2 S1)
      rw [st_ok] at q
      cases eb : s2 S1 with
      | no => rw [eb] at q; exact q
      | ex c S' => rw [eb] at q; exact q.elim
      | ok es S2 =>
        rw [eb, noEx_ok, st_ok] at q
        rintro w H2 r2 x2 ⟨b, ws, Hn, g1, g2, g3, g4, g5, g6⟩
        subst g1
        subst g3
        refine ⟨v, .ref b, rfl, ?_⟩
        unfold put at q
        by_cases hi : noio S2[i]? = true
        · simp only [if_pos hi] at q
          by_cases hj : noio (S2.set i (.val d))[j]? = true
          · simp only [if_pos hj] at q
            have rv := g5.putV hi (RD.mono g4 (Grow.refl _ _) d v rd)
            have lt1 : ∀ a, av C (owSet ow i none) a → av C ow a := fun a z => (av_set z).elim id fun z => by cases z
            have rb := rv.putN (i := j) hj g2 (rds_less g6 lt1)
            have ex : Ext (av C ow) H Hn := x1.trans (Grow.refl _ _) g4
            refine q _ _ _ rb ?_ ?_
            · exact ex.trans (Grow.refl _ _) (Ext.same (same_new g2))
            · exact Grow.trans (Grow.refl _ _) ex ((grow_set fun a z => by cases z).trans (Ext.refl _ _) (grow_set fun c z => by cases z; exact g2))
          · simp only [if_neg hj] at q
            exact q.elim
        · simp only [if_neg hi] at q
          exact q.elim
/-- the same, where a name is shared with a comprehension: by a made tuple -/
theorem s_parVNc {e1 e2 : Expr} {s1 : SE} {s2 : SN} {tgs : List Expr} {k2 pt2} (h1 : PE X e1 (xE X.K X.mg W C s1)) (h2 : PE X e2 (xN X.K X.mg W C s2))
    (hp : ∀ {t u : TE}, PE X e1 t → PE X e2 u → PS X (.Assign tgs (.Tuple [e1, e2] k2 pt2) pos) (tAsg (tTup (tCons t (tCons u tNil))) (gTup X.K 2 (gCons (gName i) (gCons (gName j) gNil))))) : PS X (.Assign tgs (.Tuple [e1, e2] k2 pt2) pos) (xS X.K X.mg W C (sParVN i j s1 s2)) :=
  ps_imp (hp h1 h2) fun D σ H ⟨ow, S, r, q⟩ => by
    change sst X.K X.mg W C ow H D ((s1 S).st fun d S1 => (noEx (s2 S1)).st fun es S2 => match put i (.val d) S2 with | .nx S3 => put j (.own es) S3 | _ => .no) at q
    refine ⟨ow, S, r, ?_⟩
    show pst X.K X.mg W C (relE X.K) ow σ H _ (s1 S)
    cases ea : s1 S with
    | no => rw [ea] at q; exact q
    | ex c S' => rw [ea] at q; exact fun H' r' x => q ow σ H' r' x (Grow.refl _ _)
    | ok d S1 =>
      rw [ea] at q
      rintro v H1 r1 x1 rd
      refine ⟨ow, S1, r1, ?_⟩
      show pst X.K X.mg W C (relN X.K) ow σ H1 _ (s2 S1)
      rw [st_ok] at q
      cases eb : s2 S1 with
      | no => rw [eb] at q; exact q
      | ex c S' => rw [eb] at q; exact q.elim
      | ok es S2 =>
        rw [eb, noEx_ok, st_ok] at q
        rintro w H2 r2 x2 ⟨b, ws, Hn, g1, g2, g3, g4, g5, g6⟩
        subst g1
        subst g3
        refine ⟨by rw [sizeLine_eq]; simp, fun p np => ⟨p, [v, .ref b], rfl, .inl (.inl (by simp [upd])), rfl, v, [.ref b], rfl, .ref b, [], rfl, rfl, ?_⟩⟩
        unfold put at q
        by_cases hi : noio S2[i]? = true
        · simp only [if_pos hi] at q
          by_cases hj : noio (S2.set i (.val d))[j]? = true
          · simp only [if_pos hj] at q
            have rv := g5.putV hi (RD.mono g4 (Grow.refl _ _) d v rd)
            have lt1 : ∀ a, av C (owSet ow i none) a → av C ow a := fun a z => (av_set z).elim id fun z => by cases z
            have rb := rv.putN (i := j) hj g2 (rds_less g6 lt1)
            have ex : Ext (av C ow) H Hn := x1.trans (Grow.refl _ _) g4
            refine q _ _ _ (rb.same (same_new np)) ?_ ?_
            · exact (ex.trans (Grow.refl _ _) (Ext.same (same_new g2))).trans (Grow.refl _ _) (Ext.same (same_new np))
            · exact Grow.trans (Grow.refl _ _) ex ((grow_set fun a z => by cases z).trans (Ext.refl _ _) (grow_set fun c z => by cases z; exact g2))
          · simp only [if_neg hj] at q
            exact q.elim
        · simp only [if_neg hi] at q
          exact q.elim
end
@[simp] theorem r_sParVN {i j : Nat} {s1 : SE} {s2 : SN} {S : En} : sParVN i j s1 s2 S = ((s1 S).stt fun d S1 => (noEx (s2 S1)).stt fun es S2 => match put i (.val d) S2 with
  | .nx S3 => put j (.own es) S3
  | _ => .no) := rfl
end Ds
end

section
set_option Elab.async false
set_option linter.all false
set_option maxRecDepth 100000
set_option maxHeartbeats 4000000
namespace Ds
open PySem PySem.Spec PyProof.Rows L2
/-! ### l.extend(x) of a list or a tuple -/
section
variable {prog : Program} {w : World} {A : Around} {E : Value → Shared → Prop} {s : Shared}
theorem extend_wp {l b : Addr} {its its2 : Array Value} {n n2 : Nat} {o : Obj} {T : String} {P : Fin → Shared → Prop} (hl : s.heap.get? l = some { cls := .type "list", dict := none, data := .seq its n, slots := #[] }) (ho : s.heap.get? b = some o) (hc : o.cls = .type T) (hd : o.data = .seq its2 n2)
    (hT : T = "list" ∨ T = "tuple") (hz : its.size + its2.size ≤ sizeLine) (h : P (.done (.ret .none)) { s with heap := s.heap.update l (Obj.mapSeq (· ++ its2)) }) : wpAny (model prog w) A (Builtin.«list.extend» ⟨[.ref l, .ref b], []⟩) P E s := by
  show wpAny _ _ (Builtin.List.listExtendWith (.ref l) (.ref b) .none) _ _ s
  unfold Builtin.List.listExtendWith
  refine wpAny_bind (wpAny_typeOf (T := T) ⟨o, ho, hc⟩ ?_)
  rw [if_pos (by rcases hT with rfl | rfl <;> simp)]
  refine wpAny_bind (listItems_at ho hd (wpAny_bind (listItems_at hl rfl ?_)))
  have hlong : ¬ (!its.isEmpty && Builtin.List.listTooLong (its.size + its2.size)) = true := by
    rw [notLongL hz, Bool.and_false]
    exact Bool.false_ne_true
  rw [if_neg hlong]
  exact wpAny_bind (listUpdate_at hl rfl (wpAny_pure h) (by omega) (by rw [Array.size_append]; omega))
end
def rExtS (K : PySem.W.Frag) : V → List V → Hp → VK → Prop := fun x vs H Q => ∃ l b xs zs, x = .ref l ∧ vs = [.ref b] ∧ H l = some (.lst xs) ∧ (SqL K H b zs ∨ SqT K H b zs) ∧ xs.length + zs.length ≤ sizeLine ∧ Q .non (upd H l (.lst (xs ++ zs)))
section
variable {X : Cx}
theorem mt_extS : MtM X "list.extend" (rExtS X.K) := by
  intro pins s σ H x vs v us Q I rx rv h
  obtain ⟨l, b, xs, zs, rfl, rfl, hH, hB, hz, q⟩ := h
  cases rx
  obtain ⟨u, rfl, ru⟩ := rv.one
  cases ru
  obtain ⟨z, its, n, r, hl, e⟩ := I.lstM hH
  obtain ⟨its2, o, n2, T, r2, ho, hc, hd, hT⟩ : ∃ (its2 : List Value) (o : Obj) (n2 : Nat) (T : String), Vals zs its2 ∧ s.heap.get? b = some o ∧ o.cls = .type T ∧ o.data = .seq its2.toArray n2 ∧ (T = "list" ∨ T = "tuple") := by
    rcases hB with hB | hB
    · obtain ⟨its2, r2, ⟨o, n2, ho, hc, _, hd⟩, _⟩ := I.list hB
      exact ⟨its2, o, n2, "list", r2, ho, hc, hd, .inl rfl⟩
    · obtain ⟨its2, r2, ⟨o, ho, hc, n2, hd⟩, _⟩ := I.tuple hB
      exact ⟨its2, o, n2, "tuple", r2, ho, hc, hd, .inr rfl⟩
  refine wpAny_call_entry F.slot_list_extend ⟨_, e, rfl⟩ F.entry_list_extend (extend_wp e ho hc hd hT (by rw [List.size_toArray, List.size_toArray]; have := r.length; have := r2.length; omega) ⟨_, rfl, ?_⟩) (F.args_list_extend_2 _ _)
  exact ⟨.non, _, I.lset (its' := its ++ its2) hH e (by simp) (r.append r2) (by rw [List.length_append]; omega), rfl, q⟩
end
section
variable {X : Cx} {W : WX} {C : Cn} {pos : Pos} {e c : Expr} {se : SE} {i : Nat}
def sExtE (i : Nat) (se : SE) : SE := fun S => (se S).bind fun d S1 => match own? S1[i]?, asLT d with
  | some ds, some es => if ds.length + es.length ≤ sizeLine then .ok .none (upL i (ds ++ es) S1) else .no
  | _, _ => .no
def sExt (i : Nat) (se : SE) : SE := fun S => if (own? S[i]?).isSome = true then sExtE i se S else .no
theorem e_ext (hp : ∀ {t : TE}, PE X e t → PE X c (tBM X.K "list" (rExtS X.K) (tVar i) (tCons t tNil))) (he : PE X e (xE X.K X.mg W C se)) : PE X c (xE X.K X.mg W C (sExt i se)) :=
  pe_imp (hp he) fun σ H Q ⟨ow, S, r, q⟩ => by
    change pst X.K X.mg W C (relE X.K) ow σ H Q (if (own? S[i]?).isSome = true then sExtE i se S else .no) at q
    cases e : own? S[i]? with
    | none => rw [e] at q; exact q.elim
    | some ds =>
      rw [e] at q
      obtain ⟨a, vs, h0, h1, h2, h3⟩ := r.own i ds e
      refine ⟨.ref a, h1, .inl ⟨rfl, vs, SqL.of h2⟩, seq early_E r q fun S1 d x H1 r1 x1 rd k1 => ?_⟩
      cases e1 : own? S1[i]? with
      | none => rw [e1] at k1; exact k1.elim
      | some ds1 =>
        rw [e1] at k1
        obtain ⟨b, ws, g0, g1, g2, g3⟩ := r1.own i ds1 e1
        rw [h0] at g0; cases g0
        cases rd with
        | @lst p xs es l1 l2 =>
          change pst X.K X.mg W C (relE X.K) ow σ H1 Q (if ds1.length + es.length ≤ sizeLine then .ok .none (upL i (ds1 ++ es) S1) else .no) at k1
          by_cases z : ds1.length + es.length ≤ sizeLine
          · simp only [if_pos z] at k1
            obtain ⟨r2, x2⟩ := r1.up (es := ds1 ++ es) (vs := ws ++ xs) e1 h0 (g3.append l2)
            exact ⟨a, p, ws, xs, rfl, rfl, g2, .inl l1.sq, by rw [g3.len, l2.len]; exact z, k1 _ _ r2 x2 .non⟩
          · simp only [if_neg z] at k1
            exact k1.elim
        | @tup p xs es l1 l2 =>
          change pst X.K X.mg W C (relE X.K) ow σ H1 Q (if ds1.length + es.length ≤ sizeLine then .ok .none (upL i (ds1 ++ es) S1) else .no) at k1
          by_cases z : ds1.length + es.length ≤ sizeLine
          · simp only [if_pos z] at k1
            obtain ⟨r2, x2⟩ := r1.up (es := ds1 ++ es) (vs := ws ++ xs) e1 h0 (g3.append l2)
            exact ⟨a, p, ws, xs, rfl, rfl, g2, .inr l1.sq, by rw [g3.len, l2.len]; exact z, k1 _ _ r2 x2 .non⟩
          · simp only [if_neg z] at k1
            exact k1.elim
        | _ => exact k1.elim
end
@[simp] theorem r_sExt {i : Nat} {se : SE} {S : En} : sExt i se S = if (own? S[i]?).isSome = true then (se S).bnd fun d S1 => match own? S1[i]?, asLT d with
  | some ds, some es => if ds.length + es.length ≤ sizeLine then .ok .none (upL i (ds ++ es) S1) else .no
  | _, _ => .no
  else .no := rfl
end Ds
end

section
set_option Elab.async false
set_option linter.all false
set_option maxRecDepth 100000
set_option maxHeartbeats 4000000
namespace Ds
open PySem PySem.Spec PyProof.Rows L2
/-! ### x in l, by == of data -/
def gInD (neg : Bool) (d e : PyData) : Option PyData := match e with
  | .list es => if okEq d = true ∧ okEq (.list es) = true then some (.bool (if neg then !inD d es else inD d es)) else none
  | _ => none
def rInDN (K : PySem.W.Frag) (neg : Bool) : R2 := if neg then rNotInD K else rInD K
theorem op_notInDD {X : Cx} (hu : X.A.units + 65 < cLine) : OpR X (compareOp .NotIn) (rInDN X.K true) := op_notInD hu
theorem op_inDD {X : Cx} (hu : X.A.units + 65 < cLine) : OpR X (compareOp .In) (rInDN X.K false) := op_inD hu
theorem od_inDD {K : PySem.W.Frag} (neg : Bool) : OpD K (rInDN K neg) (gInD neg) := fun av H x y d e z Q tr rx ry g q => by
  cases ry with
  | @lst p xs es h1 h2 =>
    change (if okEq d = true ∧ okEq (.list es) = true then some (PyData.bool (if neg then !inD d es else inD d es)) else none) = some z at g
    by_cases c : okEq d = true ∧ okEq (.list es) = true
    · rw [if_pos c] at g; cases g
      obtain ⟨s1, d1, n1⟩ := okEq_of c.1
      obtain ⟨s2, d2, n2⟩ := okEq_of c.2
      have rl : RD K av H (.ref p) (.list es) := .lst h1 h2
      cases neg with
      | true => exact ⟨d, es, RD.dp d x rx n1 d1, RD.dp _ _ rl n2 d2, s1, s2, q _ H (Same.refl H) (.bl _)⟩
      | false => exact ⟨d, es, RD.dp d x rx n1 d1, RD.dp _ _ rl n2 d2, s1, s2, q _ H (Same.refl H) (.bl _)⟩
    · rw [if_neg c] at g; cases g
  | _ => cases g
/-! ### len(set(l)) of different ints -/
theorem intsOf_mk : ∀ ns : List Int, intsOf (ns.map .int) = some ns
  | [] => rfl
  | a :: ns => by
    show (intsOf (ns.map .int)).map (a :: ·) = _
    rw [intsOf_mk ns]
    rfl
def gLSI : PyData → Option PyData
  | .list ds => match intsOf ds with
    | some ns => if ns.Nodup ∧ ns.length ≤ 4000 then some (.int (ns.length : Nat)) else none
    | none => none
  | _ => none
theorem gLSI_l {ds : List PyData} : gLSI (.list ds) = match intsOf ds with | some ns => if ns.Nodup ∧ ns.length ≤ 4000 then some (.int (ns.length : Nat)) else none | none => none := rfl
section
variable {X : Cx} {W : WX} {C : Cn} {a : Expr} {sa : SE} {p p2 r pos : Pos}
def sLenSetI (sa : SE) : SE := fun S => (sa S).bind fun d S1 => R.opt (gLSI d) S1
theorem e_lenSetI (hc : X.calm = true) (hg : Gl X "len") (hm : X.mg "len" = none) (hg2 : Gl X "set") (hm2 : X.mg "set" = none) (ha : PE X a (xE X.K X.mg W C sa))
    (na : starEach [a] X.env = (false, eval a X.env) :: starEach [] X.env := by rfl) : PE X (.Call (.Name "len" p) [.Call (.Name "set" p2) [a] [] r] [] pos) (xE X.K X.mg W C (sLenSetI sa)) :=
  pe_imp (RZ.pe_lenSetI hg hm hg2 hm2 ha hc na) fun σ H Q ⟨ow, S, rl, q⟩ => seq early_E rl q fun S1 d x H1 r1 x1 rd k => by
    cases rd with
    | @lst l xs ds h1 h2 =>
      change pst X.K X.mg W C (relE X.K) ow σ H1 Q (R.opt (gLSI (.list ds)) S1) at k
      cases e : intsOf ds with
      | none =>
        rw [show gLSI (.list ds) = none by rw [gLSI_l, e]] at k
        exact k.elim
      | some ns =>
        by_cases c : ns.Nodup ∧ ns.length ≤ 4000
        · rw [show gLSI (.list ds) = some (.int (ns.length : Nat)) by rw [gLSI_l, e]; exact if_pos c] at k
          rw [intsOf_map e] at h2
          have := h2.ints
          subst this
          exact ⟨l, ns, rfl, h1.sq, c.1, c.2, k _ H1 r1 (Ext.refl _ _) (.int _)⟩
        · rw [show gLSI (.list ds) = none by rw [gLSI_l, e]; exact if_neg c] at k
          exact k.elim
    | _ => exact k.elim
@[simp] theorem r_sLenSetI {sa : SE} {S : En} : sLenSetI sa S = (sa S).bnd fun d S1 => R.opt (gLSI d) S1 := rfl
end
end Ds
end

section
set_option Elab.async false
set_option linter.all false
set_option maxRecDepth 100000
set_option maxHeartbeats 4000000
namespace Ds
open PySem PySem.Spec PyProof.Rows L2
/-! ### a tuple of a value and of a list that is handed over -/
section
variable {X : Cx} {W : WX} {C : Cn} {pos p2 : Pos} {e e2 tg : Expr} {se : SE} {i j : Nat}
def sRetP (se : SE) (j : Nat) : SS := fun S => (se S).st fun d S1 => match own1? S1[j]? with
  | some ds => .rt (.pair d ds) S1
  | none => .no
theorem s_retP {kk : Nat} (ha : PE X e (xE X.K X.mg W C se)) (hb : PE X e2 (tVar j))
    (h1 : starEach [e, e2] X.env = (false, eval e X.env) :: starEach [e2] X.env := by rfl) (h2 : starEach [e2] X.env = (false, eval e2 X.env) :: starEach [] X.env := by rfl) :
    PS X (.Return (some (.Tuple [e, e2] kk p2)) pos) (xS X.K X.mg W C (sRetP se j)) :=
  ps_imp (ps_ret (pe_tupF (pa_cons ha (pa_cons hb pa_nil h2) h1))) fun D σ H ⟨ow, S, r, q⟩ => seqS r q fun S1 d v H1 r1 x1 rd k1 => by
    change sst X.K X.mg W C ow H1 D (match own1? S1[j]? with
      | some ds => .rt (.pair d ds) S1
      | none => .no) at k1
    cases ee : own1? S1[j]? with
    | none => rw [ee] at k1; exact k1.elim
    | some ds =>
      rw [ee] at k1
      have e' := own1?_some ee
      obtain ⟨a, vs, g0, g1, g2, g3⟩ := r1.own j ds (by rw [e']; rfl)
      obtain ⟨f1, f2⟩ := r1.frs j ds a e' g0
      refine ⟨.ref a, g1, ?_, fun t o nt od oc => ?_⟩
      · show 2 ≤ sizeLine
        decide
      · have na : a ≠ t := fun w => by rw [w, nt] at g2; cases g2
        refine k1 ow σ (.ref t) (upd H1 t (.frz o (.tup [v, .ref a]))) (r1.same (same_new nt)) (Ext.same (same_new nt)) (Grow.refl _ _) ⟨t, a, v, vs, o, del H1 a, owSet ow j none, S1.set j .nil, rfl, f1, f2, del_same, ?_, na, ?_, ?_, ?_, r1.drop e' g0, fun m es z => ?_⟩
        · show del H1 a t = none
          unfold del
          split <;> first | rfl | exact nt
        · rw [upd_del g2]
        · exact RD.mono (ext_del (.inr ⟨j, g0⟩)) (fun b z => .inl ((av_set z).elim id fun z => by cases z)) d v rd
        · exact RDs.mono (ext_del (.inr ⟨j, g0⟩)) (fun b z => .inl ((av_set z).elim id fun z => by cases z)) ds vs g3
        · rw [List.getElem?_set_ne fun w => by rw [← w, e'] at z; cases z]
          exact z
def sAsgP (i j : Nat) (m : Mf) (sg : SG) : SS := fun S => (sCall m sg S).st fun x S1 => match x with
  | .pair d ds => if noio S1[i]? = true ∧ noio S1[j]? = true ∧ i ≠ j then .nx ((S1.set i (.val d)).set j (.own ds)) else .no
  | _ => .no
variable {x : Str} {p : Pos} {f : Addr} {fd : FuncData} {ps : List Str} {k n : Nat} {m : Mf} {sg : SG} {es : List Expr}
theorem s_asgP (F : FnG X.prog X.w X.K X.mg X.base k f fd ps (spM X.K X.mg m n)) (gd : X.A.guards = some []) (hr : Room k X.A) (hg : Gl X x) (hm : X.mg x = some (.ref f)) (hk : PySem.W.keepIn X.K (.ref f) = true) (hb : Binds X.K fd ps []) (tk : Takes X W)
    (ha : PA X (e :: es) (xAg X.K X.mg W C sg)) (hn : ∀ S gs S1, sg S = .ok gs S1 → gs.length = n) (ht : PG X tg (gTup X.K 2 (gCons (gName i) (gCons (gName j) gNil)))) (hp : ∀ {t : TE} {g : TG}, PE X (.Call (.Name x p) (e :: es) [] p2) t → PG X tg g → PS X (.Assign [tg] (.Call (.Name x p) (e :: es) [] p2) pos) (tAsg t g))
    (hdb : (x == ("__debug__" : Str)) = false := by decide) (he : starEach (e :: es) X.env = (false, eval e X.env) :: starEach es X.env := by rfl) (hpl : (backTo p2 (starEach es X.env)).any (·.1) = false := by rfl) :
    PS X (.Assign [tg] (.Call (.Name x p) (e :: es) [] p2) pos) (xS X.K X.mg W C (sAsgP i j m sg)) :=
  ps_imp (hp (pe_callG F gd hr hg hm hk hb tk ha hdb he hpl) ht) fun D σ H ⟨ow, S, r, q⟩ => by
    change sst X.K X.mg W C ow H D (((sg S).bind fun gs S1 => match argS S1 gs with
      | none => R.no
      | some S0 => match m S0 with
        | .ok d T => .ok d (back gs T S1)
        | .ex c T => .ex c (back gs T S1)
        | .no => .no).st fun x S1 => match x with
      | .pair d ds => if noio S1[i]? = true ∧ noio S1[j]? = true ∧ i ≠ j then .nx ((S1.set i (.val d)).set j (.own ds)) else .no
      | _ => .no) at q
    have hn' := hn S
    refine ⟨ow, S, r, ?_⟩
    show pst X.K X.mg W C (relG X.K) ow σ H _ (sg S)
    cases e : sg S with
    | no => rw [e] at q; exact q
    | ex c S' => rw [e] at q; exact fun H' r' x => q ow σ H' r' x (Grow.refl _ _)
    | ok gs S1 =>
      rw [e, bind_ok] at q
      intro vs H1 r1 x1 rg
      refine ⟨by rw [rg.1]; exact hn' gs S1 e, ?_⟩
      cases ea : argS S1 gs with
      | none => rw [ea] at q; exact q.elim
      | some S0 =>
        simp only [ea] at q
        refine ⟨av C ow, S0, (r1.pre rg ea).2, ?_⟩
        cases em : m S0 with
        | no => simp only [em] at q; exact q.elim
        | ex c T =>
          simp only [em] at q
          intro H' pp
          obtain ⟨r2, x2⟩ := r1.back rg ea pp
          exact q ow σ H' r2 (x1.trans (Grow.refl _ _) x2) (Grow.refl _ _)
        | ok d T =>
          simp only [em] at q
          cases d with
          | pair d ds =>
            change sst X.K X.mg W C ow H D (if noio (back gs T S1)[i]? = true ∧ noio (back gs T S1)[j]? = true ∧ i ≠ j then .nx (((back gs T S1).set i (.val d)).set j (.own ds)) else .no) at q
            by_cases c : noio (back gs T S1)[i]? = true ∧ noio (back gs T S1)[j]? = true ∧ i ≠ j
            · rw [if_pos c] at q
              obtain ⟨ci, cj, ij⟩ := c
              intro t a v ws o Hm post na nt ne rd rds
              obtain ⟨r2, x2⟩ := r1.back rg ea post
              have nt2 : upd Hm a (.lst ws) t = none := by rw [upd_ne (Ne.symm ne)]; exact nt
              have r3 := r2.putV ci rd
              have lt : ∀ b, av C (owSet ow i none) b → av C ow b := fun b z => (av_set z).elim id fun z => by cases z
              have r4 := r3.putN (i := j) (by rw [List.getElem?_set_ne ij]; exact cj) na (rds_less rds lt)
              have r5 := r4.same (same_new nt2 (o := .frz o (.tup [v, .ref a])))
              have x3 : Ext (av C ow) H Hm := x1.trans (Grow.refl _ _) x2
              refine ⟨t, [v, .ref a], rfl, .inl (.inr ⟨o, upd_same⟩), rfl, v, [.ref a], rfl, .ref a, [], rfl, rfl, ?_⟩
              exact q _ _ _ r5 ((x3.trans (Grow.refl _ _) (Ext.same (same_new na))).trans (Grow.refl _ _) (Ext.same (same_new nt2))) (Grow.trans (grow_set fun b z => by cases z) x3 (grow_set fun b z => by cases z; exact na))
            · rw [if_neg c] at q; exact q.elim
          | _ => exact q.elim
@[simp] theorem r_sRetP {S : En} : sRetP se j S = ((se S).stt fun d S1 => match own1? S1[j]? with
  | some ds => .rt (.pair d ds) S1
  | none => .no) := rfl
@[simp] theorem r_sAsgP {S : En} : sAsgP i j m sg S = ((sCall m sg S).stt fun x S1 => match x with
  | .pair d ds => if noio S1[i]? = true ∧ noio S1[j]? = true ∧ i ≠ j then .nx ((S1.set i (.val d)).set j (.own ds)) else .no
  | _ => .no) := rfl
end
end Ds
end

section
set_option Elab.async false
set_option linter.all false
set_option maxRecDepth 100000
set_option maxHeartbeats 4000000
namespace Ds
open PySem PySem.Spec PyProof.Rows L2
/-! ### a returned list whose inner lists are changed: they are new ones -/
mutual
/-- no list, no dict in it -/
def noL : PyData → Bool
  | .list _ => false
  | .dict _ => false
  | .tuple ds => noLs ds
  | _ => true
def noLs : List PyData → Bool
  | [] => true
  | d :: ds => noL d && noLs ds
end
section
variable {K : PySem.W.Frag} {av av' : Addr → Prop} {H H' : Hp}
mutual
theorem RD.noL (e : ∀ a o xs, ¬ av a → H a = some (.frz o (.tup xs)) → H' a = some (.frz o (.tup xs)) ∧ ¬ av' a) : ∀ (d : PyData) (v : V), noL d = true → RD K av H v d → RD K av' H' v d
  | .none, _, _, h => by cases h; exact .non
  | .bool b, _, _, h => by cases h; exact .bl b
  | .int i, _, _, h => by cases h; exact .int i
  | .str x, _, _, h => by cases h; exact .str x
  | .list ds, _, f, _ => by simp [Ds.noL] at f
  | .dict kvs, _, f, _ => by simp [Ds.noL] at f
  | .tuple ds, _, f, h => by
    cases h with
    | tup h1 h2 => exact .tup (h1.imp (fun ⟨⟨o, q, d⟩, n⟩ => ⟨⟨o, (e _ o _ n q).1, d⟩, (e _ o _ n q).2⟩) id) (RDs.noLs e ds _ (by simpa [Ds.noL] using f) h2)
theorem RDs.noLs (e : ∀ a o xs, ¬ av a → H a = some (.frz o (.tup xs)) → H' a = some (.frz o (.tup xs)) ∧ ¬ av' a) : ∀ (ds : List PyData) (vs : List V), noLs ds = true → RDs K av H vs ds → RDs K av' H' vs ds
  | [], _, _, h => by cases h; exact .nil
  | d :: ds, _, f, h => by
    have f' : Ds.noL d = true ∧ Ds.noLs ds = true := by simpa [Ds.noLs] using f
    cases h with
    | cons h1 h2 => exact .cons (RD.noL e d _ f'.1 h1) (RDs.noLs e ds _ f'.2 h2)
end
end
/-- all lists, short ones -/
def lstsD : List PyData → Bool
  | [] => true
  | .list xs :: r => decide (xs.length ≤ 1000) && lstsD r
  | _ => false
/-- a tuple of something and of k lists -/
def wrD (k : Nat) (d : PyData) : Bool := match d with
  | .tuple (_ :: r) => lstsD r && decide (r.length = k)
  | _ => false
/-- the lists at bs are new since H1 and short -/
def Nw (H1 H : Hp) (m : Nat) (b : Addr) : Prop := H1 b = none ∧ ∃ us, H b = some (.lst us) ∧ us.length ≤ m
def WV (K : PySem.W.Frag) (H1 H : Hp) (k m : Nat) (v : V) : Prop := ∃ (a : Addr) (x : V) (bs : List Addr), v = .ref a ∧ SqT K H a (x :: bs.map V.ref) ∧ bs.length = k ∧ ∀ b ∈ bs, Nw H1 H m b
/-- new lists may have grown by n -/
def Mut (H1 : Hp) (n : Nat) (H H' : Hp) : Prop := ∀ a o, H a = some o → H' a = some o ∨ (H1 a = none ∧ ∃ us us', o = .lst us ∧ H' a = some (.lst us') ∧ us'.length ≤ us.length + n)
section
variable {K : PySem.W.Frag} {H1 H H' H2 : Hp} {n m k : Nat}
theorem Mut.refl : Mut H1 n H H := fun _ _ e => .inl e
theorem Mut.trans (a : Mut H1 n H H') (b : Mut H1 m H' H2) : Mut H1 (n + m) H H2 := fun p o e => by
  rcases a p o e with q | ⟨q0, us, us', rfl, q2, q3⟩
  · rcases b p o q with z | ⟨z0, us, us', z1, z2, z3⟩
    · exact .inl z
    · exact .inr ⟨z0, us, us', z1, z2, by omega⟩
  · rcases b p _ q2 with z | ⟨z0, vs, vs', z1, z2, z3⟩
    · exact .inr ⟨q0, us, us', rfl, z, by omega⟩
    · cases z1
      exact .inr ⟨q0, us, vs', rfl, z2, by omega⟩
theorem Mut.mono (a : Mut H1 n H H') (h : n ≤ m) : Mut H1 m H H' := fun p o e => (a p o e).imp id fun ⟨q0, us, us', q1, q2, q3⟩ => ⟨q0, us, us', q1, q2, by omega⟩
theorem Mut.new {p : Addr} {o : HO} (h : H p = none) : Mut H1 n H (upd H p o) := fun a o e => .inl (same_new h a o e)
theorem Mut.put {p : Addr} {us us' : List V} (h : H p = some (.lst us)) (h1 : H1 p = none) (l : us'.length ≤ us.length + n) : Mut H1 n H (upd H p (.lst us')) := fun a o e => by
  by_cases z : a = p
  · subst z
    rw [h] at e
    cases e
    exact .inr ⟨h1, us, us', rfl, upd_same, l⟩
  · exact .inl (by rw [upd_ne z]; exact e)
theorem Mut.old (a : Mut H1 n H H') {p : Addr} {o : HO} (e : H p = some o) (h : H1 p ≠ none) : H' p = some o := (a p o e).elim id fun z => absurd z.1 h
theorem Mut.tup (a : Mut H1 n H H') {p : Addr} {o : Obj} {xs : List V} (e : H p = some (.frz o (.tup xs))) : H' p = some (.frz o (.tup xs)) := (a p _ e).elim id fun ⟨_, _, _, z, _⟩ => by cases z
theorem Nw.mut (a : Mut H1 n H H') {b : Addr} (h : Nw H1 H m b) : Nw H1 H' (m + n) b := by
  obtain ⟨h1, us, h2, h3⟩ := h
  rcases a b _ h2 with z | ⟨_, vs, vs', z1, z2, z3⟩
  · exact ⟨h1, us, z, by omega⟩
  · cases z1
    exact ⟨h1, vs', z2, by omega⟩
theorem sqt_mut (a : Mut H1 n H H') {p : Addr} {xs : List V} (h2 : SqT K H p xs) : SqT K H' p xs := by
  rcases h2 with (h2 | ⟨o, h2⟩) | h2
  · exact .inl (.inl ((a p _ h2).elim id fun ⟨_, _, _, z, _⟩ => by cases z))
  · exact .inl (.inr ⟨o, (a p _ h2).elim id fun ⟨_, _, _, z, _⟩ => by cases z⟩)
  · exact .inr h2
theorem WV.mut (a : Mut H1 n H H') {v : V} (h : WV K H1 H k m v) : WV K H1 H' k (m + n) v := by
  obtain ⟨p, x, bs, h1, h2, h3, h4⟩ := h
  refine ⟨p, x, bs, h1, ?_, h3, fun b hb => (h4 b hb).mut a⟩
  rcases h2 with (h2 | ⟨o, h2⟩) | h2
  · exact .inl (.inl ((a p _ h2).elim id fun ⟨_, _, _, z, _⟩ => by cases z))
  · exact .inl (.inr ⟨o, (a p _ h2).elim id fun ⟨_, _, _, z, _⟩ => by cases z⟩)
  · exact .inr h2
/-- lists that are not avoided, all lists of H1 being avoided -/
theorem lsts_new {av : Addr → Prop} : ∀ {ds : List PyData} {vs : List V}, RDs K av H vs ds → lstsD ds = true → (∀ a us, H a = some (.lst us) → ¬ av a → H1 a = none) → ∃ bs : List Addr, vs = bs.map V.ref ∧ ∀ b ∈ bs, Nw H1 H 1000 b
  | _, _, .nil, _, _ => ⟨[], rfl, fun b h => by cases h⟩
  | .list xs :: ds, _, .cons h1 h2, f, t => by
    have f' : xs.length ≤ 1000 ∧ lstsD ds = true := by simpa [lstsD] using f
    obtain ⟨bs, e, q⟩ := lsts_new h2 f'.2 t
    cases h1 with
    | @lst a us _ g1 g2 =>
      refine ⟨a :: bs, by rw [e]; rfl, fun b hb => ?_⟩
      rcases List.mem_cons.mp hb with z | z
      · subst z
        exact ⟨t b us g1.get.1 g1.get.2, us, g1.get.1, by rw [g2.len]; exact f'.1⟩
      · exact q b z
  | .none :: _, _, _, f, _ | .bool _ :: _, _, _, f, _ | .int _ :: _, _, _, f, _ | .str _ :: _, _, _, f, _ | .tuple _ :: _, _, _, f, _ | .dict _ :: _, _, _, f, _ => by simp [lstsD] at f
theorem wv_of {av : Addr → Prop} (t : ∀ a us, H a = some (.lst us) → ¬ av a → H1 a = none) {d : PyData} {v : V} (h : RD K av H v d) (f : wrD k d = true) : WV K H1 H k 1000 v := by
  cases h with
  | @tup a xs ds h1 h2 =>
    cases h2 with
    | nil => simp [wrD] at f
    | @cons x r d ds g1 g2 =>
      have f' : lstsD ds = true ∧ ds.length = k := by simpa [wrD] using f
      obtain ⟨bs, e, q⟩ := lsts_new g2 f'.1 t
      have hl := g2.len
      rw [e, List.length_map] at hl
      exact ⟨a, x, bs, rfl, by rw [← e]; exact h1.sq, hl.trans f'.2, q⟩
  | _ => simp [wrD, scrD] at f
theorem wvs_of {av : Addr → Prop} (t : ∀ a us, H a = some (.lst us) → ¬ av a → H1 a = none) : ∀ {ds : List PyData} {vs : List V}, RDs K av H vs ds → ds.all (wrD k) = true → ∀ v ∈ vs, WV K H1 H k 1000 v
  | _, _, .nil, _ => fun v h => by cases h
  | d :: ds, _, .cons h1 h2, f => fun v h => by
    have f' : wrD k d = true ∧ ds.all (wrD k) = true := by simpa using f
    rcases List.mem_cons.mp h with z | z
    · subst z
      exact wv_of t h1 f'.1
    · exact wvs_of t h2 f'.2 v z
end
/-! ### targets: names -/
def gList : List Nat → TGs
  | [] => gNil
  | i :: is => gCons (gName i) (gList is)
def setAll : List Nat → List V → St → St
  | i :: is, v :: vs, σ => setAll is vs (σ.set i (some v))
  | _, _, σ => σ
theorem gList_run : ∀ {us : List Nat} {vs : List V} {σ : St} {H : Hp} {Q : St → Hp → Prop}, vs.length = us.length → Q (setAll us vs σ) H → gList us vs σ H Q
  | [], [], _, _, _, _, q => ⟨rfl, q⟩
  | i :: is, v :: vs, σ, H, Q, l, q => ⟨v, vs, rfl, gList_run (by simpa using l) q⟩
  | [], _ :: _, _, _, _, l, _ => by simp at l
  | _ :: _, [], _, _, _, l, _ => by simp at l
theorem setAll_len : ∀ {us : List Nat} {vs : List V} {σ : St}, (setAll us vs σ).length = σ.length
  | [], _, _ => by simp [setAll]
  | _ :: _, [], _ => by simp [setAll]
  | i :: is, v :: vs, σ => by rw [setAll, setAll_len, List.length_set]
theorem setAll_ne : ∀ {us : List Nat} {vs : List V} {σ : St} {j : Nat}, j ∉ us → (setAll us vs σ)[j]? = σ[j]?
  | [], _, _, _, _ => by simp [setAll]
  | _ :: _, [], _, _, _ => by simp [setAll]
  | i :: is, v :: vs, σ, j, h => by
    rw [setAll, setAll_ne fun z => h (List.mem_cons_of_mem _ z), List.getElem?_set_ne fun z => h (by rw [z]; exact List.mem_cons_self)]
theorem setAll_at : ∀ {us : List Nat} {vs : List V} {σ : St} {k : Nat} {i : Nat} {v : V}, us.Nodup → us[k]? = some i → vs[k]? = some v → i < σ.length → (setAll us vs σ)[i]? = some (some v)
  | i :: is, v :: vs, σ, 0, j, u, hn, h1, h2, h3 => by
    obtain rfl : i = j := by simpa using h1
    obtain rfl : v = u := by simpa using h2
    rw [setAll, setAll_ne (List.nodup_cons.mp hn).1, List.getElem?_set_self h3]
  | i :: is, v :: vs, σ, k + 1, j, u, hn, h1, h2, h3 => by
    rw [setAll]
    exact setAll_at (List.nodup_cons.mp hn).2 (by simpa using h1) (by simpa using h2) (by rw [List.length_set]; exact h3)
  | [], _, _, _, _, _, _, h, _, _ => by simp at h
  | _ :: _, [], _, _, _, _, _, _, h, _ => by simp at h
/-- what the body of the loop does: the lists in the slots us change, each by one at most, nothing else -/
def WBody (K : PySem.W.Frag) (tb : TS) (us : List Nat) : Prop := ∀ (D : Ends) (σ : St) (H : Hp) (bs : List Addr), bs.length = us.length → (∀ (k : Nat) i b, us[k]? = some i → bs[k]? = some b → σ[i]? = some (some (.ref b))) → (∀ b ∈ bs, ∃ zs, H b = some (.lst zs) ∧ zs.length ≤ 100000) →
  (∀ H', (∀ a, a ∉ bs → H' a = H a) → (∀ b ∈ bs, ∀ zs, H b = some (.lst zs) → ∃ zs', H' b = some (.lst zs') ∧ zs'.length ≤ zs.length + 1) → D.nx σ H') → tb D σ H
theorem big_size : (200000 : Nat) < sizeLine := by decide +kernel
theorem wb_app {K : PySem.W.Frag} {u : Nat} : WBody K (tDrop (tBM K "list" rAppend (tVar u) (tCons (tC (.int 0)) tNil))) [u] := by
  intro D σ H bs hl hs hb hd
  match bs, hl with
  | [b], _ =>
    obtain ⟨zs, h1, h2⟩ := hb b (by simp)
    have big := big_size
    refine ⟨.ref b, hs 0 u b rfl rfl, .inl ⟨rfl, zs, SqL.of h1⟩, b, zs, .int 0, rfl, rfl, h1, by omega, hd _ (fun a ha => upd_ne fun z => ha (by simp [z])) fun c hc ys hy => ?_⟩
    obtain rfl : c = b := by simpa using hc
    rw [h1] at hy
    cases hy
    exact ⟨_, upd_same, by simp⟩
theorem wb_appRev {K : PySem.W.Frag} {u r : Nat} : WBody K (tSeq (tDrop (tBM K "list" rAppend (tVar u) (tCons (tC (.int 0)) tNil))) (tDrop (tBM0 K "list" rReverse (tVar r)))) [u, r] := by
  intro D σ H bs hl hs hb hd
  match bs, hl with
  | [b, c], _ =>
    obtain ⟨zs, h1, h2⟩ := hb b (by simp)
    obtain ⟨ys, h3, h4⟩ := hb c (by simp)
    have big := big_size
    refine ⟨.ref b, hs 0 u b rfl rfl, .inl ⟨rfl, zs, SqL.of h1⟩, b, zs, .int 0, rfl, rfl, h1, by omega, ?_⟩
    have hc : ∃ ws, upd H b (.lst (zs ++ [.int 0])) c = some (.lst ws) ∧ ws.length ≤ ys.length + 1 := by
      by_cases z : c = b
      · subst z
        rw [h1] at h3
        cases h3
        exact ⟨_, upd_same, by simp⟩
      · exact ⟨ys, by rw [upd_ne z]; exact h3, by omega⟩
    obtain ⟨ws, h5, h6⟩ := hc
    refine ⟨.ref c, hs 1 r c rfl rfl, .inl ⟨rfl, ws, SqL.of h5⟩, c, ws, rfl, rfl, h5, hd _ (fun a ha => ?_) fun d hd ts ht => ?_⟩
    · have ha' : a ≠ b ∧ a ≠ c := by simpa using ha
      rw [upd_ne ha'.2, upd_ne ha'.1]
    · by_cases z : d = c
      · subst z
        rw [h3] at ht
        cases ht
        exact ⟨_, upd_same, by rw [List.length_reverse]; exact h6⟩
      · have e : d = b := by
          rcases (by simpa using hd : d = b ∨ d = c) with z' | z'
          · exact z'
          · exact absurd z' z
        subst e
        rw [h1] at ht
        cases ht
        exact ⟨_, by rw [upd_ne z]; exact upd_same, by simp⟩
end Ds
end

section
set_option Elab.async false
set_option linter.all false
set_option maxRecDepth 100000
set_option maxHeartbeats 4000000
namespace Ds
open PySem PySem.Spec PyProof.Rows L2
/-! ### x = f(..); if test: return False; x.append(None); for a, l, .. in x[:-1]: l.append(0) .. -/
def okSl (x : Sl) : Bool := match x with
  | .nil => true
  | .val _ => true
  | .own ds => noLs ds
  | _ => false
def flatSl (x : Sl) : Bool := match x with
  | .val d => noL d
  | _ => false
/-- the state that the wreck may stand in -/
def okW (vs : List Nat) (S : En) : Bool := S.all okSl && vs.all fun j => bare S[j]?
theorem okW_sl {vs : List Nat} {S : En} (h : okW vs S = true) {j : Nat} {x : Sl} (e : S[j]? = some x) : okSl x = true := by
  unfold okW at h
  rw [Bool.and_eq_true, List.all_eq_true] at h
  exact h.1 x (List.mem_of_getElem? e)
theorem okW_bare {vs : List Nat} {S : En} (h : okW vs S = true) {j : Nat} (e : j ∈ vs) : bare S[j]? = true := by
  unfold okW at h
  rw [Bool.and_eq_true, List.all_eq_true, List.all_eq_true] at h
  exact h.2 j e
theorem wipeS_get : ∀ {vs : List Nat} {S : En} {j : Nat}, (∀ v ∈ vs, v < S.length) → (wipeS vs S)[j]? = if j ∈ vs then some .nil else S[j]?
  | [], _, _, _ => by simp [wipeS]
  | v :: vs, S, j, h => by
    have ih := wipeS_get (vs := vs) (S := S) (j := j) fun w hw => h w (List.mem_cons_of_mem _ hw)
    have hl : v < (wipeS vs S).length := by
      have : (wipeS vs S).length = S.length := by
        clear ih h
        induction vs with
        | nil => rfl
        | cons w vs ih => show ((wipeS vs S).set w .nil).length = _; rw [List.length_set, ih]
      rw [this]
      exact h v List.mem_cons_self
    show ((wipeS vs S).set v .nil)[j]? = _
    by_cases e : v = j
    · subst e
      rw [List.getElem?_set_self hl, if_pos List.mem_cons_self]
    · rw [List.getElem?_set_ne e, ih]
      by_cases z : j ∈ vs
      · rw [if_pos z, if_pos (List.mem_cons_of_mem _ z)]
      · rw [if_neg z, if_neg fun w => (List.mem_cons.mp w).elim (fun y => e y.symm) z]
theorem wipeS_len : ∀ {vs : List Nat} {S : En}, (wipeS vs S).length = S.length
  | [], _ => rfl
  | v :: vs, S => by show ((wipeS vs S).set v .nil).length = _; rw [List.length_set, wipeS_len]
/-- a list that is handed back -/
def lstOf (x : Sl) : Option (List PyData) := match x with
  | .own ds => some ds
  | .val (.list ds) => some ds
  | _ => none
open Classical in
noncomputable def sWr (i : Nat) (lv : List Nat) (k : Nat) (m : Mf) (sg : SG) (tst : STt) : SS := fun S =>
  match sg S with
  | .ok gs S1 => match argS S1 gs with
    | some S0 => match m S0 with
      | .ok x _ => match lstOf x with
        | some ds => if okW (i :: lv) S1 = true ∧ S0.all flatSl = true ∧ ds.length ≤ 1000 ∧ ds.all (wrD k) = true then
            match tst (S1.set i (.val (.list ds))) with
            | .ok b S2 => if S2 = S1.set i (.val (.list ds)) then (if b = true then .rt (.val (.bool false)) S2 else .nx (wipeS (i :: lv) S2)) else .no
            | _ => .no
          else .no
        | none => .no
      | _ => .no
    | none => .no
  | _ => .no
section
variable {K : PySem.W.Frag} {C : Cn} {ow : Ow} {S : En} {σ σ4 : St} {H1 H3 H6 : Hp} {vs : List Nat} {i : Nat} {d0 : PyData}
/-- the state behind the wreck -/
theorem Rl.wreck (hi : i ∈ vs) (ok : okW vs S = true) (r1 : Rl K C ow S σ H1) {σ' : St} (r3 : Rl K C (owSet ow i none) (S.set i (.val d0)) σ' H3) (hσ' : ∀ j, j ∉ vs → σ'[j]? = σ[j]?)
    (x3 : Ext (av C (owSet ow i none)) H1 H3) {n : Nat} (mu : Mut H1 n H3 H6) (hσ : ∀ j, j ∉ vs → σ4[j]? = σ'[j]?) (hl : σ4.length = σ'.length) : Rl K C (owSet ow i none) (wipeS vs (S.set i (.val d0))) σ4 H6 := by
  have lt : ∀ v ∈ vs, v < (S.set i (.val d0)).length := fun v hv => by
    rw [List.length_set]
    have b := okW_bare ok hv
    cases e : S[v]? with
    | none => rw [e] at b; cases b
    | some x => exact (List.getElem?_eq_some_iff.mp e).1
  have get : ∀ j, (wipeS vs (S.set i (.val d0)))[j]? = if j ∈ vs then some .nil else S[j]? := fun j => by
    rw [wipeS_get lt]
    by_cases z : j ∈ vs
    · rw [if_pos z, if_pos z]
    · rw [if_neg z, if_neg z, List.getElem?_set_ne fun w => z (by rw [← w]; exact hi)]
  have get2 : ∀ j, j ∉ vs → (S.set i (.val d0))[j]? = S[j]? := fun j z => List.getElem?_set_ne fun w => z (by rw [← w]; exact hi)
  have bare' : ∀ j, j ∈ vs → bare (S.set i (.val d0))[j]? = true := fun j hj => by
    by_cases e : i = j
    · subst e
      rw [List.getElem?_set_self (by have := lt i hi; rwa [List.length_set] at this)]
      rfl
    · rw [List.getElem?_set_ne e]
      exact okW_bare ok hj
  have okS : ∀ {j : Nat} {x : Sl}, (S.set i (.val d0))[j]? = some x → okSl x = true := fun {j x} e => by
    by_cases z : i = j
    · subst z
      rw [List.getElem?_set_self (by have := lt i hi; rwa [List.length_set] at this)] at e
      cases e
      rfl
    · rw [List.getElem?_set_ne z] at e
      exact okW_sl ok e
  have nio : ∀ {j : Nat} {ds : List PyData}, (S.set i (.val d0))[j]? ≠ some (.io ds) := fun {j ds} e => by have := okS e; cases this
  have nns : ∀ {j : Nat}, ¬ NstAt (S.set i (.val d0)) j := fun {j} e => by
    rcases e with ⟨dd, e⟩ | ⟨m, q, dd, _, e, _⟩ <;> (have := okS e; cases this)
  have nns6 : ∀ {j : Nat}, ¬ NstAt (wipeS vs (S.set i (.val d0))) j := fun {j} e => by
    rcases e with ⟨dd, e⟩ | ⟨m, q, dd, _, e, _⟩
    · rw [get] at e
      split at e
      · cases e
      · have := okW_sl ok e; cases this
    · rw [get] at e
      split at e
      · cases e
      · have := okW_sl ok e; cases this
  have sub : ∀ a, av C (owSet ow i none) a → av C ow a := fun a z => (av_set z).elim id fun y => by cases y
  have ex6 : Ext (av C ow) H1 H6 := fun a o na e => mu.old (x3 a o (fun z => na (sub a z)) e) (by rw [e]; simp)
  refine ⟨?_, fun j d e => ?_, fun j ds e => ?_, fun j a e => ?_, r3.inj, fun j ds a e1 e2 => ?_, fun j ds e => ?_, fun j a e => ?_, fun a z => ?_, fun a o e n => ?_, ⟨?_, fun j dss e => ?_, fun j a e => absurd e nns6⟩⟩
  · rw [wipeS_len, hl]; exact r3.len
  · rw [get] at e
    split at e
    · cases e
    · rename_i z
      obtain ⟨v, e1, e2⟩ := r1.val j d e
      refine ⟨v, by rw [hσ j z, hσ' j z]; exact e1, RD.mono ex6 (fun a y => .inl (sub a y)) d v e2⟩
  · rw [get] at e
    split at e
    · cases e
    · rename_i z
      rw [← get2 j z] at e
      obtain ⟨a, us, e1, e2, e3, e4⟩ := r3.own j ds e
      have e1' : ow j = some a := by
        unfold owSet at e1
        rw [if_neg fun w => z (by rw [w]; exact hi)] at e1
        exact e1
      obtain ⟨b, ws, g1, _, g2, _⟩ := r1.own j ds (by rw [← get2 j z]; exact e)
      rw [e1'] at g1
      cases g1
      have fl : noLs ds = true := by
        cases q : (S.set i (.val d0))[j]? with
        | none => rw [q] at e; cases e
        | some x =>
          have := okS q
          rw [q] at e
          cases x with
          | own es => cases e; exact this
          | io es => exact absurd q nio
          | _ => cases e
      refine ⟨a, us, e1, by rw [hσ j z]; exact e2, mu.old e3 (by rw [g2]; simp), RDs.noLs (fun a o xs na q => ⟨mu.tup q, na⟩) ds us fl e4⟩
  · rcases r3.ows j a e with ⟨ds, q⟩ | q
    · refine .inl ⟨ds, ?_⟩
      rw [get]
      by_cases z : j ∈ vs
      · have := (bare_noio (bare' j z)).2
        rw [q] at this
        cases this
      · rw [if_neg z, ← get2 j z]
        exact q
    · exact absurd q nns
  · rw [get] at e1
    split at e1
    · cases e1
    · rename_i z
      rw [← get2 j z] at e1
      exact r3.frs j ds a e1 e2
  · rw [get] at e
    split at e
    · cases e
    · have := okW_sl ok e; cases this
  · obtain ⟨_, ds, q⟩ := r3.iok j a e
    exact absurd q nio
  · obtain ⟨o, q⟩ := r3.trk a z
    rcases mu a o q with w | ⟨_, _, us, _, w, _⟩
    · exact ⟨_, w⟩
    · exact ⟨_, w⟩
  · exact mu.old (r3.ext a o e n) (by rw [r1.ext a o e n]; simp)
  · rw [wipeS_len]; exact r3.ns.big
  · rw [get] at e
    split at e
    · cases e
    · have := okW_sl ok e; cases this
end
theorem cut_last (ws : List V) : cutV (ws ++ [V.non]) none (some (-1)) = ws := by
  unfold cutV
  have e1 : HT.sIx (ws ++ [V.non]).length 0 none = 0 := rfl
  have e2 : HT.sIx (ws ++ [V.non]).length (ws ++ [V.non]).length (some (-1)) = ws.length := by
    simp [HT.sIx]
    omega
  rw [e1, e2]
  simp
section
variable {X : Cx} {W : WX} {C : Cn} {pos p0 p1 p2 : Pos} {j0 : Nat} {ecall ctest : Expr} {st1 st3 st4 : Stmt} {i k n : Nat} {lv us : List Nat} {c : Nat} {m : Mf} {sg : SG} {tst : STt} {tb : TS}
theorem ss_wr (hcall : PE X ecall (tCallS (spM X.K X.mg m n) (WE W) (xAg X.K X.mg W C sg))) (hn : ∀ S gs S1, sg S = .ok gs S1 → gs.length = n)
    (hset : ∀ {t : TE}, PE X ecall t → PS X st1 (tAsg t (gName i))) (htest : PT X ctest (xB X.K X.mg W C tst))
    (happ : PS X st3 (tDrop (tBM X.K "list" rAppend (tVar i) (tCons (tC .non) tNil))))
    (hfor : PS X st4 (tFor (iList X.K (tSl (rSlL X.K) (tVar i) tNoPart (tPart (tUn (rU fun i => .int (-i)) (tC (.int 1)))))) (gTup X.K (us.length + 1) (gCons (gName c) (gList us))) tb))
    (hb : WBody X.K tb us) (hk : us.length = k) (hnd : (c :: us).Nodup) (hlv : lv = c :: us) (hic : i ∉ lv) :
    PSs X [st1, .If ctest [.Return (some (.Constant (.bool false) j0 p0)) p1] [] p2, st3, st4] (xS X.K X.mg W C (sWr i lv k m sg tst)) :=
  pss_imp (pss_cons (hset hcall) (pss_cons (ps_if htest (pss_one (ps_ret pe_bl)) pss_nil) (pss_cons happ (pss_one hfor)))) fun D σ H ⟨ow, S, r, q⟩ => by
    change sst X.K X.mg W C ow H D (sWr i lv k m sg tst S) at q
    unfold sWr at q
    have hn' := hn S
    refine ⟨ow, S, r, ?_⟩
    show pst X.K X.mg W C (relG X.K) ow σ H _ (sg S)
    cases e : sg S with
    | no => rw [e] at q; exact q
    | ex c S' => rw [e] at q; exact q.elim
    | ok gs S1 =>
      simp only [e] at q
      intro vs H1 r1 x1 rg
      cases ea : argS S1 gs with
      | none => simp only [ea] at q; exact q.elim
      | some S0 =>
        simp only [ea] at q
        have pre := (r1.pre rg ea).2
        refine ⟨by rw [rg.1]; exact hn' gs S1 e, fun a => av C ow a ∨ ∃ us, H1 a = some (.lst us), S0, ?_, ?_⟩
        · cases em : m S0 with
          | no => simp only [em] at q; exact q.elim
          | ex c T => simp only [em] at q; exact q.elim
          | ok d T =>
            simp only [em] at q
            cases el : lstOf d with
            | none => simp only [el] at q; exact q.elim
            | some ds =>
              simp only [el] at q
              by_cases hc : okW (i :: lv) S1 = true ∧ S0.all flatSl = true ∧ ds.length ≤ 1000 ∧ ds.all (wrD k) = true
              · obtain ⟨_, hf, _, _⟩ := hc
                rw [List.all_eq_true] at hf
                have val : ∀ {j : Nat} {x : Sl}, S0[j]? = some x → ∃ d, x = .val d ∧ noL d = true := fun {j x} ex => by
                  have := hf x (List.mem_of_getElem? ex)
                  cases x with
                  | val d => exact ⟨d, rfl, this⟩
                  | _ => cases this
                refine ⟨pre.len, fun j x ex => ?_, fun j l ds' es a e1 => ?_, fun a z => ?_⟩
                · obtain ⟨v, e1, e2⟩ := pre.arg j x ex
                  obtain ⟨d, rfl, fd⟩ := val ex
                  exact ⟨v, e1, RD.noL (fun a o xs na qa => ⟨qa, fun z => z.elim na fun ⟨us, z⟩ => by rw [qa] at z; cases z⟩) d v fd e2⟩
                · obtain ⟨d, z, _⟩ := val e1
                  cases z
                · rcases z with z | ⟨us, z⟩
                  · exact pre.trk a z
                  · exact ⟨_, z⟩
              · rw [if_neg hc] at q; exact q.elim
        · cases em : m S0 with
          | no => simp only [em] at q; exact q.elim
          | ex c T => simp only [em] at q; exact q.elim
          | ok d T =>
            simp only [em] at q ⊢
            cases el : lstOf d with
            | none => simp only [el] at q; exact q.elim
            | some ds =>
              simp only [el] at q
              by_cases hc : okW (i :: lv) S1 = true ∧ S0.all flatSl = true ∧ ds.length ≤ 1000 ∧ ds.all (wrD k) = true
              · rw [if_pos hc] at q
                obtain ⟨hok, hf, hlen, hwr⟩ := hc
                rw [List.all_eq_true] at hf
                have psm : ∀ {Hm : Hp}, Post X.K (fun a => av C ow a ∨ ∃ us, H1 a = some (.lst us)) H1 vs S0 T Hm → Same H1 Hm := fun {Hm} post a o ea => post.ext a o ea fun j es ej => by
                  have := hf _ (List.mem_of_getElem? ej)
                  cases this
                suffices key : ∀ (p : Addr) (ws : List V) (H2 : Hp), Same H1 H2 → H2 p = some (.lst ws) → ¬ (av C ow p ∨ ∃ us, H1 p = some (.lst us)) → RDs X.K (fun a => av C ow a ∨ ∃ us, H1 a = some (.lst us)) H2 ws ds → gName i (V.ref p) σ H2 (tSeq (tIfS (xB X.K X.mg W C tst) (tRet (tC (V.bl false))) tNext) (tSeq (tDrop (tBM X.K "list" rAppend (tVar i) (tCons (tC V.non) tNil))) (tFor (iList X.K (tSl (rSlL X.K) (tVar i) tNoPart (tPart (tUn (rU fun i => V.int (-i)) (tC (V.int 1)))))) (gTup X.K (us.length + 1) (gCons (gName c) (gList us))) tb)) D) by
                  cases d with
                  | own es =>
                    cases el
                    intro p ws Hm post np rds
                    have sm := psm post
                    refine key p ws _ (fun a o w => same_new np a o (sm a o w)) upd_same (fun z => ?_) (rds_same rds (same_new np))
                    rcases z with z | ⟨us, z⟩
                    · obtain ⟨o, w⟩ := r1.tracked p z
                      rw [sm p o w] at np
                      cases np
                    · rw [sm p _ z] at np
                      cases np
                  | val z =>
                    cases z with
                    | list es =>
                      cases el
                      intro v Hm post rd
                      cases rd with
                      | @lst p ws _ g1 g2 => exact key p ws Hm (psm post) g1.get.1 g1.get.2 g2
                    | _ => cases el
                  | _ => cases el
                intro p ws H2 s2 p2 np' rds
                have npav : ¬ av C ow p := fun z => np' (.inl z)
                have n1 : H1 p = none := by
                  cases w : H1 p with
                  | none => rfl
                  | some o =>
                    have := s2 p o w
                    rw [p2] at this
                    cases this
                    exact absurd (.inr ⟨ws, w⟩) np'
                have hi : noio S1[i]? = true := (bare_noio (okW_bare hok List.mem_cons_self)).1
                have r2 := r1.same s2
                have rdv : RD X.K (av C ow) H2 (.ref p) (.list ds) := .lst (.inl ⟨.inl p2, npav⟩) (rds_less rds fun a z => .inl z)
                have r3 := r2.putV hi rdv
                have sub : ∀ a, av C (owSet ow i none) a → av C ow a := fun a z => (av_set z).elim id fun y => by cases y
                have li : i < σ.length := by rw [← r1.len]; exact noio_lt hi
                refine ⟨owSet ow i none, S1.set i (.val (.list ds)), r3, ?_⟩
                show pst X.K X.mg W C relB (owSet ow i none) (σ.set i (some (.ref p))) H2 _ (tst (S1.set i (.val (.list ds))))
                cases et : tst (S1.set i (.val (.list ds))) with
                | no => rw [et] at q; exact q
                | ex c T => rw [et] at q; exact q.elim
                | ok b S2 =>
                  simp only [et] at q
                  by_cases hS : S2 = S1.set i (.val (.list ds))
                  · rw [if_pos hS] at q
                    subst hS
                    intro b' H3 r4 x4 eb
                    have eb' : b' = b := eb
                    subst eb'
                    have x13 : Ext (av C (owSet ow i none)) H1 H3 := fun a o na w => x4 a o na (s2 a o w)
                    have xH : Ext (av C ow) H H3 := fun a o na w => x13 a o (fun z => na (sub a z)) (x1 a o na w)
                    have gH : Grow (av C ow) (av C (owSet ow i none)) H := fun a z => .inl (sub a z)
                    cases b' with
                    | true =>
                      rw [if_pos rfl] at q
                      rw [if_pos rfl]
                      exact q _ _ (.bl false) H3 r4 xH gH (.bl false)
                    | false =>
                      rw [if_neg (by decide)] at q
                      rw [if_neg (by decide)]
                      have p3 : H3 p = some (.lst ws) := x4 p _ (fun z => npav (sub p z)) p2
                      have rds3 : RDs X.K (fun a => av C ow a ∨ ∃ us, H1 a = some (.lst us)) H3 ws ds := RDs.mono (fun a o na w => x4 a o (fun z => na (.inl (sub a z))) w) (Grow.refl _ _) ds ws rds
                      have wv : ∀ v ∈ ws, WV X.K H1 H3 k 1000 v := wvs_of (fun a us w na => by
                        cases z : H1 a with
                        | none => rfl
                        | some o =>
                          have := x13 a o (fun y => na (.inl (sub a y))) z
                          rw [w] at this
                          cases this
                          exact absurd (.inr ⟨us, z⟩) na) rds3 hwr
                      have wl : ws.length ≤ 1000 := by rw [rds.len]; exact hlen
                      have big := big_size
                      have at0 : (σ.set i (some (V.ref p)))[i]? = some (some (.ref p)) := List.getElem?_set_self li
                      refine ⟨.ref p, at0, .inl ⟨rfl, ws, SqL.of p3⟩, p, ws, .non, rfl, rfl, p3, by omega, ?_⟩
                      have m1 : Mut H1 1 H3 (upd H3 p (.lst (ws ++ [.non]))) := Mut.put p3 n1 (by simp)
                      refine ⟨.ref p, at0, ?_⟩
                      refine ⟨1, rfl, -1, rfl, p, ws ++ [.non], rfl, SqL.of upd_same, fun l nl => ?_⟩
                      rw [cut_last]
                      have nl1 : H1 l = none := by
                        cases z : H1 l with
                        | none => rfl
                        | some o =>
                          by_cases y : l = p
                          · rw [y, upd_same] at nl; cases nl
                          · rw [upd_ne y] at nl
                            by_cases av1 : av C (owSet ow i none) l
                            · obtain ⟨o', w⟩ := r4.tracked l av1
                              rw [w] at nl; cases nl
                            · rw [x13 l o av1 z] at nl; cases nl
                      have m2 : Mut H1 1 H3 (upd (upd H3 p (.lst (ws ++ [.non]))) l (.lst ws)) := m1.trans (m := 0) (Mut.new nl)
                      refine ⟨l, rfl, ⟨ws, SqL.of upd_same⟩, for_list (xs := ws) (fun j σ2 H2 => Mut H1 (1 + j) H3 H2 ∧ H2 l = some (.lst ws) ∧ σ2.length = σ.length ∧ ∀ t, t ∉ lv → σ2[t]? = (σ.set i (some (V.ref p)))[t]?)
                        ⟨m2, upd_same, by rw [List.length_set], fun _ _ => rfl⟩ (fun j σ2 H2 _ h => SqL.of h.2.1) (fun j x σ2 H2 hx h => ?_) (fun σ2 H2 h => ?_)⟩
                      · obtain ⟨mj, hl2, len2, slots⟩ := h
                        have jl : j < ws.length := (List.getElem?_eq_some_iff.mp hx).1
                        obtain ⟨a, y, bs, rfl, sq3, hbs, nw3⟩ := wv x (List.mem_of_getElem? hx)
                        have sq := sqt_mut mj sq3
                        have nw : ∀ b ∈ bs, Nw H1 H2 (1000 + (1 + j)) b := fun b hb => (nw3 b hb).mut mj
                        have nlb : ∀ b ∈ bs, b ≠ l := fun b hb z => by
                          obtain ⟨_, zs, z1, _⟩ := nw3 b hb
                          rw [z] at z1
                          by_cases y : l = p
                          · rw [y, upd_same] at nl; cases nl
                          · rw [upd_ne y, z1] at nl; cases nl
                        have ul : (V.ref : Addr → V) = V.ref := rfl
                        refine ⟨a, y :: bs.map V.ref, rfl, sq, by simp [hbs, hk], y, bs.map V.ref, rfl, ?_⟩
                        show gList us (bs.map V.ref) (σ2.set c (some y)) H2 _
                        have lens : (σ2.set c (some y)).length = σ.length := by rw [List.length_set, len2]
                        refine gList_run (by simp [hbs, hk]) ?_
                        have hcu : c ∉ us := (List.nodup_cons.mp hnd).1
                        have hus : us.Nodup := (List.nodup_cons.mp hnd).2
                        refine hb _ _ _ bs (by rw [hbs, hk]) (fun t u b hu hbt => ?_) (fun b hb => ?_) fun H5 hA hB => ?_
                        · refine setAll_at hus hu (by rw [List.getElem?_map, hbt]; rfl) ?_
                          rw [lens, ← r1.len]
                          refine noio_lt (bare_noio (okW_bare hok (List.mem_cons_of_mem _ ?_))).1
                          rw [hlv]
                          exact List.mem_cons_of_mem _ (List.mem_of_getElem? hu)
                        · obtain ⟨_, zs, z1, z2⟩ := nw b hb
                          exact ⟨zs, z1, by omega⟩
                        · have mu : Mut H1 1 H2 H5 := fun t o et => by
                            by_cases z : t ∈ bs
                            · obtain ⟨z0, zs, z1, z2⟩ := nw t z
                              obtain ⟨zs', z3, z4⟩ := hB t z zs z1
                              rw [et] at z1
                              cases z1
                              exact .inr ⟨z0, zs, zs', rfl, z3, z4⟩
                            · exact .inl (by rw [hA t z]; exact et)
                          refine ⟨by have := mj.trans mu; rwa [Nat.add_assoc] at this, ?_, ?_, fun t ht => ?_⟩
                          · rw [hA l fun z => nlb l z rfl]
                            exact hl2
                          · rw [setAll_len, lens]
                          · rw [hlv] at ht
                            have ht' : t ≠ c ∧ t ∉ us := by simpa using ht
                            rw [setAll_ne ht'.2, List.getElem?_set_ne (Ne.symm ht'.1)]
                            exact slots t (by rw [hlv]; exact ht)
                      · obtain ⟨mj, _, len2, slots⟩ := h
                        refine q (owSet ow i none) σ2 H2 (Rl.wreck List.mem_cons_self hok r1 r4 (fun j hj => List.getElem?_set_ne fun z => hj (by rw [← z]; exact List.mem_cons_self)) x13 mj (fun j hj => slots j fun z => hj (List.mem_cons_of_mem _ z)) (by rw [len2, List.length_set])) (fun a o na w => ?_) gH
                        exact mj.old (xH a o na w) (by rw [x1 a o na w]; simp)
                  · rw [if_neg hS] at q; exact q.elim
              · rw [if_neg hc] at q; exact q.elim
end
theorem sWr_nx {i k : Nat} {lv : List Nat} {m : Mf} {sg : SG} {tst : STt} {S S0 T : En} {gs : List Ag} {d : Sl} {ds : List PyData} (e1 : sg S = .ok gs S) (e2 : argS S gs = some S0) (e3 : m S0 = .ok d T) (e4 : lstOf d = some ds) (hc : okW (i :: lv) S = true ∧ S0.all flatSl = true ∧ ds.length ≤ 1000 ∧ ds.all (wrD k) = true)
    (e5 : tst (S.set i (.val (.list ds))) = .ok false (S.set i (.val (.list ds)))) : sWr i lv k m sg tst S = .nx (wipeS (i :: lv) (S.set i (.val (.list ds)))) := by
  unfold sWr
  simp only [e1, e2, e3, e4, if_pos hc, e5]
  rfl
end Ds
end

section
set_option Elab.async false
set_option linter.all false
set_option maxRecDepth 100000
set_option maxHeartbeats 4000000
namespace Ds
open PySem PySem.Spec PyProof.Rows L2
/-! ### sorted(l) of pairs of a number and anything, the numbers all different -/
def PairX (g : Heap) (v : Value) (x : Int) : Prop := ∃ (a : Addr) (o : Obj) (t : Tok) (u : Value) (n : Nat), v = .ref a ∧ g.get? a = some o ∧ o.cls = .type "tuple" ∧ o.data = .seq #[.int x t, u] n
theorem PairX.on {g g' : Heap} {v : Value} {x : Int} (p : PairX g v x) (k : ∀ b o, g.get? b = some o → o.cls = .type "tuple" → g'.get? b = some o) : PairX g' v x :=
  let ⟨a, o, t, u, n, e, ho, hc, hd⟩ := p
  ⟨a, o, t, u, n, e, k _ _ ho hc, hc, hd⟩
theorem heads_of {g : Heap} : ∀ {l : List Value}, (∀ v ∈ l, ∃ x, PairX g v x) → ∃ hs : List Value, PySem.W.KatTups g l hs ∧ hs.length = l.length ∧ ∀ z ∈ hs, ∃ x t, z = Value.int x t
  | [], _ => ⟨[], .nil, rfl, fun z hz => by cases hz⟩
  | v :: l, h => by
    obtain ⟨hs, a1, a2, a3⟩ := heads_of (l := l) fun u hu => h u (List.mem_cons_of_mem _ hu)
    obtain ⟨x, a, o, t, u, n, rfl, b1, b2, b3⟩ := h v List.mem_cons_self
    refine ⟨.int x t :: hs, .cons b1 b2 b3 rfl a1, by simp [a2], fun z hz => ?_⟩
    rcases List.mem_cons.mp hz with q | q
    · exact ⟨x, t, q⟩
    · exact a3 z q
section
variable {prog : Program} {w : World} {A : Around} {s : Shared} {E : Value → Shared → Prop}
theorem cmpX {l : List Value} {k : Value → Int} (hp : ∀ v ∈ l, PairX s.heap v (k v)) (hi : ∀ v ∈ l, ∀ u ∈ l, k v = k u → v = u) : SrtO.Cmp prog w A s (tuples' true) (fun p => p.1 ∈ l) (SrtO.lt2 fun v u => decide (k v < k u)) := fun p q hm hm' => by
  have g1 := hp _ hm
  have g2 := hp _ hm'
  have g3 := hi _ hm _ hm'
  show wpAny (model prog w) A (keyLt' (tuples' true) p.1 q.1) (fun r z => z = s ∧ r = decide (k p.1 < k q.1)) (fun _ _ => False) s
  generalize k p.1 = x at g1 g3 ⊢
  generalize k q.1 = y at g2 g3 ⊢
  generalize p.1 = P at *
  generalize q.1 = R at *
  obtain ⟨a, o, t, u, n, rfl, b1, b2, b3⟩ := g1
  obtain ⟨c, m, t', u', n', rfl, c1, c2, c3⟩ := g2
  refine PySem.W.kat_lt b1 b3 c1 c3 ?_
  refine PySem.W.kat_cons (SeqAt.EqAt.int_int x t y t' prog w _ _ (PySem.W.kat_go (fun e1 => ?_) fun e1 => ?_))
  · have exy : x = y := by simpa using e1
    cases g3 exy
    rw [b1] at c1
    cases c1
    rw [b3] at c3
    have eu : u = u' := by
      have := congrArg (fun d => match d with | Data.seq xs _ => xs.toList | _ => []) c3
      simp at this
      exact this.2
    subst eu
    refine PySem.W.kat_yes (PySem.W.kat_cons (SeqAt.EqAt.same u prog w _ _ (PySem.W.kat_go (fun e2 => ?_) fun e2 => ?_)))
    · exact PySem.W.kat_yes (PySem.W.kat_nil ⟨rfl, by simp [exy]⟩)
    · cases e2
  · exact PySem.W.kat_no (oneLt_int ⟨rfl, rfl⟩)
theorem swoK (k : Value → Int) : SrtO.Swo fun v u => decide (k v < k u) := ⟨fun x y h => by simp at h ⊢; omega, fun x y z h1 h2 => by simp at h1 h2 ⊢; omega⟩
theorem sortableX {a : Addr} {l : List Value} {k : Value → Int} (h0 : 0 < l.length) (hp : ∀ v ∈ l, PairX s.heap v (k v)) (hi : ∀ v ∈ l, ∀ u ∈ l, k v = k u → v = u) (ha : ∀ o, s.heap.get? a = some o → o.cls ≠ .type "tuple") : SrtO.SortableO prog w A s a l fun v u => decide (k v < k u) := fun g keep => by
  have hp' : ∀ v ∈ l, PairX g v (k v) := fun v hv => (hp v hv).on fun b o e c => keep b o (fun z => ha o (z ▸ e) c) e
  obtain ⟨hs, q1, q2, q3⟩ := heads_of fun v hv => ⟨_, hp' v hv⟩
  refine ⟨tuples' true, fun Q E hq => PySem.W.kat_kind (T := .type "int") q1 (by omega) (fun z hz => ?_) rfl ?_, cmpX hp' hi⟩
  · obtain ⟨x, t, rfl⟩ := q3 z hz
    exact .now
  · rw [show (Value.type "int" != Value.type "tuple") = true by decide +kernel]
    exact hq
theorem sortedX {l : Addr} {vs : List Value} {k : Value → Int} {Q : Value → Shared → Prop} (hl : s.heap.IsList l vs.toArray) (hz : vs.length ≤ sizeLine) (hp : ∀ v ∈ vs, PairX s.heap v (k v)) (hi : ∀ v ∈ vs, ∀ u ∈ vs, k v = k u → v = u)
    (h : ∀ (g : Heap) (d : Addr) (out : List Value), SrtO.Srtd (fun v u => decide (k v < k u)) out → out.Perm vs → (∀ b o, s.heap.get? b = some o → g.get? b = some o) → s.heap.objs.size ≤ d → (∃ n, g.get? d = some (seqObj "list" out.toArray n)) → Q (.ref d) { s with heap := g }) :
    wpAny (model prog w) A (call (.builtin "sorted") [.ref l]) Q E s :=
  SrtO.sorted_ord (swoK k) hl hz (fun h2 g a ga kk => sortableX (s := { s with heap := g }) (by omega) (fun v hv => (hp v hv).on fun b o e _ => (kk b o e).2) hi fun o e c => by
    cases e.symm.trans ga
    exact absurd (Value.type.inj c) (by decide)) fun out hs hb => h _ _ out hs hb.perm (fun b o e => sortedAll_old e) (Nat.le_succ _) (sortedAll_at s.heap vs out.toArray)
end
abbrev mkX (p : Int × PyData) : PyData := .tuple [.int p.1, p.2]
def prsX : List PyData → Option (List (Int × PyData))
  | [] => some []
  | .tuple [.int a, d] :: ds => (prsX ds).map ((a, d) :: ·)
  | _ => none
theorem prsX_map : ∀ {ds : List PyData} {ps : List (Int × PyData)}, prsX ds = some ps → ds = ps.map mkX
  | [], ps, h => by cases h; rfl
  | .tuple [.int a, d] :: ds, ps, h => by
    change (prsX ds).map ((a, d) :: ·) = some ps at h
    cases e : prsX ds with
    | none => rw [e] at h; cases h
    | some qs =>
      rw [e] at h
      cases h
      rw [List.map_cons, ← prsX_map e]
theorem prsX_mk : ∀ ps : List (Int × PyData), prsX (ps.map mkX) = some ps
  | [] => rfl
  | (a, b) :: ps => by
    show (prsX (ps.map mkX)).map ((a, b) :: ·) = _
    rw [prsX_mk ps]
    rfl
def leX (p q : Int × PyData) : Bool := decide (p.1 ≤ q.1)
def srtX (ps : List (Int × PyData)) : List (Int × PyData) := ps.mergeSort leX
theorem srtX_perm (ps : List (Int × PyData)) : (srtX ps).Perm ps := List.mergeSort_perm ps leX
theorem srtX_sorted (ps : List (Int × PyData)) : (srtX ps).Pairwise (fun p q => leX p q = true) :=
  List.pairwise_mergeSort (fun a b c h g => by simp [leX] at *; omega) (fun a b => by simp [leX]; omega) ps
theorem fst_inj {ps : List (Int × PyData)} (hn : (ps.map Prod.fst).Nodup) {i j : Nat} {p q : Int × PyData} (hp : ps[i]? = some p) (hq : ps[j]? = some q) (e : p.1 = q.1) : i = j := by
  have h1 : (ps.map Prod.fst)[i]? = some p.1 := by rw [List.getElem?_map, hp]; rfl
  have h2 : (ps.map Prod.fst)[j]? = some p.1 := by rw [List.getElem?_map, hq, e]; rfl
  obtain ⟨l1, g1⟩ := List.getElem?_eq_some_iff.mp h1
  obtain ⟨l2, g2⟩ := List.getElem?_eq_some_iff.mp h2
  have pw := List.pairwise_iff_getElem.mp hn
  rcases Nat.lt_trichotomy i j with z | z | z
  · exact absurd (g1.trans g2.symm) (pw i j l1 l2 z)
  · exact z
  · exact absurd (g2.trans g1.symm) (pw j i l2 l1 z)
theorem srtX_of {ps qs : List (Int × PyData)} (hn : (ps.map Prod.fst).Nodup) (h : qs.Perm ps) (g : qs.Pairwise (fun p q => leX p q = true)) : qs = srtX ps := by
  refine List.Perm.eq_of_pairwise (le := fun p q => leX p q = true) (fun a b ha hb h1 h2 => ?_) g (srtX_sorted ps) (h.trans (srtX_perm ps).symm)
  have e : a.1 = b.1 := by simp [leX] at h1 h2; omega
  obtain ⟨i, hi⟩ := List.getElem?_of_mem (h.mem_iff.mp ha)
  obtain ⟨j, hj⟩ := List.getElem?_of_mem ((srtX_perm ps).mem_iff.mp hb)
  have := fst_inj hn hi hj e
  subst this
  rw [hi] at hj
  exact Option.some.inj hj
theorem rd_pairX {K : PySem.W.Frag} {av : Addr → Prop} {H : Hp} {x : V} {p : Int × PyData} (h : RD K av H x (mkX p)) : ∃ t w, x = .ref t ∧ SqT K H t [.int p.1, w] := by
  cases h with
  | tup h1 h2 =>
    cases h2 with
    | @cons _ _ _ _ a b =>
      cases b with
      | cons c d =>
        cases d
        cases a
        exact ⟨_, _, rfl, h1.sq⟩
def rSrtX (K : PySem.W.Frag) : List V → Hp → VK → Prop := fun vs H Q => ∃ (a : Addr) (xs : List V) (ps : List (Int × PyData)) (av : Addr → Prop), vs = [V.ref a] ∧ SqL K H a xs ∧ RDs K av H xs (ps.map mkX) ∧ (ps.map Prod.fst).Nodup ∧
  ∀ ys p, RDs K av H ys ((srtX ps).map mkX) → H p = none → Q (.ref p) (upd H p (.lst ys))
section
variable {X : Cx}
theorem cr_srtX : CallR X (.builtin "sorted") (rSrtX X.K) := by
  intro pins s σ H vs us Q I r h
  obtain ⟨a, xs, ps, av, rfl, hs, hr, hn, q⟩ := h
  obtain ⟨its, rv, hl, hz⟩ := I.list hs
  obtain ⟨u, rfl, ru⟩ := vals1 r
  obtain rfl : u = Value.ref a := ru
  have hlen : xs.length = ps.length := by rw [hr.len, List.length_map]
  have at' : ∀ {i : Nat} {x : V} {p : Int × PyData}, xs[i]? = some x → ps[i]? = some p → RD X.K av H x (mkX p) := fun {i x p} h1 h2 => by
    obtain ⟨v, e1, e2⟩ := hr.get (i := i) (d := mkX p) (by rw [List.getElem?_map, h2]; rfl)
    rw [h1] at e1
    cases e1
    exact e2
  obtain ⟨f, hf⟩ : ∃ f : V → Int × PyData, ∀ x ∈ xs, ∃ i : Nat, xs[i]? = some x ∧ ps[i]? = some (f x) := by
    classical
    have ex : ∀ x ∈ xs, ∃ p, ∃ i : Nat, xs[i]? = some x ∧ ps[i]? = some p := fun x hx => by
      obtain ⟨i, hi⟩ := List.getElem?_of_mem hx
      have l := (List.getElem?_eq_some_iff.mp hi).1
      exact ⟨ps[i]'(by omega), i, hi, List.getElem?_eq_getElem _⟩
    refine ⟨fun x => if h : ∃ p, ∃ i : Nat, xs[i]? = some x ∧ ps[i]? = some p then h.choose else (0, .none), fun x hx => ?_⟩
    have h := ex x hx
    show ∃ i : Nat, xs[i]? = some x ∧ ps[i]? = some (if h : ∃ p, ∃ i : Nat, xs[i]? = some x ∧ ps[i]? = some p then h.choose else (0, .none))
    rw [dif_pos h]
    exact h.choose_spec
  have rf : ∀ x ∈ xs, RD X.K av H x (mkX (f x)) := fun x hx => let ⟨i, h1, h2⟩ := hf x hx; at' h1 h2
  have fA : ∀ (i : Nat) x p, xs[i]? = some x → ps[i]? = some p → f x = p := fun i x p h1 h2 => by
    obtain ⟨j, g1, g2⟩ := hf x (List.mem_of_getElem? h1)
    obtain ⟨t, w1, e1, c1⟩ := rd_pairX (at' h1 h2)
    obtain ⟨t', w2, e2, c2⟩ := rd_pairX (at' g1 g2)
    rw [e1] at e2
    cases e2
    have := I.tuple_inj c1 c2
    injection this with y1 y2
    injection y1 with y1
    have ij := fst_inj hn h2 g2 y1
    subst ij
    rw [h2] at g2
    exact (Option.some.inj g2).symm
  have fB : ∀ x ∈ xs, ∀ y ∈ xs, (f x).1 = (f y).1 → x = y := fun x hx y hy e => by
    obtain ⟨i, g1, g2⟩ := hf x hx
    obtain ⟨j, k1, k2⟩ := hf y hy
    have ij := fst_inj hn g2 k2 e
    subst ij
    rw [g1] at k1
    exact Option.some.inj k1
  have eps : ps = xs.map f := by
    apply List.ext_getElem?
    intro i
    rw [List.getElem?_map]
    cases e : xs[i]? with
    | none =>
      rw [List.getElem?_eq_none_iff] at e
      rw [List.getElem?_eq_none (by omega)]
      rfl
    | some x =>
      have l := (List.getElem?_eq_some_iff.mp e).1
      have e2 : ps[i]? = some (ps[i]'(by omega)) := List.getElem?_eq_getElem _
      rw [e2]
      show some _ = some (f x)
      rw [fA i x _ e e2]
  obtain ⟨e1, e2⟩ := refs_back rv fun x m => by
    obtain ⟨t, _, e, _⟩ := rd_pairX (rf x m)
    exact ⟨t, e⟩
  have hm : ∀ v ∈ its, backV v ∈ xs := fun v hv => by rw [e1]; exact List.mem_map.mpr ⟨v, hv, rfl⟩
  refine sortedX (k := fun u => (f (backV u)).1) hl.isList (by rw [← rv.length]; exact hz) (fun v hv => ?_) (fun v hv u hu e => ?_) fun g d out h1 h2 kp hd hnn => ?_
  · have m := hm v hv
    obtain ⟨t, rfl⟩ := e2 v hv
    obtain ⟨t', w, e, ht⟩ := rd_pairX (rf _ m)
    cases e
    obtain ⟨its2, r2, ⟨o, ho, hc, n, hd⟩, _⟩ := I.tuple ht
    obtain ⟨u1, u2, rfl, ri, rj⟩ := vals2 r2
    obtain ⟨t1, rfl⟩ := ri
    exact ⟨_, o, t1, u2, n, rfl, ho, hc, hd⟩
  · have := fB _ (hm v hv) _ (hm u hu) e
    obtain ⟨t, rfl⟩ := e2 v hv
    obtain ⟨t', rfl⟩ := e2 u hu
    cases this
    rfl
  · have h3 : ∀ u ∈ out, ∃ a, u = Value.ref a := fun u hu => e2 u (h2.mem_iff.mp hu)
    obtain ⟨n, hnn⟩ := hnn
    have hb : (out.map backV).Perm xs := by
      rw [e1]
      exact h2.map backV
    refine ⟨.ref d, upd H d (.lst (out.map backV)), I.laid (t' := s.toks) kp hd ⟨?_, out, n, vals_back h3, hnn⟩, rfl, q _ d ?_ (I.hok.fresh hd)⟩
    · rw [hb.length_eq]
      exact hz
    · have e4 : (out.map backV).map f = srtX ps := by
        refine srtX_of hn ?_ ?_
        · rw [eps]
          exact hb.map f
        · rw [List.pairwise_map, List.pairwise_map]
          refine List.Pairwise.imp (fun {u v} g => ?_) h1
          have g' : ¬ (f (backV v)).1 < (f (backV u)).1 := by simpa using g
          simp [leX]
          omega
      rw [← e4, List.map_map]
      exact rds_mem fun x m => rf x (hb.mem_iff.mp m)
end
section
variable {X : Cx} {W : WX} {C : Cn} {a : Expr} {sr : SN} {pos : Pos}
def srtOfX : List PyData → Option (List PyData)
  | [.list es] => match prsX es with
    | some ps => if (ps.map Prod.fst).Nodup then some ((srtX ps).map mkX) else none
    | none => none
  | _ => none
def sSrtX (sr : SN) : SN := fun S => (sr S).bind fun ds S1 => R.opt (srtOfX ds) S1
theorem n_srtX {x : Str} {p : Pos} (hg : Gl X x) (hm : X.mg x = none) (hv : bootBuiltins x = some (.builtin "sorted")) (ha : PA X [a] (xA X.K X.mg W C sr)) (hn : x ≠ "__name__" := by decide) (hdb : (x == ("__debug__" : Str)) = false := by decide)
    (he : starEach (a :: []) X.env = (false, eval a X.env) :: starEach [] X.env := by rfl) (hpl : (backTo pos (starEach [] X.env)).any (·.1) = false := by rfl) : PE X (.Call (.Name x p) [a] [] pos) (xN X.K X.mg W C (sSrtX sr)) :=
  pe_imp (pe_callB cr_srtX hg hm hv ha hn hdb he hpl) fun σ H Q ⟨ow, S, r, q⟩ => seq early_N r q fun S1 ds vs H1 r1 x1 rd k => by
    cases e : srtOfX ds with
    | none => rw [e] at k; exact k.elim
    | some zs =>
      rw [e] at k
      match ds, rd, e with
      | [.list es], .cons (.lst h1 h2) .nil, e =>
        cases e1 : prsX es with
        | none => simp [srtOfX, e1] at e
        | some ps =>
          by_cases hnd : (ps.map Prod.fst).Nodup
          · have e' : (srtX ps).map mkX = zs := by simpa [srtOfX, e1, hnd] using e
            subst e'
            rw [prsX_map e1] at h2
            exact ⟨_, _, ps, _, rfl, h1.sq, h2, hnd, fun ys l hy nl => pst_same r1 k (same_new nl) ⟨l, _, H1, rfl, nl, rfl, Ext.refl _ _, r1, hy⟩⟩
          · simp [srtOfX, e1, hnd] at e
end
@[simp] theorem r_sSrtX {sr : SN} {S : En} : sSrtX sr S = ((sr S).bnd fun ds S1 => R.opt (srtOfX ds) S1) := rfl
end Ds
end

section
set_option Elab.async false
set_option linter.all false
set_option maxRecDepth 100000
set_option maxHeartbeats 4000000
namespace Ds
open PySem PySem.Spec PyProof.Rows L2
/-! ### list(range(n)); x, l, m = value, new list, new list -/
section
variable {X : Cx} {W : WX} {C : Cn} {pos : Pos} {i j l : Nat} {a : Expr} {sa : SE}
def sLstRg (sa : SE) : SN := fun S => (sa S).bind fun d S1 => match d with
  | .int n => if 0 ≤ n ∧ n ≤ 16777216 then .ok (rng 0 n) S1 else .no
  | _ => .no
theorem n_lstRg {p p2 pos2 : Pos} (hc : X.calm = true) (hg : Gl X "list") (hm : X.mg "list" = none) (hg2 : Gl X "range") (hm2 : X.mg "range" = none) (ha : PE X a (xE X.K X.mg W C sa))
    (na : starEach [.Call (.Name "range" p2) [a] [] pos2] X.env = (false, eval (.Call (.Name "range" p2) [a] [] pos2) X.env) :: starEach [] X.env := by rfl) (nb : starEach [a] X.env = (false, eval a X.env) :: starEach [] X.env := by rfl) :
    PE X (.Call (.Name "list" p) [.Call (.Name "range" p2) [a] [] pos2] [] pos) (xN X.K X.mg W C (sLstRg sa)) :=
  pe_imp (pe_listRg hc hg hm (prg_1 hg2 hm2 ha nb) na) fun σ H Q ⟨ow, S, r, q⟩ => seq early_N r q fun S1 d v H1 r1 x1 rd k1 => by
    cases rd with
    | int n =>
      change pst X.K X.mg W C (relN X.K) ow σ H1 Q (if 0 ≤ n ∧ n ≤ 16777216 then .ok (rng 0 n) S1 else .no) at k1
      by_cases c : 0 ≤ n ∧ n ≤ 16777216
      · rw [if_pos c] at k1
        exact ⟨n, rfl, RgOk.of_le (Int.le_refl 0) c.2 (by omega) c.1, fun l nl => pst_same r1 k1 (same_new nl) ⟨l, _, H1, rfl, nl, rfl, Ext.refl _ _, r1, rds_rg n⟩⟩
      · rw [if_neg c] at k1
        exact k1.elim
    | _ => exact k1.elim
def sPar3N (i j l : Nat) (s1 : SE) (s2 s3 : SN) : SS := fun S => (s1 S).st fun d S1 => (noEx (s2 S1)).st fun es S2 => (noEx (s3 S2)).st fun fs S3 => match put i (.val d) S3 with
  | .nx S4 => match put j (.own es) S4 with
    | .nx S5 => put l (.own fs) S5
    | _ => .no
  | _ => .no
theorem s_par3Nc {e1 e2 e3 : Expr} {s1 : SE} {s2 s3 : SN} {tgs : List Expr} {k2 pt2} (h1 : PE X e1 (xE X.K X.mg W C s1)) (h2 : PE X e2 (xN X.K X.mg W C s2)) (h3 : ∀ C', PE X e3 (xN X.K X.mg W C' s3))
    (hp : ∀ {t u v : TE}, PE X e1 t → PE X e2 u → PE X e3 v → PS X (.Assign tgs (.Tuple [e1, e2, e3] k2 pt2) pos) (tAsg (tTup (tCons t (tCons u (tCons v tNil)))) (gTup X.K 3 (gCons (gName i) (gCons (gName j) (gCons (gName l) gNil)))))) :
    PS X (.Assign tgs (.Tuple [e1, e2, e3] k2 pt2) pos) (xS X.K X.mg W C (sPar3N i j l s1 s2 s3)) :=
  ps_imp (hp (v := fun σ H Q => ∃ C', xN X.K X.mg W C' s3 σ H Q) h1 h2 ⟨fun pins s σ H Q I ⟨C', q⟩ => (h3 C').run pins s σ H Q I q⟩) fun D σ H ⟨ow, S, r, q⟩ => by
    change sst X.K X.mg W C ow H D ((s1 S).st fun d S1 => (noEx (s2 S1)).st fun es S2 => (noEx (s3 S2)).st fun fs S3 => match put i (.val d) S3 with
      | .nx S4 => match put j (.own es) S4 with
        | .nx S5 => put l (.own fs) S5
        | _ => .no
      | _ => .no) at q
    refine ⟨ow, S, r, ?_⟩
    show pst X.K X.mg W C (relE X.K) ow σ H _ (s1 S)
    cases ea : s1 S with
    | no => rw [ea] at q; exact q
    | ex c S' => rw [ea] at q; exact fun H' r' x => q ow σ H' r' x (Grow.refl _ _)
    | ok d S1 =>
      rw [ea] at q
      rintro v H1 r1 x1 rd
      refine ⟨ow, S1, r1, ?_⟩
      show pst X.K X.mg W C (relN X.K) ow σ H1 _ (s2 S1)
      rw [st_ok] at q
      cases eb : s2 S1 with
      | no => rw [eb] at q; exact q
      | ex c S' => rw [eb] at q; exact q.elim
      | ok es S2 =>
        rw [eb, noEx_ok, st_ok] at q
        rintro w H2 r2 x2 ⟨b, ws, Hn, g1, g2, g3, g4, g5, g6⟩
        subst g1
        subst g3
        have f0 := g5.fresh0 g2
        have hio : ∀ i a, C.io i = some a → C.A0 a := fun i a e => (g5.iok i a e).1
        have rp := g5.plus g2 ws
        refine ⟨C.plus b ws, ow, S2, rp, ?_⟩
        show pst X.K X.mg W (C.plus b ws) (relN X.K) ow σ _ _ (s3 S2)
        cases ec : s3 S2 with
        | no => rw [ec] at q; exact q
        | ex c S' => rw [ec] at q; exact q.elim
        | ok fs S3 =>
          rw [ec, noEx_ok, st_ok] at q
          rintro u H3 r3 x3 ⟨c, us, Hk, k1, k2, k3, k4, k5, k6⟩
          subst k1
          subst k3
          refine ⟨by rw [sizeLine_eq]; simp, fun p np => ⟨p, [v, .ref b, .ref c], rfl, .inl (.inl (by simp [upd])), rfl, v, [.ref b, .ref c], rfl, .ref b, [.ref c], rfl, .ref c, [], rfl, rfl, ?_⟩⟩
          unfold put at q
          by_cases hi : noio S3[i]? = true
          · simp only [if_pos hi] at q
            by_cases hj : noio (S3.set i (.val d))[j]? = true
            · simp only [if_pos hj] at q
              by_cases hl : noio ((S3.set i (.val d)).set j (.own es))[l]? = true
              · simp only [if_pos hl] at q
                have gp : Grow (av C ow) (av (C.plus b ws) ow) Hn := grow_plus (us := ws) g2
                have exn : Ext (av C ow) Hn (upd Hn b (.lst ws)) := Ext.same (same_new g2)
                have rd2 : RD X.K (av (C.plus b ws) ow) Hk v d := RD.mono (exn.trans gp k4) gp d v (RD.mono g4 (Grow.refl _ _) d v rd)
                have rv := k5.putV hi rd2
                have lt1 : ∀ {C : Cn} a, av C (owSet ow i none) a → av C ow a := fun a z => (av_set z).elim id fun z => by cases z
                have rds : RDs X.K (av (C.plus b ws) (owSet ow i none)) Hk ws es := rds_less (RDs.mono (exn.trans gp k4) gp es ws g6) lt1
                have ra := rv.adopt (i := j) f0.1 f0.2 hio hj rds
                have lt2 : ∀ a, av C (owSet (owSet ow i none) j (some b)) a → av (C.plus b ws) ow a := fun a z => (av_set z).elim (fun z => av_plus.mpr (.inl (lt1 a z))) fun z => by cases z; exact av_plus.mpr (.inr rfl)
                have rb := ra.putN (i := l) hl k2 (rds_less k6 lt2)
                have ex1 : Ext (av C ow) Hn Hk := fun c o n e => k4 c o (fun z => (av_plus.mp z).elim n fun z => by rw [z, g2] at e; cases e) ((same_new g2) c o e)
                have gr : Grow (av C ow) (av C (owSet (owSet (owSet ow i none) j (some b)) l (some c))) Hn := fun a z => by
                  rcases av_set z with z | z
                  · rcases av_set z with z | z
                    · exact .inl (lt1 a z)
                    · cases z; exact .inr g2
                  · cases z
                    by_cases y : av C ow c
                    · exact .inl y
                    · refine .inr ?_
                      cases w : Hn c with
                      | none => rfl
                      | some o => rw [ex1 c o y w] at k2; cases k2
                have exH : Ext (av C ow) H Hn := x1.trans (Grow.refl _ _) g4
                refine q _ _ _ (rb.same (same_new np)) ?_ (Grow.trans (Grow.refl _ _) exH gr)
                exact ((exH.trans (Grow.refl _ _) ex1).trans (Grow.refl _ _) (Ext.same (same_new k2))).trans (Grow.refl _ _) (Ext.same (same_new np))
              · simp only [if_neg hl] at q
                exact q.elim
            · simp only [if_neg hj] at q
              exact q.elim
          · simp only [if_neg hi] at q
            exact q.elim
end
@[simp] theorem r_sLstRg {sa : SE} {S : En} : sLstRg sa S = ((sa S).bnd fun d S1 => match d with
  | .int n => if 0 ≤ n ∧ n ≤ 16777216 then .ok (rng 0 n) S1 else .no
  | _ => .no) := rfl
@[simp] theorem r_sPar3N {i j l : Nat} {s1 : SE} {s2 s3 : SN} {S : En} : sPar3N i j l s1 s2 s3 S = ((s1 S).stt fun d S1 => (noEx (s2 S1)).stt fun es S2 => (noEx (s3 S2)).stt fun fs S3 => match put i (.val d) S3 with
  | .nx S4 => match put j (.own es) S4 with
    | .nx S5 => put l (.own fs) S5
    | _ => .no
  | _ => .no) := rfl
end Ds
end

section
set_option linter.all false
set_option Elab.async false
set_option maxRecDepth 100000
open PySem PySem.Spec PyProof.Rows L2
namespace Ds
def c__law_removed : SS :=
  (sSeq (sPar3N 2 3 4 (sNE (sLstRg (sBin gAdd (sCallB gLen (sCons (sVar 0) sNil)) (sK (.int 1))))) (sLst (sCons (sK (.int 0)) sNil)) (sLst sNil))
  (sSeq (sFor (sISq (sVar 0)) (gNm 1)
    (sDrop (sAppend 3 (sBin gAdd (sIxV 3 (sVar 1)) (sK (.int 1))))))
  (sSeq (loopW (sTst (sBin gGt (sRd lLen (sLVar 2)) (sK (.int 1))))
    (sSeq (sSet 5 (sBin gIx (sBin gIx (sNE (sSrtP (sCons (sNE (sLc (sIL (sVar 2)) (gNm 8) sYes (sTup (sCons (sIxV 3 (sVar 8)) (sCons (sVar 8) sNil))) [8])) sNil))) (sNeg (sK (.int 1)))) (sK (.int 1))))
    (sSeq (sSet 6 (sBin gIx (sVar 0) (sBin gSub_ (sVar 5) (sK (.int 1)))))
    (sSeq (sSet 7 (sNE (sLc (sIL (sVar 2)) (gNm 8) (sAnd (sTst (sBin gGt (sVar 8) (sK (.int 0)))) (sTst (sBin gEq (sBin gIx (sVar 0) (sBin gSub_ (sVar 8) (sK (.int 1)))) (sVar 6)))) (sVar 8) [8])))
    (sSeq (sDrop (sAppend 4 (sTup (sCons (sVar 6) (sCons (sVar 7) sNil)))))
    (sSet 2 (sNE (sLc (sIL (sVar 2)) (gNm 8) (sAnd (sTst (sBin gNe (sVar 8) (sVar 6))) (sTst (sBin (gInT true) (sVar 8) (sVar 7)))) (sVar 8) [8]))))))) 45)
  (sFrz 4 (sRet (sTup (sCons (sNE (sSrtX (sCons (sVar 4) sNil))) (sCons (sBin gEq (sVar 2) (sNE (sLst (sCons (sK (.int 0)) sNil)))) sNil))))))))
def m__law_removed : Mf := mB 9 c__law_removed
end Ds
end

section
set_option linter.all false
set_option Elab.async false
set_option maxRecDepth 100000
open PySem PySem.Spec PyProof.Rows L2
namespace Ds
def c_carry_out : SS :=
  (sSeq (sSetNew 3 (sListN (sCons (sVar 1) sNil)))
  (sSeq (sSetNew 4 (sLst sNil))
  (sSeq (sFor (sISq (sVar 2)) (gNm 5)
    (sSeq (sSet 6 (sLixV 3 (sVar 5)))
    (sSeq (sSet 7 (sK .none))
    (sSeq (sIf (sTst (sBin gGt (sVar 6) (sK (.int 0))))
      (sSeq (sSet 8 (sBin gIx (sVar 0) (sBin gSub_ (sVar 6) (sK (.int 1)))))
      (sSeq (sSet 7 (sIxV 3 (sVar 8)))
      (sSeq (sSetIx 3 (sVar 8) (sVar 5))
      (sSetIx 3 (sVar 6) (sVar 7)))))
      sNx)
    (sDrop (sAppend 4 (sTup (sCons (sVar 5) (sCons (sVar 6) (sCons (sVar 7) sNil))))))))))
  (sFrz 4 (sRet (sTup (sCons (sRd lTup (sLVar 3)) (sCons (sVar 4) sNil))))))))
def m_carry_out : Mf := mB 9 c_carry_out
def c_settle : SS :=
  (sSeq (sSet 3 (sK (.int 0)))
  (sSeq (sSet 4 (sVar 1))
  (sSeq (loopW (sNot (sTst (sCallV m_is_settled (sGv (sVar 0) (sGv (sVar 4) (sGv (sVar 2) sG0))))))
    (sSeq (sAsg (gTp (gNC (gNm 4) (gNC (gNm 5) gN0))) (sCallV m_carry_out (sGv (sVar 0) (sGv (sVar 4) (sGv (sVar 2) sG0)))))
    (sAug (gII (fun _ _ => true) fun i j => i + j) 3 (sK (.int 1)))) 60)
  (sRet (sTup (sCons (sVar 3) (sCons (sVar 4) sNil)))))))
def m_settle : Mf := mB 6 c_settle
def c_settling_day : SS :=
  (sSeq (sDrop (sCallV m_need_order (sGv (sVar 0) (sGv (sVar 1) (sGv (sVar 2) sG0)))))
  (sSeq (sAsg (gTp (gNC (gNm 3) (gNC (gNm 4) gN0))) (sCallV m_settle (sGv (sVar 0) (sGv (sVar 1) (sGv (sVar 2) sG0)))))
  (sRet (sVar 3))))
def m_settling_day : Mf := mB 5 c_settling_day
def c_settled : SS :=
  (sSeq (sDrop (sCallV m_need_order (sGv (sVar 0) (sGv (sVar 1) (sGv (sVar 2) sG0)))))
  (sSeq (sAsg (gTp (gNC (gNm 3) (gNC (gNm 4) gN0))) (sCallV m_settle (sGv (sVar 0) (sGv (sVar 1) (sGv (sVar 2) sG0)))))
  (sRet (sVar 4))))
def m_settled : Mf := mB 5 c_settled
end Ds
end

section
set_option linter.all false
set_option Elab.async false
set_option maxRecDepth 100000
open PySem PySem.Spec PyProof.Rows L2
namespace Ds
def c_lower_desks : SS :=
  (sRet (sCallV m_open_desks (sGv (sVar 0) (sGv (sNE (sRepN (sLst (sCons (sK (.bool true)) sNil)) (sBin gAdd (sCallB gLen (sCons (sVar 0) sNil)) (sK (.int 1))))) sG0))))
def m_lower_desks : Mf := mB 1 c_lower_desks
def c_groups : SS :=
  (sSeq (sDrop (sCallV m_need_office (sGv (sVar 0) sG0)))
  (sRetNew (sLc (sIEnL (sCons (sCallV m_lower_desks (sGv (sVar 0) sG0)) sNil)) (gTp (gNC (gNm 1) (gNC (gNm 2) gN0))) (sTst (sBin gGt (sRd lLen (sLVar 2)) (sK (.int 0)))) (sTup (sCons (sVar 1) (sCons (sVar 2) sNil))) [1, 2])))
def m_groups : Mf := mB 3 c_groups
def c_is_alone : SS :=
  (sSeq (sDrop (sCallV m_need_office (sGv (sVar 0) sG0)))
  (sRet (sBin gEq (sRd lLen (sEL (sBin gIx (sCallV m_lower_desks (sGv (sVar 0) sG0)) (sK (.int 0))))) (sK (.int 0)))))
def m_is_alone : Mf := mB 1 c_is_alone
end Ds
end

section
set_option linter.all false
set_option Elab.async false
set_option maxRecDepth 100000
open PySem PySem.Spec PyProof.Rows L2
namespace Ds
noncomputable def c_law : SS :=
  (sSeq (sFor (sIL (sBin gAdd (sCut (sVar 0) sP0 (sP1 (sK (.int 8)))) (sNE (sLst (sCons (sK (.int 0)) sNil))))) (gNm 1)
    (sSeq (sSetNew 2 (sCallN m__law_source (sGv (sVar 1) sG0)))
    (sFor (sRng1 (sCons (sK (.int 3)) sNil)) (gNm 3)
      (sSeq (sSet 4 (sCallV m__law_office (sGr 2 (sGv (sBin gIx (sNE (sLst (sCons (sK (.int 5)) (sCons (sK (.int 12)) (sCons (sK (.int 40)) sNil))))) (sCallV m__law_draw (sGr 2 (sGv (sK (.int 3)) sG0)))) sG0))))
      (sSeq (sAsg (gTp (gNC (gNm 6) (gNC (gNm 7) gN0))) (sCallV m__law_removed (sGv (sVar 4) sG0)))
      (sFor (sRng1 (sCons (sK (.int 2)) sNil)) (gNm 5)
        (sWr 8 [9, 10] 1 m_groups (sGv (sVar 4) sG0) (sOr (sTst (sBin gNe (sRepr (sVar 8)) (sRepr (sVar 6)))) (sTst (sBin gNe (sRepr (sCallV m_is_alone (sGv (sVar 4) sG0))) (sRepr (sVar 7))))))))))))
  (sSeq (sIf (sOr (sTst (sBin gNe (sNE (sCallN m_groups (sGv (sTup sNil) sG0))) (sNE (sLst sNil)))) (sTst (sBin gIsNot (sCallV m_is_alone (sGv (sTup sNil) sG0)) (sK (.bool true)))))
    (sRet (sK (.bool false)))
    sNx)
  (sRet (sAndV (sBin gEq (sNE (sCallN m_groups (sGv (sTup (sCons (sK (.int 0)) (sCons (sK (.int 0)) (sCons (sK (.int 2)) sNil)))) sG0))) (sNE (sLst (sCons (sTup (sCons (sK (.int 0)) (sCons (sNE (sLst (sCons (sK (.int 1)) sNil))) sNil))) (sCons (sTup (sCons (sK (.int 2)) (sCons (sNE (sLst (sCons (sK (.int 3)) sNil))) sNil))) sNil))))) (sAndV (sBin gIs (sCallV m_is_alone (sGv (sTup (sCons (sK (.int 0)) (sCons (sK (.int 1)) sNil))) sG0)) (sK (.bool true))) (sBin gIs (sCallV m_is_alone (sGv (sTup (sCons (sK (.int 0)) (sCons (sK (.int 0)) sNil))) sG0)) (sK (.bool false))))))))
noncomputable def m_law : Mf := mB 11 c_law
end Ds
end

section
set_option linter.all false
set_option maxRecDepth 100000
set_option maxHeartbeats 1000000
open PySem PySem.Spec PyProof.Rows L2
namespace Ds
theorem hr100 {k : Nat} {A : Around} (r : Room k A) : A.units + 100 < cLine := by have := r.un; omega
theorem hr65 {k : Nat} {A : Around} (r : Room k A) : A.units + 65 < cLine := by have := r.un; omega
/-! ### the text -/
def topS (i : Nat) : Stmt := PySem.Challenge.pw_deskswaps_k15_groups_of_offices.main.body.getD i (.Pass ⟨0, 0, 0, 0⟩)
section
variable {P : Program} {w : World} {K : PySem.W.Frag} {mg : Str → Option Value} {base : Heap}
abbrev S_is_whole : Stmt := topS 4
abbrev N_is_whole : List Str := ["value"]
theorem sc_is_whole : FnScope N_is_whole ["value"] (defScope S_is_whole) := ⟨rfl, rfl, rfl, by decide +kernel, rfl, by decide +kernel, by decide +kernel⟩
theorem ok_is_whole {f : Addr} {fd : FuncData} (F : Fun K "is_whole" "is_whole" S_is_whole f fd)
    (z_isinstance : mg "isinstance" = none)
    (z_int : mg "int" = none)
    (z_bool : mg "bool" = none) : FnG P w K mg base 1 f fd ["value"] (spM K mg m_is_whole 1) :=
  fn_ok F sc_is_whole fun cdv A outer sh H E C gd hr => (s_one (s_ret (e_and (e_isi rfl z_isinstance (e_var (i := 0) (pv 0)) (pe_bltn (v := .ty "int") rfl z_int (by decide +kernel) rfl)) (pe_one (e_not (e_isi rfl z_isinstance (e_var (i := 0) (pv 0)) (pe_bltn (v := .ty "bool") rfl z_bool (by decide +kernel) rfl)))))))
abbrev S_open_desks : Stmt := topS 11
abbrev N_open_desks : List Str := ["office", "called", "rows", "desk", "_"]
theorem sc_open_desks : FnScope N_open_desks ["office", "called"] (defScope S_open_desks) := ⟨rfl, rfl, rfl, by decide +kernel, rfl, by decide +kernel, by decide +kernel⟩
theorem ok_open_desks {f : Addr} {fd : FuncData} (F : Fun K "open_desks" "open_desks" S_open_desks f fd)
    (z_range : mg "range" = none)
    (z_len : mg "len" = none) : FnG P w K mg base 1 f fd ["office", "called"] (spM K mg m_open_desks 2) :=
  fn_ok F sc_open_desks fun cdv A outer sh H E C gd hr => (s_cons (lc_setN (i := 2) rfl sc_open_desks.nd rfl rfl (sw_true rfl rfl rfl (by decide +kernel)) (own := [("_", 4)]) plain_nm (by decide) (i_seq (e_var (i := 1) (pv 1))) (blkOk_by (own := [("_", 4)]) (N := N_open_desks) (sc := defScope S_open_desks) (by decide +kernel)) (fun _ _ _ _ _ _ => (g_name (pg_name (i := 4) sc_open_desks.nd rfl (by first | exact Or.inl rfl | exact Or.inr rfl)))) (fun _ _ _ _ _ _ => ts_nil) (fun _ _ _ _ _ _ => (n_lst a_nil)))
  (s_cons (s_for (passes_of rfl) rfl plain_nm (i_rng3 rfl z_range (a_cons (e_callB call_len cd_len rfl z_len (by decide +kernel) (a_cons (e_var (i := 0) (pv 0)) a_nil)) (a_cons e_int (a_cons (e_neg e_int) a_nil)))) (g_name (pg_name (i := 3) sc_open_desks.nd rfl (by first | exact Or.inl rfl | exact Or.inr rfl)))
    (s_one (s_if (PW.pt (w_and (t_cmp (op_eqA hr.units) od_eq (e_rdB call_len ld_len rfl z_len (by decide +kernel) (l_nix (i := 2) (pv 2) (e_var (i := 3) (pv 3)) (fun _ _ => rfl))) e_int (nomark _)) (pw_and1 (t_val (e_ix ix_seq od_ix (e_var (i := 1) (pv 1)) (e_var (i := 3) (pv 3)) (fun _ _ => rfl))))))
      (s_one (s_expr (e_nins (i := 2) (fun h1 h2 => pe_bm PySem.F.plainAttrs_list PySem.F.slot_list_insert PySem.F.type_list_insert mt_ins h1 h2) (j_nix (i := 2) (pv 2) (e_ix ix_seq od_ix (e_var (i := 0) (pv 0)) (e_bin op_sub od_sub (e_var (i := 3) (pv 3)) e_int) (fun _ _ => rfl)) (fun _ _ => rfl)) (a_cons e_int (a_cons (e_var (i := 3) (pv 3)) a_nil)))))
      s_nil)))
  (ss_frzN 2 (s_one (s_ret (e_var (i := 2) (pv 2)))))))
abbrev S__law_source : Stmt := topS 17
abbrev N__law_source : List Str := ["cell"]
theorem sc__law_source : FnScope N__law_source ["cell"] (defScope S__law_source) := ⟨rfl, rfl, rfl, by decide +kernel, rfl, by decide +kernel, by decide +kernel⟩
theorem ok__law_source {f : Addr} {fd : FuncData} (F : Fun K "_law_source" "_law_source" S__law_source f fd)
    (z_max : mg "max" = none) : FnG P w K mg base 1 f fd ["cell"] (spM K mg m__law_source 1) :=
  fn_ok F sc__law_source fun cdv A outer sh H E C gd hr => (s_one (s_retNew (n_lst (a_cons (e_callB (call_max2 rfl) cd_max rfl z_max (by decide +kernel) (a_cons e_int (a_cons (e_bin op_sub od_sub (e_var (i := 0) (pv 0)) (e_bin op_pow od_pow e_int e_int)) a_nil))) (a_cons (e_bin op_mod od_mod (e_var (i := 0) (pv 0)) (e_bin or_add od_add (e_bin op_pow od_pow e_int e_int) e_int)) (a_cons e_int a_nil))))))
abbrev S__law_draw : Stmt := topS 18
abbrev N__law_draw : List Str := ["source", "limit", "mixed", "digit"]
theorem sc__law_draw : FnScope N__law_draw ["source", "limit"] (defScope S__law_draw) := ⟨rfl, rfl, rfl, by decide +kernel, rfl, by decide +kernel, by decide +kernel⟩
theorem ok__law_draw {f : Addr} {fd : FuncData} (F : Fun K "_law_draw" "_law_draw" S__law_draw f fd) : FnG P w K mg base 1 f fd ["source", "limit"] (spM K mg m__law_draw 2) :=
  fn_ok F sc__law_draw fun cdv A outer sh H E C gd hr => (s_cons (s_if (t_cmp op_gt od_gt (e_ixV (i := 0) (pv 0) e_int (fun _ _ => rfl)) e_int (nomark _))
    (s_cons (s_set (i := 3) (e_bin op_mod od_mod (e_ixV (i := 0) (pv 0) e_int (fun _ _ => rfl)) (e_var (i := 1) (pv 1))) (fun h => ps_set (i := 3) sc__law_draw.nd rfl (by first | exact Or.inl rfl | exact Or.inr rfl) h))
    (s_cons (s_setIx (i := 0) (e_bin op_fdivW od_div (e_ixV (i := 0) (pv 0) e_int (fun _ _ => rfl)) (e_var (i := 1) (pv 1))) e_int (fun h1 h2 => ps_asg h1 (pg_sub (pv 0) h2 set_list)))
    (s_one (s_ret (e_var (i := 3) (pv 3))))))
    s_nil)
  (s_cons (s_setIx (i := 0) (e_bin or_add od_add (e_ixV (i := 0) (pv 0) e_int (fun _ _ => rfl)) e_int) e_int (fun h1 h2 => ps_asg h1 (pg_sub (pv 0) h2 set_list)))
  (s_cons (s_set (i := 2) (e_bin op_mod od_mod (e_bin op_powB od_powB (e_bin or_add od_add (e_ixV (i := 0) (pv 0) e_int (fun _ _ => rfl)) (e_bin op_mulW od_mul e_int (e_ixV (i := 0) (pv 0) e_int (fun _ _ => rfl)))) e_int) (e_bin or_add od_add (e_bin op_pow od_pow e_int e_int) e_int)) (fun h => ps_set (i := 2) sc__law_draw.nd rfl (by first | exact Or.inl rfl | exact Or.inr rfl) h))
  (s_cons (s_set (i := 2) (e_bin op_mod od_mod (e_bin op_powB od_powB (e_bin or_add od_add (e_var (i := 2) (pv 2)) (e_bin op_mulW od_mul e_int (e_ixV (i := 0) (pv 0) e_int (fun _ _ => rfl)))) e_int) (e_bin or_add od_add (e_bin op_pow od_pow e_int e_int) e_int)) (fun h => ps_set (i := 2) sc__law_draw.nd rfl (by first | exact Or.inl rfl | exact Or.inr rfl) h))
  (s_one (s_ret (e_bin op_mod od_mod (e_bin op_fdivW od_div (e_var (i := 2) (pv 2)) e_int) (e_var (i := 1) (pv 1)))))))))
abbrev S__law_removed : Stmt := topS 20
abbrev N__law_removed : List Str := ["office", "boss", "left", "deep", "found", "last", "up", "under", "desk"]
theorem sc__law_removed : FnScope N__law_removed ["office"] (defScope S__law_removed) := ⟨rfl, rfl, rfl, by decide +kernel, rfl, by decide +kernel, by decide +kernel⟩
theorem ok__law_removed {f : Addr} {fd : FuncData} (F : Fun K "_law_removed" "_law_removed" S__law_removed f fd)
    (z_list : mg "list" = none)
    (z_len : mg "len" = none)
    (z_sorted : mg "sorted" = none)
    (z_range : mg "range" = none) : FnG P w K mg base 1 f fd ["office"] (spM K mg m__law_removed 1) :=
  fn_ok F sc__law_removed fun cdv A outer sh H E C gd hr => (s_cons (s_par3Nc (i := 2) (j := 3) (l := 4) (e_of_n (n_lstRg rfl rfl z_list rfl z_range (e_bin or_add od_add (e_callB call_len cd_len rfl z_len (by decide +kernel) (a_cons (e_var (i := 0) (pv 0)) a_nil)) e_int))) (n_lst (a_cons e_int a_nil)) (fun _ => (n_lst a_nil)) (fun h1 h2 h3 => ps_asg (pe_tup (pa_cons h1 (pa_cons h2 (pa_cons h3 pa_nil)))) (pg_tup rfl (pgs_cons (pg_name (i := 2) sc__law_removed.nd rfl (by first | exact Or.inl rfl | exact Or.inr rfl)) (pgs_cons (pg_name (i := 3) sc__law_removed.nd rfl (by first | exact Or.inl rfl | exact Or.inr rfl)) (pgs_cons (pg_name (i := 4) sc__law_removed.nd rfl (by first | exact Or.inl rfl | exact Or.inr rfl)) pgs_nil))))))
  (s_cons (s_for (passes_of rfl) rfl plain_nm (i_seq (e_var (i := 0) (pv 0))) (g_name (pg_name (i := 1) sc__law_removed.nd rfl (by first | exact Or.inl rfl | exact Or.inr rfl)))
    (s_one (s_expr (e_app (i := 3) (fun h => pe_bm PySem.F.plainAttrs_list PySem.F.slot_list_append PySem.F.type_list_append mt_append (pv 3) (pa_cons h pa_nil)) (e_bin or_add od_add (e_ixV (i := 3) (pv 3) (e_var (i := 1) (pv 1)) (fun _ _ => rfl)) e_int)))))
  (s_cons (s_while 45 (passes_of rfl) (t_cmp op_gt od_gt (e_rdB call_len ld_len rfl z_len (by decide +kernel) (l_var (i := 2) (pv 2))) e_int (nomark _))
    (s_cons (s_set (i := 5) (e_ix ix_seq od_ix (e_ix ix_seq od_ix (e_of_n (n_srtP rfl z_sorted (by decide +kernel) (a_cons (e_of_n (n_lc rfl sc__law_removed.nd (own := [("desk", 8)]) plain_nm (by decide) (i_list (e_var (i := 2) (pv 2))) (blkOk_by (own := [("desk", 8)]) (N := N__law_removed) (sc := defScope S__law_removed) (by decide +kernel)) (fun _ _ _ _ _ _ => (g_name (pg_name (i := 8) sc__law_removed.nd rfl (by first | exact Or.inl rfl | exact Or.inr rfl)))) (fun _ _ _ _ _ _ => ts_nil) (fun _ _ _ _ _ _ => (e_tup (a_cons (e_ixV (i := 3) (pv 3) (e_var (i := 8) (pv 8)) (fun _ _ => rfl)) (a_cons (e_var (i := 8) (pv 8)) a_nil)))))) a_nil))) (e_neg e_int) (fun _ _ => rfl)) e_int (fun _ _ => rfl)) (fun h => ps_set (i := 5) sc__law_removed.nd rfl (by first | exact Or.inl rfl | exact Or.inr rfl) h))
    (s_cons (s_set (i := 6) (e_ix ix_seq od_ix (e_var (i := 0) (pv 0)) (e_bin op_sub od_sub (e_var (i := 5) (pv 5)) e_int) (fun _ _ => rfl)) (fun h => ps_set (i := 6) sc__law_removed.nd rfl (by first | exact Or.inl rfl | exact Or.inr rfl) h))
    (s_cons (s_set (i := 7) (e_of_n (n_lc rfl sc__law_removed.nd (own := [("desk", 8)]) plain_nm (by decide) (i_list (e_var (i := 2) (pv 2))) (blkOk_by (own := [("desk", 8)]) (N := N__law_removed) (sc := defScope S__law_removed) (by decide +kernel)) (fun _ _ _ _ _ _ => (g_name (pg_name (i := 8) sc__law_removed.nd rfl (by first | exact Or.inl rfl | exact Or.inr rfl)))) (fun _ _ _ _ _ _ => (ts_one (PW.pt (w_and (t_cmp op_gt od_gt (e_var (i := 8) (pv 8)) e_int (nomark _)) (pw_and1 (t_cmp (op_eqA hr.units) od_eq (e_ix ix_seq od_ix (e_var (i := 0) (pv 0)) (e_bin op_sub od_sub (e_var (i := 8) (pv 8)) e_int) (fun _ _ => rfl)) (e_var (i := 6) (pv 6)) (nomark _))))))) (fun _ _ _ _ _ _ => (e_var (i := 8) (pv 8))))) (fun h => ps_set (i := 7) sc__law_removed.nd rfl (by first | exact Or.inl rfl | exact Or.inr rfl) h))
    (s_cons (s_expr (e_app (i := 4) (fun h => pe_bm PySem.F.plainAttrs_list PySem.F.slot_list_append PySem.F.type_list_append mt_append (pv 4) (pa_cons h pa_nil)) (e_tup (a_cons (e_var (i := 6) (pv 6)) (a_cons (e_var (i := 7) (pv 7)) a_nil)))))
    (s_one (lc_set (i := 2) rfl sc__law_removed.nd rfl rfl (sw_true rfl rfl rfl (by decide +kernel)) (own := [("desk", 8)]) plain_nm (by decide) (i_list (e_var (i := 2) (pv 2))) (blkOk_by (own := [("desk", 8)]) (N := N__law_removed) (sc := defScope S__law_removed) (by decide +kernel)) (fun _ _ _ _ _ _ => (g_name (pg_name (i := 8) sc__law_removed.nd rfl (by first | exact Or.inl rfl | exact Or.inr rfl)))) (fun _ _ _ _ _ _ => (ts_one (PW.pt (w_and (t_cmp (op_neA hr.units) od_ne (e_var (i := 8) (pv 8)) (e_var (i := 6) (pv 6)) (nomark _)) (pw_and1 (t_cmp op_notIn_seq (od_inT true) (e_var (i := 8) (pv 8)) (e_var (i := 7) (pv 7)) rfl)))))) (fun _ _ _ _ _ _ => (e_var (i := 8) (pv 8))) (fun _ _ _ h => asgE h))))))))
  (ss_frz 4 (s_one (s_ret (e_tup (a_cons (e_of_n (n_srtX rfl z_sorted (by decide +kernel) (a_cons (e_var (i := 4) (pv 4)) a_nil))) (a_cons (e_cmp (op_eqA hr.units) od_eq (e_var (i := 2) (pv 2)) (e_of_n (n_lst (a_cons e_int a_nil))) (nomark _)) a_nil)))))))))
abbrev S_is_number : Stmt := topS 5
abbrev N_is_number : List Str := ["value", "low", "high"]
theorem sc_is_number : FnScope N_is_number ["value", "low", "high"] (defScope S_is_number) := ⟨rfl, rfl, rfl, by decide +kernel, rfl, by decide +kernel, by decide +kernel⟩
theorem ok_is_number {f : Addr} {fd : FuncData} (F : Fun K "is_number" "is_number" S_is_number f fd)
    {f_is_whole : Addr} {fd_is_whole : FuncData} (G_is_whole : FnG P w K mg base 1 f_is_whole fd_is_whole ["value"] (spM K mg m_is_whole 1)) (g_is_whole : mg "is_whole" = some (.ref f_is_whole)) (k_is_whole : PySem.W.keepIn K (.ref f_is_whole) = true) (b_is_whole : Binds K fd_is_whole ["value"] []) : FnG P w K mg base 2 f fd ["value", "low", "high"] (spM K mg m_is_number 3) :=
  fn_ok F sc_is_number fun cdv A outer sh H E C gd hr => (s_one (s_ret (e_and (e_call G_is_whole gd (hr.mono (by decide)) rfl g_is_whole k_is_whole b_is_whole (takes_of rfl rfl rfl rfl) (g_val (e_var (i := 0) (pv 0)) g_nil) (lnv ln0)) (pe_one (e_chain op_le op_le od_le od_le (e_var (i := 1) (pv 1)) (e_var (i := 0) (pv 0)) (e_var (i := 2) (pv 2)))))))
abbrev S_lower_desks : Stmt := topS 13
abbrev N_lower_desks : List Str := ["office"]
theorem sc_lower_desks : FnScope N_lower_desks ["office"] (defScope S_lower_desks) := ⟨rfl, rfl, rfl, by decide +kernel, rfl, by decide +kernel, by decide +kernel⟩
theorem ok_lower_desks {f : Addr} {fd : FuncData} (F : Fun K "lower_desks" "lower_desks" S_lower_desks f fd)
    {f_open_desks : Addr} {fd_open_desks : FuncData} (G_open_desks : FnG P w K mg base 1 f_open_desks fd_open_desks ["office", "called"] (spM K mg m_open_desks 2)) (g_open_desks : mg "open_desks" = some (.ref f_open_desks)) (k_open_desks : PySem.W.keepIn K (.ref f_open_desks) = true) (b_open_desks : Binds K fd_open_desks ["office", "called"] [])
    (z_len : mg "len" = none) : FnG P w K mg base 2 f fd ["office"] (spM K mg m_lower_desks 1) :=
  fn_ok F sc_lower_desks fun cdv A outer sh H E C gd hr => (s_one (s_ret (e_call G_open_desks gd (hr.mono (by decide)) rfl g_open_desks k_open_desks b_open_desks (takes_of rfl rfl rfl rfl) (g_val (e_var (i := 0) (pv 0)) (g_val (e_of_n (n_rep (n_lst (a_cons e_bl a_nil)) (fun _ => (e_bin or_add od_add (e_callB call_len cd_len rfl z_len (by decide +kernel) (a_cons (e_var (i := 0) (pv 0)) a_nil)) e_int)))) g_nil)) (lnv (lnv ln0)))))
abbrev S__law_office : Stmt := topS 19
abbrev N__law_office : List Str := ["source", "most", "sizes", "found", "desk", "size", "style", "any_one", "near", "early"]
theorem sc__law_office : FnScope N__law_office ["source", "most"] (defScope S__law_office) := ⟨rfl, rfl, rfl, by decide +kernel, rfl, by decide +kernel, by decide +kernel⟩
theorem ok__law_office {f : Addr} {fd : FuncData} (F : Fun K "_law_office" "_law_office" S__law_office f fd)
    {f__law_draw : Addr} {fd__law_draw : FuncData} (G__law_draw : FnG P w K mg base 1 f__law_draw fd__law_draw ["source", "limit"] (spM K mg m__law_draw 2)) (g__law_draw : mg "_law_draw" = some (.ref f__law_draw)) (k__law_draw : PySem.W.keepIn K (.ref f__law_draw) = true) (b__law_draw : Binds K fd__law_draw ["source", "limit"] [])
    (z_range : mg "range" = none)
    (z_tuple : mg "tuple" = none)
    (z_min : mg "min" = none)
    (z_max : mg "max" = none) : FnG P w K mg base 2 f fd ["source", "most"] (spM K mg m__law_office 2) :=
  fn_ok F sc__law_office fun cdv A outer sh H E C gd hr => (s_cons (s_set (i := 2) (e_of_n (n_lst (a_cons (e_bin or_add od_add e_int (e_call G__law_draw gd (hr.mono (by decide)) rfl g__law_draw k__law_draw b__law_draw (takes_of rfl rfl rfl rfl) (g_ref (i := 0) (pv 0) (g_val (e_callB (call_min2 rfl) cd_min rfl z_min (by decide +kernel) (a_cons (e_var (i := 1) (pv 1)) (a_cons e_int a_nil))) g_nil)) (lnr (lnv ln0)))) (a_cons (e_bin or_add od_add e_int (e_call G__law_draw gd (hr.mono (by decide)) rfl g__law_draw k__law_draw b__law_draw (takes_of rfl rfl rfl rfl) (g_ref (i := 0) (pv 0) (g_val (e_var (i := 1) (pv 1)) g_nil)) (lnr (lnv ln0)))) (a_cons (e_var (i := 1) (pv 1)) a_nil))))) (fun h => ps_set (i := 2) sc__law_office.nd rfl (by first | exact Or.inl rfl | exact Or.inr rfl) h))
  (s_cons (s_parV (i := 5) (j := 6) (a_cons (e_ix ix_seq od_ix (e_var (i := 2) (pv 2)) (e_call G__law_draw gd (hr.mono (by decide)) rfl g__law_draw k__law_draw b__law_draw (takes_of rfl rfl rfl rfl) (g_ref (i := 0) (pv 0) (g_val e_int g_nil)) (lnr (lnv ln0))) (fun _ _ => rfl)) (a_cons (e_call G__law_draw gd (hr.mono (by decide)) rfl g__law_draw k__law_draw b__law_draw (takes_of rfl rfl rfl rfl) (g_ref (i := 0) (pv 0) (g_val e_int g_nil)) (lnr (lnv ln0))) a_nil)) (fun h => ps_par rfl sc__law_office.nd rfl rfl (by decide) rfl rfl h (by rfl)))
  (s_cons (s_setNew (i := 3) (n_lst a_nil) (fun h => ps_set (i := 3) sc__law_office.nd rfl (by first | exact Or.inl rfl | exact Or.inr rfl) h))
  (s_cons (s_for (passes_of rfl) rfl plain_nm (i_rng2 rfl z_range (a_cons e_int (a_cons (e_var (i := 5) (pv 5)) a_nil))) (g_name (pg_name (i := 4) sc__law_office.nd rfl (by first | exact Or.inl rfl | exact Or.inr rfl)))
    (s_cons (s_parV3 (i := 7) (j := 8) (l := 9) (a_cons (e_call G__law_draw gd (hr.mono (by decide)) rfl g__law_draw k__law_draw b__law_draw (takes_of rfl rfl rfl rfl) (g_ref (i := 0) (pv 0) (g_val (e_var (i := 4) (pv 4)) g_nil)) (lnr (lnv ln0))) (a_cons (e_call G__law_draw gd (hr.mono (by decide)) rfl g__law_draw k__law_draw b__law_draw (takes_of rfl rfl rfl rfl) (g_ref (i := 0) (pv 0) (g_val e_int g_nil)) (lnr (lnv ln0))) (a_cons (e_call G__law_draw gd (hr.mono (by decide)) rfl g__law_draw k__law_draw b__law_draw (takes_of rfl rfl rfl rfl) (g_ref (i := 0) (pv 0) (g_val (e_callB (call_min2 rfl) cd_min rfl z_min (by decide +kernel) (a_cons (e_var (i := 4) (pv 4)) (a_cons e_int a_nil))) g_nil)) (lnr (lnv ln0))) a_nil))) (fun h => ps_par3 rfl sc__law_office.nd rfl rfl rfl (by decide) (by decide) (by decide) rfl rfl rfl h (by rfl)))
    (s_one (s_expr (e_app (i := 3) (fun h => pe_bm PySem.F.plainAttrs_list PySem.F.slot_list_append PySem.F.type_list_append mt_append (pv 3) (pa_cons h pa_nil)) (e_ix ix_seq od_ix (e_of_n (n_lst (a_cons (e_bin op_sub od_sub (e_var (i := 4) (pv 4)) e_int) (a_cons e_int (a_cons (e_var (i := 7) (pv 7)) (a_cons (e_callB (call_max2 rfl) cd_max rfl z_max (by decide +kernel) (a_cons e_int (a_cons (e_bin op_sub od_sub (e_bin op_sub od_sub (e_var (i := 4) (pv 4)) e_int) (e_var (i := 8) (pv 8))) a_nil))) (a_cons (e_var (i := 9) (pv 9)) a_nil))))))) (e_var (i := 6) (pv 6)) (fun _ _ => rfl)))))))
  (s_one (s_ret (e_rdT call_tupF ld_tup rfl z_tuple (by decide +kernel) (l_var (i := 3) (pv 3)))))))))
abbrev S_is_office : Stmt := topS 8
abbrev N_is_office : List Str := ["value", "index", "item"]
theorem sc_is_office : FnScope N_is_office ["value"] (defScope S_is_office) := ⟨rfl, rfl, rfl, by decide +kernel, rfl, by decide +kernel, by decide +kernel⟩
theorem ok_is_office {f : Addr} {fd : FuncData} (F : Fun K "is_office" "is_office" S_is_office f fd)
    {f_is_number : Addr} {fd_is_number : FuncData} (G_is_number : FnG P w K mg base 2 f_is_number fd_is_number ["value", "low", "high"] (spM K mg m_is_number 3)) (g_is_number : mg "is_number" = some (.ref f_is_number)) (k_is_number : PySem.W.keepIn K (.ref f_is_number) = true) (b_is_number : Binds K fd_is_number ["value", "low", "high"] [])
    (z_all : mg "all" = none)
    (z_isinstance : mg "isinstance" = none)
    (z_tuple : mg "tuple" = none)
    (z_len : mg "len" = none)
    (z_enumerate : mg "enumerate" = none)
    {t_MOST_DESKS : Tok} (z_MOST_DESKS : mg "MOST_DESKS" = some (.int 40 t_MOST_DESKS)) : FnG P w K mg base 3 f fd ["value"] (spM K mg m_is_office 1) :=
  fn_ok F sc_is_office fun cdv A outer sh H E C gd hr => (s_cons (s_if (PW.pt (w_or (t_not (t_val (e_isi rfl z_isinstance (e_var (i := 0) (pv 0)) (pe_bltn (v := .ty "tuple") rfl z_tuple (by decide +kernel) rfl)))) (pw_or1 (t_cmp op_ge od_ge (e_callB call_len cd_len rfl z_len (by decide +kernel) (a_cons (e_var (i := 0) (pv 0)) a_nil)) (e_con (d := .int 40) (v := .int 40) (pe_glob rfl z_MOST_DESKS ⟨_, rfl⟩) (fun _ _ => .int _)) (nomark _)))))
    (s_one (s_ret e_bl))
    s_nil)
  (s_one (s_ret (e_rdB (cr_all rfl) ld_all rfl z_all (by decide +kernel) (l_of_n (n_lc rfl sc_is_office.nd (own := [("index", 1), ("item", 2)]) (plain_t (plains_c plain_nm (plains_c plain_nm plains_0))) (by decide) (i_enumT rfl z_enumerate (a_cons (e_var (i := 0) (pv 0)) a_nil)) (blkOk_by (own := [("index", 1), ("item", 2)]) (N := N_is_office) (sc := defScope S_is_office) (by decide +kernel)) (fun _ _ _ _ _ _ => (g_tup rfl (gs_cons (g_name (pg_name (i := 1) sc_is_office.nd rfl (by first | exact Or.inl rfl | exact Or.inr rfl))) (gs_cons (g_name (pg_name (i := 2) sc_is_office.nd rfl (by first | exact Or.inl rfl | exact Or.inr rfl))) gs_nil)) (glc (glc gl0)))) (fun _ _ _ _ _ _ => ts_nil) (fun _ _ _ _ _ _ => (e_call G_is_number gd (hr.mono (by decide)) rfl g_is_number k_is_number b_is_number takes0 (g_val (e_var (i := 2) (pv 2)) (g_val e_int (g_val (e_var (i := 1) (pv 1)) g_nil))) (lnv (lnv (lnv ln0)))))))))))
abbrev S_need_office : Stmt := topS 9
abbrev N_need_office : List Str := ["office"]
theorem sc_need_office : FnScope N_need_office ["office"] (defScope S_need_office) := ⟨rfl, rfl, rfl, by decide +kernel, rfl, by decide +kernel, by decide +kernel⟩
theorem ok_need_office {f : Addr} {fd : FuncData} (F : Fun K "need_office" "need_office" S_need_office f fd)
    {f_is_office : Addr} {fd_is_office : FuncData} (G_is_office : FnG P w K mg base 3 f_is_office fd_is_office ["value"] (spM K mg m_is_office 1)) (g_is_office : mg "is_office" = some (.ref f_is_office)) (k_is_office : PySem.W.keepIn K (.ref f_is_office) = true) (b_is_office : Binds K fd_is_office ["value"] []) : FnG P w K mg base 4 f fd ["office"] (spM K mg m_need_office 1) :=
  fn_ok F sc_need_office fun cdv A outer sh H E C gd hr => (s_one (s_if (t_not (t_val (e_call G_is_office gd (hr.mono (by decide)) rfl g_is_office k_is_office b_is_office (takes_of rfl rfl rfl rfl) (g_val (e_var (i := 0) (pv 0)) g_nil) (lnv ln0))))
    (s_one s_never)
    s_nil))
abbrev S_groups : Stmt := topS 14
abbrev N_groups : List Str := ["office", "center", "lower"]
theorem sc_groups : FnScope N_groups ["office"] (defScope S_groups) := ⟨rfl, rfl, rfl, by decide +kernel, rfl, by decide +kernel, by decide +kernel⟩
theorem ok_groups {f : Addr} {fd : FuncData} (F : Fun K "groups" "groups" S_groups f fd)
    {f_need_office : Addr} {fd_need_office : FuncData} (G_need_office : FnG P w K mg base 4 f_need_office fd_need_office ["office"] (spM K mg m_need_office 1)) (g_need_office : mg "need_office" = some (.ref f_need_office)) (k_need_office : PySem.W.keepIn K (.ref f_need_office) = true) (b_need_office : Binds K fd_need_office ["office"] [])
    {f_lower_desks : Addr} {fd_lower_desks : FuncData} (G_lower_desks : FnG P w K mg base 2 f_lower_desks fd_lower_desks ["office"] (spM K mg m_lower_desks 1)) (g_lower_desks : mg "lower_desks" = some (.ref f_lower_desks)) (k_lower_desks : PySem.W.keepIn K (.ref f_lower_desks) = true) (b_lower_desks : Binds K fd_lower_desks ["office"] [])
    (z_enumerate : mg "enumerate" = none)
    (z_len : mg "len" = none) : FnG P w K mg base 5 f fd ["office"] (spM K mg m_groups 1) :=
  fn_ok F sc_groups fun cdv A outer sh H E C gd hr => (s_cons (s_expr (e_call G_need_office gd (hr.mono (by decide)) rfl g_need_office k_need_office b_need_office (takes_of rfl rfl rfl rfl) (g_val (e_var (i := 0) (pv 0)) g_nil) (lnv ln0)))
  (s_one (s_retNew (n_lc rfl sc_groups.nd (own := [("center", 1), ("lower", 2)]) (plain_t (plains_c plain_nm (plains_c plain_nm plains_0))) (by decide) (i_enumL rfl z_enumerate (a_cons (e_call G_lower_desks gd (hr.mono (by decide)) rfl g_lower_desks k_lower_desks b_lower_desks (takes_of rfl rfl rfl rfl) (g_val (e_var (i := 0) (pv 0)) g_nil) (lnv ln0)) a_nil)) (blkOk_by (own := [("center", 1), ("lower", 2)]) (N := N_groups) (sc := defScope S_groups) (by decide +kernel)) (fun _ _ _ _ _ _ => (g_tup rfl (gs_cons (g_name (pg_name (i := 1) sc_groups.nd rfl (by first | exact Or.inl rfl | exact Or.inr rfl))) (gs_cons (g_name (pg_name (i := 2) sc_groups.nd rfl (by first | exact Or.inl rfl | exact Or.inr rfl))) gs_nil)) (glc (glc gl0)))) (fun _ _ _ _ _ _ => (ts_one (t_cmp op_gt od_gt (e_rdB call_len ld_len rfl z_len (by decide +kernel) (l_var (i := 2) (pv 2))) e_int (nomark _)))) (fun _ _ _ _ _ _ => (e_tup (a_cons (e_var (i := 1) (pv 1)) (a_cons (e_var (i := 2) (pv 2)) a_nil))))))))
abbrev S_is_alone : Stmt := topS 15
abbrev N_is_alone : List Str := ["office"]
theorem sc_is_alone : FnScope N_is_alone ["office"] (defScope S_is_alone) := ⟨rfl, rfl, rfl, by decide +kernel, rfl, by decide +kernel, by decide +kernel⟩
theorem ok_is_alone {f : Addr} {fd : FuncData} (F : Fun K "is_alone" "is_alone" S_is_alone f fd)
    {f_need_office : Addr} {fd_need_office : FuncData} (G_need_office : FnG P w K mg base 4 f_need_office fd_need_office ["office"] (spM K mg m_need_office 1)) (g_need_office : mg "need_office" = some (.ref f_need_office)) (k_need_office : PySem.W.keepIn K (.ref f_need_office) = true) (b_need_office : Binds K fd_need_office ["office"] [])
    {f_lower_desks : Addr} {fd_lower_desks : FuncData} (G_lower_desks : FnG P w K mg base 2 f_lower_desks fd_lower_desks ["office"] (spM K mg m_lower_desks 1)) (g_lower_desks : mg "lower_desks" = some (.ref f_lower_desks)) (k_lower_desks : PySem.W.keepIn K (.ref f_lower_desks) = true) (b_lower_desks : Binds K fd_lower_desks ["office"] [])
    (z_len : mg "len" = none) : FnG P w K mg base 5 f fd ["office"] (spM K mg m_is_alone 1) :=
  fn_ok F sc_is_alone fun cdv A outer sh H E C gd hr => (s_cons (s_expr (e_call G_need_office gd (hr.mono (by decide)) rfl g_need_office k_need_office b_need_office (takes_of rfl rfl rfl rfl) (g_val (e_var (i := 0) (pv 0)) g_nil) (lnv ln0)))
  (s_one (s_ret (e_cmp (op_eqA hr.units) od_eq (e_rdB call_len ld_len rfl z_len (by decide +kernel) (l_of_e (e_ix ix_seq od_ix (e_call G_lower_desks gd (hr.mono (by decide)) rfl g_lower_desks k_lower_desks b_lower_desks (takes_of rfl rfl rfl rfl) (g_val (e_var (i := 0) (pv 0)) g_nil) (lnv ln0)) e_int (fun _ _ => rfl)))) e_int (nomark _)))))
abbrev S_law : Stmt := topS 21
abbrev N_law : List Str := ["script", "cell", "source", "turn", "office", "again", "due", "alone", "found", "center", "under"]
theorem sc_law : FnScope N_law ["script"] (defScope S_law) := ⟨rfl, rfl, rfl, by decide +kernel, rfl, by decide +kernel, by decide +kernel⟩
theorem ok_law {f : Addr} {fd : FuncData} (F : Fun K "law" "law" S_law f fd)
    {f__law_source : Addr} {fd__law_source : FuncData} (G__law_source : FnG P w K mg base 1 f__law_source fd__law_source ["cell"] (spM K mg m__law_source 1)) (g__law_source : mg "_law_source" = some (.ref f__law_source)) (k__law_source : PySem.W.keepIn K (.ref f__law_source) = true) (b__law_source : Binds K fd__law_source ["cell"] [])
    {f__law_office : Addr} {fd__law_office : FuncData} (G__law_office : FnG P w K mg base 2 f__law_office fd__law_office ["source", "most"] (spM K mg m__law_office 2)) (g__law_office : mg "_law_office" = some (.ref f__law_office)) (k__law_office : PySem.W.keepIn K (.ref f__law_office) = true) (b__law_office : Binds K fd__law_office ["source", "most"] [])
    {f__law_removed : Addr} {fd__law_removed : FuncData} (G__law_removed : FnG P w K mg base 1 f__law_removed fd__law_removed ["office"] (spM K mg m__law_removed 1)) (g__law_removed : mg "_law_removed" = some (.ref f__law_removed)) (k__law_removed : PySem.W.keepIn K (.ref f__law_removed) = true) (b__law_removed : Binds K fd__law_removed ["office"] [])
    {f_groups : Addr} {fd_groups : FuncData} (G_groups : FnG P w K mg base 5 f_groups fd_groups ["office"] (spM K mg m_groups 1)) (g_groups : mg "groups" = some (.ref f_groups)) (k_groups : PySem.W.keepIn K (.ref f_groups) = true) (b_groups : Binds K fd_groups ["office"] [])
    {f_is_alone : Addr} {fd_is_alone : FuncData} (G_is_alone : FnG P w K mg base 5 f_is_alone fd_is_alone ["office"] (spM K mg m_is_alone 1)) (g_is_alone : mg "is_alone" = some (.ref f_is_alone)) (k_is_alone : PySem.W.keepIn K (.ref f_is_alone) = true) (b_is_alone : Binds K fd_is_alone ["office"] [])
    {f__law_draw : Addr} {fd__law_draw : FuncData} (G__law_draw : FnG P w K mg base 1 f__law_draw fd__law_draw ["source", "limit"] (spM K mg m__law_draw 2)) (g__law_draw : mg "_law_draw" = some (.ref f__law_draw)) (k__law_draw : PySem.W.keepIn K (.ref f__law_draw) = true) (b__law_draw : Binds K fd__law_draw ["source", "limit"] [])
    (z_range : mg "range" = none)
    (z_repr : mg "repr" = none) : FnG P w K mg base 6 f fd ["script"] (spM K mg m_law 1) :=
  fn_ok F sc_law fun cdv A outer sh H E C gd hr => (s_cons (s_for (passes_of rfl) rfl plain_nm (i_list (e_bin or_add od_add (e_cut (e_var (i := 0) (pv 0)) p_none (p_some e_int)) (e_of_n (n_lst (a_cons e_int a_nil))))) (g_name (pg_name (i := 1) sc_law.nd rfl (by first | exact Or.inl rfl | exact Or.inr rfl)))
    (s_cons (s_setNew (i := 2) (n_call G__law_source gd (hr.mono (by decide)) rfl g__law_source k__law_source b__law_source (takes_of rfl rfl rfl rfl) (g_val (e_var (i := 1) (pv 1)) g_nil) (lnv ln0)) (fun h => ps_set (i := 2) sc_law.nd rfl (by first | exact Or.inl rfl | exact Or.inr rfl) h))
    (s_one (s_for (passes_of rfl) rfl plain_nm (i_rng1 rfl z_range (a_cons e_int a_nil)) (g_name (pg_name (i := 3) sc_law.nd rfl (by first | exact Or.inl rfl | exact Or.inr rfl)))
      (s_cons (s_set (i := 4) (e_call G__law_office gd (hr.mono (by decide)) rfl g__law_office k__law_office b__law_office (takes_of rfl rfl rfl rfl) (g_ref (i := 2) (pv 2) (g_val (e_ix ix_seq od_ix (e_of_n (n_lst (a_cons e_int (a_cons e_int (a_cons e_int a_nil))))) (e_call G__law_draw gd (hr.mono (by decide)) rfl g__law_draw k__law_draw b__law_draw (takes_of rfl rfl rfl rfl) (g_ref (i := 2) (pv 2) (g_val e_int g_nil)) (lnr (lnv ln0))) (fun _ _ => rfl)) g_nil)) (lnr (lnv ln0))) (fun h => ps_set (i := 4) sc_law.nd rfl (by first | exact Or.inl rfl | exact Or.inr rfl) h))
      (s_cons (s_asg (plain_t (plains_c plain_nm (plains_c plain_nm plains_0))) (e_call G__law_removed gd (hr.mono (by decide)) rfl g__law_removed k__law_removed b__law_removed (takes_of rfl rfl rfl rfl) (g_val (e_var (i := 4) (pv 4)) g_nil) (lnv ln0)) (g_tup rfl (gs_cons (g_name (pg_name (i := 6) sc_law.nd rfl (by first | exact Or.inl rfl | exact Or.inr rfl))) (gs_cons (g_name (pg_name (i := 7) sc_law.nd rfl (by first | exact Or.inl rfl | exact Or.inr rfl))) gs_nil)) (glc (glc gl0))) (fun h g => ps_asg h g))
      (s_one (s_for (passes_of rfl) rfl plain_nm (i_rng1 rfl z_range (a_cons e_int a_nil)) (g_name (pg_name (i := 5) sc_law.nd rfl (by first | exact Or.inl rfl | exact Or.inr rfl)))
        (ss_wr (i := 8) (us := [10]) (c := 9) (pe_callG G_groups gd (hr.mono (by decide)) (by rfl) g_groups k_groups b_groups (takes_of rfl rfl rfl rfl) (g_val (e_var (i := 4) (pv 4)) g_nil) (by decide) (by rfl) (by rfl)) (lnv ln0) (fun h => ps_set (i := 8) sc_law.nd rfl (by first | exact Or.inl rfl | exact Or.inr rfl) h) (PW.pt (w_or (t_cmp (op_neA hr.units) od_ne (e_repr gd (hr100 hr) rfl z_repr (e_var (i := 8) (pv 8))) (e_repr gd (hr100 hr) rfl z_repr (e_var (i := 6) (pv 6))) (nomark _)) (pw_or1 (t_cmp (op_neA hr.units) od_ne (e_repr gd (hr100 hr) rfl z_repr (e_call G_is_alone gd (hr.mono (by decide)) rfl g_is_alone k_is_alone b_is_alone (takes_of rfl rfl rfl rfl) (g_val (e_var (i := 4) (pv 4)) g_nil) (lnv ln0))) (e_repr gd (hr100 hr) rfl z_repr (e_var (i := 7) (pv 7))) (nomark _))))) (ps_expr (pe_bm PySem.F.plainAttrs_list PySem.F.slot_list_append PySem.F.type_list_append mt_append (pv 8) (pa_cons pe_non pa_nil))) (ps_for (passes_of rfl) rfl (pi_list (pe_slice sl_list (pv 8) po_none (po_some (pe_un un_neg pe_int)))) (pg_tup rfl (pgs_cons (pg_name (i := 9) sc_law.nd rfl (by first | exact Or.inl rfl | exact Or.inr rfl)) (pgs_cons (pg_name (i := 10) sc_law.nd rfl (by first | exact Or.inl rfl | exact Or.inr rfl)) pgs_nil)) (by rfl) (by rfl)) (pss_one (ps_expr (pe_bm PySem.F.plainAttrs_list PySem.F.slot_list_append PySem.F.type_list_append mt_append (pv 10) (pa_cons pe_int pa_nil))))) wb_app rfl (by decide) rfl (by decide))))))))))
  (s_cons (s_if (PW.pt (w_or (t_cmp (op_neA hr.units) od_ne (e_of_n (n_call G_groups gd (hr.mono (by decide)) rfl g_groups k_groups b_groups (takes_of rfl rfl rfl rfl) (g_val (e_tup a_nil) g_nil) (lnv ln0))) (e_of_n (n_lst a_nil)) (nomark _)) (pw_or1 (t_cmp op_isNotW od_isNotW (e_call G_is_alone gd (hr.mono (by decide)) rfl g_is_alone k_is_alone b_is_alone (takes_of rfl rfl rfl rfl) (g_val (e_tup a_nil) g_nil) (lnv ln0)) e_bl (nomark _)))))
    (s_one (s_ret e_bl))
    s_nil)
  (s_one (s_ret (e_and (e_cmp (op_eqA hr.units) od_eq (e_of_n (n_call G_groups gd (hr.mono (by decide)) rfl g_groups k_groups b_groups (takes_of rfl rfl rfl rfl) (g_val (e_tup (a_cons e_int (a_cons e_int (a_cons e_int a_nil)))) g_nil) (lnv ln0))) (e_of_n (n_lst (a_cons (e_tup (a_cons e_int (a_cons (e_of_n (n_lst (a_cons e_int a_nil))) a_nil))) (a_cons (e_tup (a_cons e_int (a_cons (e_of_n (n_lst (a_cons e_int a_nil))) a_nil))) a_nil)))) (nomark _)) (e_and (e_cmp op_isW od_isW (e_call G_is_alone gd (hr.mono (by decide)) rfl g_is_alone k_is_alone b_is_alone (takes_of rfl rfl rfl rfl) (g_val (e_tup (a_cons e_int (a_cons e_int a_nil))) g_nil) (lnv ln0)) e_bl (nomark _)) (pe_one (e_cmp op_isW od_isW (e_call G_is_alone gd (hr.mono (by decide)) rfl g_is_alone k_is_alone b_is_alone (takes_of rfl rfl rfl rfl) (g_val (e_tup (a_cons e_int (a_cons e_int a_nil))) g_nil) (lnv ln0)) e_bl (nomark _)))))))))
end
end Ds
end

section
set_option Elab.async false
set_option linter.all false
set_option maxRecDepth 100000
set_option maxHeartbeats 1000000
open PySem PySem.Spec PyProof.Rows L2
namespace Ds
theorem p1062 : (2:Int)^62 = 4611686018427387904 := by decide
/-! ### isinstance of int, bool, tuple -/
def dInt : PyData → Bool
  | .bool _ => true
  | .int _ => true
  | _ => false
theorem kit_int (d : PyData) : kitB (tyN d) "int" = some (dInt d) := by
  cases d
  · exact (by decide +kernel : kitB "NoneType" "int" = some false)
  · exact (by decide +kernel : kitB "bool" "int" = some true)
  · exact (by decide +kernel : kitB "int" "int" = some true)
  · exact (by decide +kernel : kitB "str" "int" = some false)
  · exact (by decide +kernel : kitB "list" "int" = some false)
  · exact (by decide +kernel : kitB "tuple" "int" = some false)
  · exact (by decide +kernel : kitB "dict" "int" = some false)
def dBool : PyData → Bool
  | .bool _ => true
  | _ => false
theorem kit_bool (d : PyData) : kitB (tyN d) "bool" = some (dBool d) := by
  cases d
  · exact (by decide +kernel : kitB "NoneType" "bool" = some false)
  · exact (by decide +kernel : kitB "bool" "bool" = some true)
  · exact (by decide +kernel : kitB "int" "bool" = some false)
  · exact (by decide +kernel : kitB "str" "bool" = some false)
  · exact (by decide +kernel : kitB "list" "bool" = some false)
  · exact (by decide +kernel : kitB "tuple" "bool" = some false)
  · exact (by decide +kernel : kitB "dict" "bool" = some false)
def dTup : PyData → Bool
  | .tuple _ => true
  | _ => false
theorem kit_tuple (d : PyData) : kitB (tyN d) "tuple" = some (dTup d) := by
  cases d
  · exact (by decide +kernel : kitB "NoneType" "tuple" = some false)
  · exact (by decide +kernel : kitB "bool" "tuple" = some false)
  · exact (by decide +kernel : kitB "int" "tuple" = some false)
  · exact (by decide +kernel : kitB "str" "tuple" = some false)
  · exact (by decide +kernel : kitB "list" "tuple" = some false)
  · exact (by decide +kernel : kitB "tuple" "tuple" = some true)
  · exact (by decide +kernel : kitB "dict" "tuple" = some false)
@[simp] theorem kb_int_NoneType : kitB "NoneType" "int" = some false := by decide +kernel
@[simp] theorem kb_int_bool : kitB "bool" "int" = some true := by decide +kernel
@[simp] theorem kb_int_int : kitB "int" "int" = some true := by decide +kernel
@[simp] theorem kb_int_str : kitB "str" "int" = some false := by decide +kernel
@[simp] theorem kb_int_list : kitB "list" "int" = some false := by decide +kernel
@[simp] theorem kb_int_tuple : kitB "tuple" "int" = some false := by decide +kernel
@[simp] theorem kb_int_dict : kitB "dict" "int" = some false := by decide +kernel
@[simp] theorem kb_bool_NoneType : kitB "NoneType" "bool" = some false := by decide +kernel
@[simp] theorem kb_bool_bool : kitB "bool" "bool" = some true := by decide +kernel
@[simp] theorem kb_bool_int : kitB "int" "bool" = some false := by decide +kernel
@[simp] theorem kb_bool_str : kitB "str" "bool" = some false := by decide +kernel
@[simp] theorem kb_bool_list : kitB "list" "bool" = some false := by decide +kernel
@[simp] theorem kb_bool_tuple : kitB "tuple" "bool" = some false := by decide +kernel
@[simp] theorem kb_bool_dict : kitB "dict" "bool" = some false := by decide +kernel
@[simp] theorem kb_tuple_NoneType : kitB "NoneType" "tuple" = some false := by decide +kernel
@[simp] theorem kb_tuple_bool : kitB "bool" "tuple" = some false := by decide +kernel
@[simp] theorem kb_tuple_int : kitB "int" "tuple" = some false := by decide +kernel
@[simp] theorem kb_tuple_str : kitB "str" "tuple" = some false := by decide +kernel
@[simp] theorem kb_tuple_list : kitB "list" "tuple" = some false := by decide +kernel
@[simp] theorem kb_tuple_tuple : kitB "tuple" "tuple" = some true := by decide +kernel
@[simp] theorem kb_tuple_dict : kitB "dict" "tuple" = some false := by decide +kernel
@[simp] theorem g_le {i j : Int} : gLe (.int i) (.int j) = some (.bool (decide (i ≤ j))) := rfl
@[simp] theorem g_lt {i j : Int} : gLt (.int i) (.int j) = some (.bool (decide (i < j))) := rfl
@[simp] theorem g_ge {i j : Int} : gGe (.int i) (.int j) = some (.bool (decide (j ≤ i))) := rfl
@[simp] theorem g_gt {i j : Int} : gGt (.int i) (.int j) = some (.bool (decide (j < i))) := rfl
@[simp] theorem g_sub {i j : Int} : gSub_ (.int i) (.int j) = some (.int (i - j)) := rfl
@[simp] theorem g_add {i j : Int} : gAdd (.int i) (.int j) = some (.int (i + j)) := rfl
@[simp] theorem g_mul {i j : Int} : gMul (.int i) (.int j) = if i.natAbs.log2 + j.natAbs.log2 < 1000000 then some (.int (i * j)) else none := by simp [gMul, gII, cMul]
@[simp] theorem g_mod {i j : Int} : gMod (.int i) (.int j) = if 0 < j then some (.int (i % j)) else none := by simp [gMod, gII, cMod]
@[simp] theorem g_div {i j : Int} : gDiv (.int i) (.int j) = if 0 < j ∧ j.natAbs.log2 < 9000 then some (.int (i / j)) else none := by simp [gDiv, gII, cDiv]
@[simp] theorem g_pow {i j : Int} : gPow (.int i) (.int j) = if 0 ≤ j ∧ j ≤ 1000000 ∧ i.natAbs < 2 ^ 64 then some (.int (i ^ j.toNat)) else none := by simp [gPow, gII, cPow]
@[simp] theorem g_max {i j : Int} : gMax [.int i, .int j] = some (.int (if j > i then j else i)) := rfl
@[simp] theorem g_len1 {ds : List PyData} : gLen [.tuple ds] = some (.int ds.length) := rfl
@[simp] theorem g_ixl {ds : List PyData} {i : Int} : gIx (.list ds) (.int i) = atI ds i := rfl
@[simp] theorem g_ixt {ds : List PyData} {i : Int} : gIx (.tuple ds) (.int i) = atI ds i := rfl
def nIn (l h : Int) (d : PyData) : Bool := match d with | .int n => decide (l ≤ n ∧ n ≤ h) | _ => false
theorem lg_lt {x : Int} {k : Nat} (hk : 0 < k) (h0 : 0 ≤ x) (h : x < 2 ^ k) : x.natAbs.log2 < k := by
  have h2 : x.natAbs < 2 ^ k := by
    have e : ((x.natAbs : Nat) : Int) = x := Int.natAbs_of_nonneg h0
    have : ((x.natAbs : Nat) : Int) < ((2 ^ k : Nat) : Int) := by rw [e]; simpa using h
    exact Int.ofNat_lt.mp this
  by_cases z : x.natAbs = 0
  · rw [z]; simpa using hk
  · exact (Nat.log2_lt z).mpr h2
theorem atI_nn {α : Type} {xs : List α} {i : Int} (h : 0 ≤ i) : atI xs i = xs[i.toNat]? := by
  unfold atI ixN
  rw [if_pos h]
  by_cases c : i < xs.length
  · rw [if_pos c]; rfl
  · rw [if_neg c]
    have : xs.length ≤ i.toNat := by omega
    simp [this]
@[simp] theorem atI_0 {α : Type} {x : α} {xs : List α} : atI (x :: xs) 0 = some x := by rw [atI_nn (by decide)]; rfl
@[simp] theorem atI_1 {α : Type} {x y : α} {xs : List α} : atI (x :: y :: xs) 1 = some y := by rw [atI_nn (by decide)]; rfl
@[simp] theorem atI_2 {α : Type} {x y z : α} {xs : List α} : atI (x :: y :: z :: xs) 2 = some z := by rw [atI_nn (by decide)]; rfl
@[simp] theorem setI_0 {x y : PyData} {xs : List PyData} : setI (x :: xs) (.int 0) y = some (y :: xs) := by
  show (if (0:Int) ≤ 0 ∧ (0:Int) < (x :: xs).length then some ((x :: xs).set (0:Int).toNat y) else none) = _; rw [if_pos ⟨by decide, by simp⟩]; rfl
@[simp] theorem setI_2 {x y z u : PyData} {xs : List PyData} : setI (x :: y :: z :: xs) (.int 2) u = some (x :: y :: u :: xs) := by
  show (if (0:Int) ≤ 2 ∧ (2:Int) < (x :: y :: z :: xs).length then some ((x :: y :: z :: xs).set (2:Int).toNat u) else none) = _; rw [if_pos ⟨by decide, by simp; omega⟩]; rfl
theorem atI_last {α : Type} {xs : List α} {x : α} : atI (xs ++ [x]) (-1) = some x := by
  unfold atI ixN
  have h : ¬ (0 : Int) ≤ -1 := by decide
  rw [if_neg h]
  have h2 : (-((xs ++ [x]).length : Int)) ≤ -1 := by simp; omega
  simp
  rw [if_pos (by omega)]
  have h3 : (-1 + ((xs.length : Int) + 1)).toNat = xs.length := by omega
  simp [h3]
theorem okEq_int {i : Int} : okEq (.int i) = true := by simp [okEq, SeqAt.shaped, PyData.hasDict, PyData.canLay0, PyData.depth]
theorem beq_dec {i j : Int} : (i == j) = decide (i = j) := by rw [Bool.eq_iff_iff]; simp
@[simp] theorem g_ne {i j : Int} : gNe (.int i) (.int j) = some (.bool (!decide (i = j))) := by
  show (if okEq (.int i) = true ∧ okEq (.int j) = true then some (PyData.bool (!PyData.eqv (.int i) (.int j))) else none) = _
  rw [if_pos ⟨okEq_int, okEq_int⟩]; simp [PyData.eqv, beq_dec]
@[simp] theorem g_eq {i j : Int} : gEq (.int i) (.int j) = some (.bool (decide (i = j))) := by
  show (if okEq (.int i) = true ∧ okEq (.int j) = true then some (PyData.bool (PyData.eqv (.int i) (.int j))) else none) = _
  rw [if_pos ⟨okEq_int, okEq_int⟩]; simp [PyData.eqv, beq_dec]
@[simp] theorem g_neS {i : Str} : gNe (.str i) (.str i) = some (.bool false) := by
  show some (PyData.bool (!(i == i))) = _
  simp
end Ds
end

section
set_option Elab.async false
set_option linter.all false
set_option maxRecDepth 100000
set_option maxHeartbeats 1000000
open PySem PySem.Spec PyProof.Rows L2
namespace Ds
theorem is_whole_ok (d : PyData) : ∃ T, m_is_whole [.val d] = .ok (.val (.bool (dInt d && !dBool d))) T := by
  cases d <;> simp [m_is_whole, c_is_whole, kit_int, kit_bool, dInt, dBool]
theorem is_num (d : PyData) (l h : Int) : ∃ T, m_is_number [.val d, .val (.int l), .val (.int h)] = .ok (.val (.bool (nIn l h d))) T := by
  obtain ⟨T, e⟩ := is_whole_ok d
  cases d with
  | int n => by_cases c : l ≤ n <;> simp [m_is_number, c_is_number, e, nIn, c, dInt, dBool]
  | _ => simp [m_is_number, c_is_number, e, nIn, dInt, dBool]
/-! ### an office of Nats -/
def Off (os : List Nat) : Prop := os.length ≤ 39 ∧ ∀ (i x : Nat), os[i]? = some x → x ≤ i
def offIt : PyData → Bool
  | .tuple [.int i, x] => nIn 0 i x
  | _ => false
def offB (d : PyData) : Bool := match d with
  | .tuple ds => decide (ds.length < 40) && (enumD ds).all offIt
  | _ => false
theorem bls_bools : ∀ bs : List Bool, bls (bs.map PyData.bool) = some bs
  | [] => rfl
  | b :: bs => by simp [bls, bls_bools bs]
theorem lAll_map {f : PyData → Bool} {ds : List PyData} : lAll (ds.mapIdx fun _ z => .bool (f z)) = some (.bool (ds.all f)) := by
  have e : (ds.mapIdx fun _ z => PyData.bool (f z)) = (ds.map f).map PyData.bool := by
    rw [List.map_map]
    apply List.ext_getElem?
    intro i
    simp
    cases ds[i]? <;> rfl
  rw [e]
  unfold lAll
  rw [bls_bools]
  simp [List.all_map]
theorem is_off (d : PyData) : ∃ T, m_is_office [.val d] = .ok (.val (.bool (offB d))) T := by
  cases d with
  | tuple ds =>
    by_cases c : ds.length < 40
    · have hl : lcL (gTp (gNC (gNm 1) (gNC (gNm 2) gN0))) sYes (sCallV m_is_number (sGv (sVar 2) (sGv (sK (.int 0)) (sGv (sVar 1) sG0)))) [1, 2] (enumD ds) [.val (.tuple ds), .nil, .nil] = .ok ((enumD ds).mapIdx fun _ z => .bool (offIt z)) [.val (.tuple ds), .nil, .nil] := by
        refine lc_map fun i z hz => ?_
        obtain ⟨x, hx, rfl⟩ := enumD_get hz
        obtain ⟨T, e⟩ := is_num x 0 (i : Nat)
        refine ⟨[.val (.tuple ds), .val (.int (i : Nat)), .val x], [.val (.tuple ds), .val (.int (i : Nat)), .val x], ?_, ?_, ?_⟩
        · simp [gTp, gNC]
        · simp [e, offIt]
        · simp [wipeS]
      have c' : ¬ (40 : Int) ≤ ds.length := by omega
      have c2 : ds.length < 16777216 := by omega
      simp [m_is_office, c_is_office, kit_tuple, dTup, c', enumD_len, wipeS, hl, unwipe, offB, c, sizeLine, c2, lAll_map]
    · have c' : (40 : Int) ≤ ds.length := by omega
      simp [m_is_office, c_is_office, kit_tuple, dTup, c', offB, c]
  | _ => simp [m_is_office, c_is_office, kit_tuple, dTup, offB]
def nts (os : List Nat) : List PyData := os.map fun x => .int (x : Nat)
theorem nts_len {os : List Nat} : (nts os).length = os.length := by simp [nts]
theorem nts_get {os : List Nat} {i : Nat} : (nts os)[i]? = (os[i]?).map fun x => .int (x : Nat) := by simp [nts]
theorem nts_cons {x : Nat} {os : List Nat} : nts (x :: os) = .int (x : Nat) :: nts os := rfl
theorem off_at {os : List Nat} (h : Off os) {d : Nat} (h0 : 0 < d) (h1 : d ≤ os.length) : atI (nts os) ((d : Int) - 1) = some (.int ((os.getD (d - 1) 0 : Nat) : Int)) ∧ os.getD (d - 1) 0 ≤ d - 1 := by
  have hl : d - 1 < os.length := by omega
  have e1 : ((d : Int) - 1).toNat = d - 1 := by omega
  rw [atI_nn (by omega), e1, nts_get, List.getElem?_eq_getElem hl]
  have e2 : os.getD (d - 1) 0 = os[d - 1] := by simp [List.getD, List.getElem?_eq_getElem hl]
  rw [e2]
  exact ⟨rfl, h.2 (d - 1) _ (List.getElem?_eq_getElem hl)⟩
theorem offB_off {os : List Nat} (h : Off os) : offB (.tuple (nts os)) = true := by
  have h1 := h.1
  have e : (enumD (nts os)).all offIt = true := by
    rw [List.all_eq_true]
    intro z hz
    obtain ⟨i, hi⟩ := List.getElem?_of_mem hz
    obtain ⟨x, hx, rfl⟩ := enumD_get hi
    rw [nts_get] at hx
    cases q : os[i]? with
    | none => rw [q] at hx; cases hx
    | some y =>
      rw [q] at hx
      cases hx
      have := h.2 i y q
      simp only [offIt, nIn]
      rw [decide_eq_true_eq]
      omega
  simp only [offB, e, nts_len]
  simp
  omega
theorem need_off {os : List Nat} (h : Off os) : ∃ T, m_need_office [.val (.tuple (nts os))] = .ok (.val .none) T := by
  obtain ⟨T, e⟩ := is_off (.tuple (nts os))
  rw [offB_off h] at e
  simp [m_need_office, c_need_office, e]
/-! ### names -/
def LET : Str := Str.ofString "abcdefghijklmnopqrstuvwxyz"
def Nm (s : Str) : Prop := 1 ≤ s.length ∧ s.length ≤ 8 ∧ ∀ c ∈ s.cps.toList, 97 ≤ c ∧ c ≤ 122
def isT (o : Option PyData) : Bool := match o with | some (.bool true) => true | _ => false
theorem isT_some {o : Option PyData} (h : isT o = true) : o = some (.bool true) := by
  match o, h with
  | some (.bool true), _ => rfl
theorem let_all : (List.range 26).all (fun k => isT (gIn false (.str ⟨#[97 + k]⟩) (.str LET))) = true := by decide +kernel
theorem let_ok {c : Nat} (h0 : 97 ≤ c) (h1 : c ≤ 122) : gIn false (.str ⟨#[c]⟩) (.str LET) = some (.bool true) := by
  have := List.all_eq_true.mp let_all (c - 97) (List.mem_range.mpr (by omega))
  rw [show 97 + (c - 97) = c by omega] at this
  exact isT_some this
def dStr : PyData → Bool
  | .str _ => true
  | _ => false
theorem kit_str (d : PyData) : kitB (tyN d) "str" = some (dStr d) := by
  cases d
  · exact (by decide +kernel : kitB "NoneType" "str" = some false)
  · exact (by decide +kernel : kitB "bool" "str" = some false)
  · exact (by decide +kernel : kitB "int" "str" = some false)
  · exact (by decide +kernel : kitB "str" "str" = some true)
  · exact (by decide +kernel : kitB "list" "str" = some false)
  · exact (by decide +kernel : kitB "tuple" "str" = some false)
  · exact (by decide +kernel : kitB "dict" "str" = some false)
@[simp] theorem kb_str_str : kitB "str" "str" = some true := by decide +kernel
theorem g_lenS {x : Str} (h : x.length ≤ 16777216) : gLen [.str x] = some (.int x.length) := by
  show (if x.length ≤ sizeLine then some (PyData.int x.length) else none) = _
  rw [if_pos (by rw [sizeLine_eq]; exact h)]
@[simp] theorem r_asS {x : Str} : asS (.str x) = some (signs x) := rfl
theorem signs_len {x : Str} : (signs x).length = x.length := by simp [signs]; rfl
theorem lAll_true {n : Nat} : lAll (List.replicate n (.bool true)) = some (.bool true) := by
  have : List.replicate n (PyData.bool true) = (List.replicate n true).map PyData.bool := by simp
  rw [this, lAll, bls_bools]
  simp
theorem mapIdx_rep {α β : Type} {b : β} {l : List α} : (l.mapIdx fun _ _ => b) = List.replicate l.length b := by
  apply List.ext_getElem
  · simp
  · intro i h1 h2
    simp
theorem nm_ok {s : Str} (h : Nm s) : ∃ T, m_is_name [.val (.str s)] = .ok (.val (.bool true)) T := by
  have hl : lcL (gNm 1) sYes (sBin (gIn false) (sVar 1) (sK (.str LET))) [1] (signs s) [.val (.str s), .nil] = .ok (List.replicate s.length (.bool true)) [.val (.str s), .nil] := by
    have := lc_map (g := gNm 1) (e := sBin (gIn false) (sVar 1) (sK (.str LET))) (vs := [1]) (f := fun _ _ => .bool true) (S := [.val (.str s), .nil]) (ds := signs s) fun i d hd => by
      unfold signs at hd
      rw [List.getElem?_map] at hd
      cases q : s.cps.toList[i]? with
      | none => rw [q] at hd; cases hd
      | some c =>
        rw [q] at hd
        cases hd
        have b := h.2.2 c (List.mem_of_getElem? q)
        refine ⟨[.val (.str s), .val (.str ⟨#[c]⟩)], [.val (.str s), .val (.str ⟨#[c]⟩)], by simp, by simp [let_ok b.1 b.2], by simp [wipeS]⟩
    rw [this]
    congr 1
    rw [← signs_len]
    exact mapIdx_rep
  have h1 : (1 : Int) ≤ s.length := by have := h.1; omega
  have h8 : (s.length : Int) ≤ 8 := by have := h.2.1; omega
  have hs : s.length < 16777216 := by have := h.2.1; omega
  have gl := g_lenS (x := s) (by omega)
  unfold LET at hl
  simp [gl, m_is_name, c_is_name, kit_str, dStr, h1, h8, wipeS, unwipe, signs_len, sizeLine, hs, hl, lAll_true]
def sts (ss : List Str) : List PyData := ss.map .str
theorem sts_len {ss : List Str} : (sts ss).length = ss.length := by simp [sts]
theorem sts_get {ss : List Str} {i : Nat} : (sts ss)[i]? = (ss[i]?).map .str := by simp [sts]
theorem strsOf_sts : ∀ ss : List Str, strsOf (sts ss) = some ss
  | [] => rfl
  | s :: ss => by
    show (strsOf (sts ss)).map (s :: ·) = _
    rw [strsOf_sts ss]
    rfl
end Ds
end

section
set_option Elab.async false
set_option linter.all false
set_option maxRecDepth 100000
set_option maxHeartbeats 1000000
open PySem PySem.Spec PyProof.Rows L2
namespace Ds
theorem dct_nodup : ∀ {xs : List Str}, xs.Nodup → dct xs = xs.length
  | [], _ => rfl
  | x :: xs, h => by
    have q := List.nodup_cons.mp h
    unfold dct
    rw [dct_nodup q.2, if_neg q.1, List.length_cons]
theorem gLS_nodup {ys : List Str} (h : ys.Nodup) (hl : ys.length < 2000) : gLS (.tuple (sts ys)) = some (.int ys.length) := by
  show (match strsOf (sts ys) with
    | some ys => if ys.length < 2000 then some (PyData.int (dct (pre ys ys.length) : Nat)) else none
    | none => none) = _
  rw [strsOf_sts]
  show (if ys.length < 2000 then some (PyData.int (dct (pre ys ys.length) : Nat)) else none) = _
  rw [if_pos hl, dct_nodup (by unfold pre; rw [List.take_length]; exact (List.reverse_perm _).nodup_iff.mpr h)]
  unfold pre
  simp
theorem lc_true {g : GT} {e : SE} {vs : List Nat} {S : En} {ds : List PyData} (h : ∀ (i : Nat) (d : PyData), ds[i]? = some d → ∃ S2 S4, g d S = .nx S2 ∧ e S2 = .ok (.bool true) S4 ∧ wipeS vs S4 = S) :
    lcL g sYes e vs ds S = .ok (List.replicate ds.length (.bool true)) S := by
  rw [lc_map (f := fun _ _ => .bool true) h, mapIdx_rep]
theorem diff_ok {ys : List Str} (h : ys.Nodup) (hn : ∀ s ∈ ys, Nm s) (hl : ys.length < 2000) : ∃ T, m_are_different_names [.val (.tuple (sts ys))] = .ok (.val (.bool true)) T := by
  have lc : lcL (gNm 1) sYes (sCallV m_is_name (sGv (sVar 1) sG0)) [1] (sts ys) [.val (.tuple (sts ys)), .nil] = .ok (List.replicate ys.length (.bool true)) [.val (.tuple (sts ys)), .nil] := by
    have := lc_true (g := gNm 1) (e := sCallV m_is_name (sGv (sVar 1) sG0)) (vs := [1]) (S := [.val (.tuple (sts ys)), .nil]) (ds := sts ys) fun i d hd => by
      rw [sts_get] at hd
      cases q : ys[i]? with
      | none => rw [q] at hd; cases hd
      | some s =>
        rw [q] at hd
        cases hd
        obtain ⟨T, e⟩ := nm_ok (hn s (List.mem_of_getElem? q))
        exact ⟨[.val (.tuple (sts ys)), .val (.str s)], [.val (.tuple (sts ys)), .val (.str s)], by simp, by simp [e], by simp [wipeS]⟩
    rw [this, sts_len]
  have l2 : ys.length < 16777216 := by omega
  simp [m_are_different_names, c_are_different_names, wipeS, unwipe, sts_len, sizeLine, l2, lc, lAll_true, gLS_nodup h hl]
/-- an office, a seating, an order -/
structure Case (os : List Nat) (ss ord : List Str) : Prop where
  off : Off os
  len : ss.length = os.length + 1
  nd : ss.Nodup
  nm : ∀ s ∈ ss, Nm s
  ond : ord.Nodup
  osub : ∀ s ∈ ord, s ∈ ss
abbrev vO (os : List Nat) : Sl := .val (.tuple (nts os))
abbrev vS (ss : List Str) : Sl := .val (.tuple (sts ss))
section
variable {os : List Nat} {ss ord : List Str}
theorem Case.small (c : Case os ss ord) : ss.length ≤ 40 := by have := c.len; have := c.off.1; omega
theorem nodup_len_le {α : Type} [DecidableEq α] : ∀ {xs ys : List α}, xs.Nodup → (∀ x ∈ xs, x ∈ ys) → xs.length ≤ ys.length
  | [], _, _, _ => Nat.zero_le _
  | x :: xs, ys, h, s => by
    have q := List.nodup_cons.mp h
    have m := s x List.mem_cons_self
    have := nodup_len_le (ys := ys.erase x) q.2 fun y hy => (List.mem_erase_of_ne fun e => q.1 (by rw [← e]; exact hy)).mpr (s y (List.mem_cons_of_mem _ hy))
    rw [List.length_erase_of_mem m] at this
    have : 0 < ys.length := List.length_pos_of_mem m
    rw [List.length_cons]
    omega
theorem Case.osmall (c : Case os ss ord) : ord.length ≤ 40 := Nat.le_trans (nodup_len_le c.ond c.osub) c.small
theorem seating_ok (h : Off os) (hl : ss.length = os.length + 1) (hn : ss.Nodup) (hm : ∀ s ∈ ss, Nm s) : ∃ T, m_is_seating [vO os, vS ss] = .ok (.val (.bool true)) T := by
  obtain ⟨T1, e1⟩ := need_off h
  obtain ⟨T2, e2⟩ := diff_ok hn hm (by have := h.1; omega)
  simp [m_is_seating, c_is_seating, e1, e2, sts_len, nts_len, hl]
theorem need_seat (h : Off os) (hl : ss.length = os.length + 1) (hn : ss.Nodup) (hm : ∀ s ∈ ss, Nm s) : ∃ T, m_need_seating [vO os, vS ss] = .ok (.val .none) T := by
  obtain ⟨T1, e1⟩ := seating_ok h hl hn hm
  simp [m_need_seating, c_need_seating, e1]
theorem flat_sts {ss : List Str} : (sts ss).all flatD = true := by
  rw [List.all_eq_true]
  intro d hd
  obtain ⟨s, _, rfl⟩ := List.mem_map.mp hd
  rfl
theorem inD_sts {s : Str} {ss : List Str} : inD (.str s) (sts ss) = decide (s ∈ ss) := by
  rw [Bool.eq_iff_iff]
  simp only [inD, List.any_eq_true, decide_eq_true_eq]
  constructor
  · rintro ⟨d, h1, h2⟩
    obtain ⟨x, h3, rfl⟩ := List.mem_map.mp h1
    simp [PyData.eqv] at h2
    rw [← h2]; exact h3
  · intro h
    exact ⟨.str s, List.mem_map.mpr ⟨s, h, rfl⟩, by simp [PyData.eqv]⟩
@[simp] theorem g_inT {s : Str} {ss : List Str} : gInT false (.str s) (.tuple (sts ss)) = some (.bool (decide (s ∈ ss))) := by
  show (if flatD (.str s) = true ∧ (sts ss).all flatD = true then some (PyData.bool (if false = true then !inD (.str s) (sts ss) else inD (.str s) (sts ss))) else none) = _
  rw [if_pos ⟨rfl, flat_sts⟩, inD_sts]
  rfl
@[simp] theorem g_ninT {s : Str} {ss : List Str} : gInT true (.str s) (.tuple (sts ss)) = some (.bool (!decide (s ∈ ss))) := by
  show (if flatD (.str s) = true ∧ (sts ss).all flatD = true then some (PyData.bool (if true = true then !inD (.str s) (sts ss) else inD (.str s) (sts ss))) else none) = _
  rw [if_pos ⟨rfl, flat_sts⟩, inD_sts]
  rfl
theorem order_ok (c : Case os ss ord) : ∃ T, m_is_order [vO os, vS ss, vS ord] = .ok (.val (.bool true)) T := by
  obtain ⟨T1, e1⟩ := need_seat c.off c.len c.nd c.nm
  obtain ⟨T2, e2⟩ := diff_ok c.ond (fun s hs => c.nm s (c.osub s hs)) (by have := c.osmall; omega)
  have lc : lcL (gNm 3) sYes (sBin (gInT false) (sVar 3) (sVar 1)) [3] (sts ord) [vO os, vS ss, vS ord, .nil] = .ok (List.replicate ord.length (.bool true)) [vO os, vS ss, vS ord, .nil] := by
    have := lc_true (g := gNm 3) (e := sBin (gInT false) (sVar 3) (sVar 1)) (vs := [3]) (S := [vO os, vS ss, vS ord, .nil]) (ds := sts ord) fun i d hd => by
      rw [sts_get] at hd
      cases q : ord[i]? with
      | none => rw [q] at hd; cases hd
      | some s =>
        rw [q] at hd
        cases hd
        have hm := c.osub s (List.mem_of_getElem? q)
        exact ⟨[vO os, vS ss, vS ord, .val (.str s)], [vO os, vS ss, vS ord, .val (.str s)], by simp, by simp [hm], by simp [wipeS]⟩
    rw [this, sts_len]
  have l2 : ord.length < 16777216 := by have := c.osmall; omega
  simp [m_is_order, c_is_order, e1, e2, wipeS, unwipe, sts_len, sizeLine, l2, lc, lAll_true]
theorem need_ord (c : Case os ss ord) : ∃ T, m_need_order [vO os, vS ss, vS ord] = .ok (.val .none) T := by
  obtain ⟨T1, e1⟩ := order_ok c
  simp [m_need_order, c_need_order, e1]
end
end Ds
end

section
set_option Elab.async false
set_option linter.all false
set_option maxRecDepth 100000
set_option maxHeartbeats 1000000
open PySem PySem.Spec PyProof.Rows L2
namespace Ds
/-! ### open desks -/
section
variable (os : List Nat) (cal : Nat → Bool)
def kids (d : Nat) : List Nat := (List.range' 1 os.length).filter fun e => decide (os.getD (e - 1) 0 = d)
def opF : Nat → Nat → Bool
  | 0, _ => false
  | k + 1, e => cal e && (kids os e).all fun c => !opF k c
def op (e : Nat) : Bool := opF os cal (os.length + 1 - e) e
/-- the open desks directly below d, of those behind t -/
def okd (t d : Nat) : List Nat := (List.range' (t + 1) (os.length - t)).filter fun e => decide (os.getD (e - 1) 0 = d) && op os cal e
end
section
variable {os : List Nat} {cal : Nat → Bool}
theorem mem_kids {d e : Nat} : e ∈ kids os d ↔ 1 ≤ e ∧ e ≤ os.length ∧ os.getD (e - 1) 0 = d := by
  unfold kids
  rw [List.mem_filter, List.mem_range'_1, decide_eq_true_eq]
  constructor
  · rintro ⟨⟨h1, h2⟩, h3⟩; exact ⟨h1, by omega, h3⟩
  · rintro ⟨h1, h2, h3⟩; exact ⟨⟨h1, by omega⟩, h3⟩
theorem off_lt (h : Off os) {e : Nat} (h1 : 1 ≤ e) (h2 : e ≤ os.length) : os.getD (e - 1) 0 < e := by
  have := (off_at h (d := e) (by omega) h2).2
  omega
theorem opF_op (h : Off os) : ∀ (n k : Nat), k ≤ n → ∀ e, e ≤ os.length → os.length + 1 - e ≤ k → opF os cal k e = op os cal e := by
  intro n
  induction n with
  | zero => intro k hk e he h1; omega
  | succ n ih =>
    intro k hk e he h1
    have hall : ∀ j, j ≤ n → os.length ≤ j + e → ((kids os e).all fun c => !opF os cal j c) = (kids os e).all fun c => !op os cal c := fun j hj h2 => by
      rw [Bool.eq_iff_iff, List.all_eq_true, List.all_eq_true]
      have key : ∀ c ∈ kids os e, opF os cal j c = op os cal c := fun c hc => by
        obtain ⟨m1, m2, m3⟩ := mem_kids.mp hc
        have := off_lt h m1 m2
        exact ih j hj c m2 (by omega)
      constructor
      · intro z c hc; rw [← key c hc]; exact z c hc
      · intro z c hc; rw [key c hc]; exact z c hc
    cases k with
    | zero => omega
    | succ k =>
      show (cal e && (kids os e).all fun c => !opF os cal k c) = opF os cal (os.length + 1 - e) e
      have e1 : os.length + 1 - e = (os.length - e) + 1 := by omega
      rw [e1]
      show _ = (cal e && (kids os e).all fun c => !opF os cal (os.length - e) c)
      rw [hall k (by omega) (by omega), hall (os.length - e) (by omega) (by omega)]
theorem op_eq (h : Off os) {e : Nat} (he : e ≤ os.length) : op os cal e = (cal e && (kids os e).all fun c => !op os cal c) := by
  have e1 : os.length + 1 - e = (os.length - e) + 1 := by omega
  show opF os cal (os.length + 1 - e) e = _
  rw [e1]
  show (cal e && (kids os e).all fun c => !opF os cal (os.length - e) c) = _
  congr 1
  rw [Bool.eq_iff_iff, List.all_eq_true, List.all_eq_true]
  have key : ∀ c ∈ kids os e, opF os cal (os.length - e) c = op os cal c := fun c hc => by
    obtain ⟨m1, m2, m3⟩ := mem_kids.mp hc
    have := off_lt h m1 m2
    exact opF_op h _ _ (Nat.le_refl _) c m2 (by omega)
  constructor
  · intro z c hc; rw [← key c hc]; exact z c hc
  · intro z c hc; rw [key c hc]; exact z c hc
theorem mem_okd {t d e : Nat} : e ∈ okd os cal t d ↔ t < e ∧ e ≤ os.length ∧ os.getD (e - 1) 0 = d ∧ op os cal e = true := by
  unfold okd
  rw [List.mem_filter, List.mem_range'_1, Bool.and_eq_true, decide_eq_true_eq]
  constructor
  · rintro ⟨⟨h1, h2⟩, h3, h4⟩; exact ⟨by omega, by omega, h3, h4⟩
  · rintro ⟨h1, h2, h3, h4⟩; exact ⟨⟨by omega, by omega⟩, h3, h4⟩
theorem okd_pred {t d : Nat} (h : t < os.length) : okd os cal t d = if os.getD t 0 = d ∧ op os cal (t + 1) = true then (t + 1) :: okd os cal (t + 1) d else okd os cal (t + 1) d := by
  unfold okd
  rw [show os.length - t = (os.length - (t + 1)) + 1 by omega, List.range'_succ, List.filter_cons]
  simp only [Nat.add_sub_cancel, Bool.and_eq_true, decide_eq_true_eq]
theorem okd_all (h : Off os) {d : Nat} : ∀ t, t ≤ d → d ≤ os.length → okd os cal t d = okd os cal 0 d
  | 0, _, _ => rfl
  | t + 1, h1, h2 => by
    rw [← okd_all h t (by omega) h2, okd_pred (t := t) (by omega), if_neg fun z => ?_]
    have := off_lt h (e := t + 1) (by omega) (by omega)
    rw [Nat.add_sub_cancel] at this
    omega
theorem okd_end {d : Nat} : okd os cal os.length d = [] := by unfold okd; simp
theorem op_okd (h : Off os) {e : Nat} (he : e ≤ os.length) : op os cal e = (cal e && (okd os cal 0 e).isEmpty) := by
  rw [op_eq h he]
  congr 1
  rw [Bool.eq_iff_iff, List.all_eq_true, List.isEmpty_iff, List.eq_nil_iff_forall_not_mem]
  constructor
  · intro z c hc
    obtain ⟨h1, h2, h3, h4⟩ := mem_okd.mp hc
    have := z c (mem_kids.mpr ⟨h1, h2, h3⟩)
    rw [h4] at this
    cases this
  · intro z c hc
    obtain ⟨h1, h2, h3⟩ := mem_kids.mp hc
    cases q : op os cal c with
    | false => rfl
    | true => exact absurd (mem_okd.mpr ⟨h1, h2, h3, q⟩) (z c)
theorem okd_sorted {t d : Nat} : (okd os cal t d).Pairwise (· < ·) := by
  unfold okd
  exact List.Pairwise.filter _ (List.pairwise_lt_range' (s := t + 1) (n := os.length - t))
end
def nmAt (ss : List Str) (t : Nat) : Str := ss.getD t Str.empty
theorem sts_at {ss : List Str} {t : Nat} (h : t < ss.length) : atI (sts ss) (t : Nat) = some (.str (nmAt ss t)) := by
  rw [atI_nn (by omega), Int.toNat_natCast, sts_get]
  simp [nmAt, h]
theorem nmAt_get {ss : List Str} {t : Nat} (h : t < ss.length) : ss[t]? = some (nmAt ss t) := by simp [nmAt, h]
def calB (ss ord : List Str) (d : Nat) : Bool := decide (nmAt ss d ∈ ord)
/-- the rows of open_below when the desks up to t are still to come -/
def rowsC (os : List Nat) (cal : Nat → Bool) (t : Nat) : List (List PyData) := (List.range (os.length + 1)).map fun d => nts (okd os cal t d)
abbrev rowsT (os : List Nat) (ss ord : List Str) (t : Nat) : List (List PyData) := rowsC os (calB ss ord) t
section
variable {os : List Nat} {ss ord : List Str} {cal : Nat → Bool}
theorem rowsC_len {t : Nat} : (rowsC os cal t).length = os.length + 1 := by simp [rowsC]
theorem rowsT_len {t : Nat} : (rowsT os ss ord t).length = os.length + 1 := rowsC_len
theorem rowsC_get {t d : Nat} (h : d ≤ os.length) : (rowsC os cal t)[d]? = some (nts (okd os cal t d)) := by
  unfold rowsC
  rw [List.getElem?_map, List.getElem?_range (by omega)]
  rfl
theorem rowsT_get {t d : Nat} (h : d ≤ os.length) : (rowsT os ss ord t)[d]? = some (nts (okd os (calB ss ord) t d)) := rowsC_get h
theorem okd_len {t d : Nat} : (okd os cal t d).length ≤ os.length := by
  unfold okd
  refine Nat.le_trans (List.length_filter_le _ _) ?_
  rw [List.length_range']
  omega
theorem lcN_map {g : GT} {e : SN} {vs : List Nat} {S : En} : ∀ {ds : List PyData}, (∀ (i : Nat) (d : PyData), ds[i]? = some d → ∃ S2 S4, g d S = .nx S2 ∧ e S2 = .ok [] S4 ∧ wipeS vs S4 = S) → lcN g sYes e vs ds S = .ok (List.replicate ds.length []) S
  | [], _ => rfl
  | d :: ds, h => by
    obtain ⟨S2, S4, e1, e2, e3⟩ := h 0 d rfl
    have ih := lcN_map (g := g) (e := e) (vs := vs) (S := S) (ds := ds) fun i d hd => h (i + 1) d (by simpa using hd)
    rw [lcN, e1]
    show ((e S2).bind fun y S4 => (lcN g sYes e vs ds (wipeS vs S4)).bind fun ys S5 => .ok (y :: ys) S5) = _
    rw [e2, bind_ok, e3, ih, bind_ok]
    rfl
theorem rows_step (h : Off os) {t : Nat} (t1 : 1 ≤ t) (t2 : t ≤ os.length) : rowsC os cal (t - 1) = if op os cal t = true then (rowsC os cal t).set (os.getD (t - 1) 0) (.int (t : Nat) :: nts (okd os cal t (os.getD (t - 1) 0))) else rowsC os cal t := by
  have et : t - 1 + 1 = t := by omega
  have u2 := off_lt h t1 t2
  apply List.ext_getElem?
  intro j
  by_cases hj : j ≤ os.length
  · rw [rowsC_get hj, okd_pred (t := t - 1) (by omega), et]
    by_cases ho : op os cal t = true
    · rw [if_pos ho]
      by_cases hu : os.getD (t - 1) 0 = j
      · rw [if_pos ⟨hu, ho⟩, ← hu, List.getElem?_set_self (by rw [rowsC_len]; omega)]
        rfl
      · rw [if_neg fun z => hu z.1, List.getElem?_set_ne hu, rowsC_get hj]
    · rw [if_neg fun z => ho z.2, if_neg ho, rowsC_get hj]
  · rw [List.getElem?_eq_none (by rw [rowsC_len]; omega)]
    split
    · rw [List.getElem?_eq_none (by rw [List.length_set, rowsC_len]; omega)]
    · rw [List.getElem?_eq_none (by rw [rowsC_len]; omega)]
/-- whether each desk's person is called -/
def cals (os : List Nat) (cal : Nat → Bool) : List PyData := (List.range (os.length + 1)).map fun d => .bool (cal d)
theorem cals_len : (cals os cal).length = os.length + 1 := by simp [cals]
theorem cals_at {d : Nat} (h : d ≤ os.length) : atI (cals os cal) (d : Nat) = some (.bool (cal d)) := by
  rw [atI_nn (by omega), Int.toNat_natCast]
  unfold cals
  rw [List.getElem?_map, List.getElem?_range (by omega)]
  rfl
def q_open : SS := sIf (sAnd (sTst (sBin gEq (sRd lLen (sNIx 2 (sVar 3))) (sK (.int 0)))) (sTst (sBin gIx (sVar 1) (sVar 3))))
      (sDrop (sNIns 2 (sBin gIx (sVar 0) (sBin gSub_ (sVar 3) (sK (.int 1)))) (sCons (sK (.int 0)) (sCons (sVar 3) sNil))))
      sNx
theorem open_step (c : Off os) {t : Nat} (t1 : 1 ≤ t) (t2 : t ≤ os.length) : q_open [vO os, .val (.list (cals os cal)), .nst (rowsC os cal t), .val (.int (t : Nat)), .nil] = .nx [vO os, .val (.list (cals os cal)), .nst (rowsC os cal (t - 1)), .val (.int (t : Nat)), .nil] := by
  have h39 := c.1
  obtain ⟨u1, u2⟩ := off_at c (d := t) (by omega) t2
  have sa := cals_at (os := os) (cal := cal) (d := t) (by omega)
  have rg := rowsC_get (os := os) (cal := cal) (t := t) t2
  have kd : okd os cal t t = okd os cal 0 t := okd_all c t (Nat.le_refl _) t2
  have op1 := op_okd (cal := cal) c t2
  have nx3 : (t : Int) < (os.length : Int) + 1 := by omega
  have nl : ((nts (okd os cal t t)).length : Int) = (okd os cal 0 t).length := by rw [nts_len, kd]
  rw [rows_step c t1 t2]
  by_cases hk : okd os cal 0 t = []
  · by_cases hc : cal t = true
    · have ho : op os cal t = true := by rw [op1, hk]; simp [hc]
      rw [if_pos ho]
      have rg2 := rowsC_get (os := os) (cal := cal) (t := t) (d := os.getD (t - 1) 0) (by omega)
      have nx4 : ((os.getD (t - 1) 0 : Nat) : Int) < (os.length : Int) + 1 := by omega
      have l3 : (nts (okd os cal t (os.getD (t - 1) 0))).length < 16777216 := by rw [nts_len]; exact Nat.lt_of_le_of_lt okd_len (by omega)
      generalize os.getD (t - 1) 0 = u at *
      simp [q_open, rowsC_len, rg, nl, hk, sa, hc, u1, lLen, nx3, nx4, rg2, l3, sizeLine]
    · have ho : op os cal t = false := by rw [op1]; simp [hc]
      rw [if_neg (by rw [ho]; decide)]
      simp [q_open, rowsC_len, rg, nl, hk, sa, hc, lLen, nx3]
  · have ho : op os cal t = false := by rw [op1]; simp [hk]
    have nz : ¬ ((okd os cal 0 t).length : Int) = 0 := by
      intro z
      exact hk (List.length_eq_zero_iff.mp (by omega))
    rw [if_neg (by rw [ho]; decide)]
    simp [q_open, rowsC_len, rg, nl, nz, lLen, nx3, hk]
theorem rng3_ok {n : Nat} (h : n ≤ 1000000) : rng3 [.int (n : Nat), .int 0, .int (-1)] = some ((List.range n).map fun k => .int ((n : Int) - (k : Nat))) := by
  have s1 : smallI (n : Int) = true := by
    unfold smallI
    rw [Bool.and_eq_true, decide_eq_true_eq, decide_eq_true_eq]
    omega
  show (if smallI (n : Int) = true ∧ smallI 0 = true ∧ (-1 : Int) = -1 then some ((List.range ((n : Int) - 0).toNat).map fun k => PyData.int ((n : Int) - (k : Nat))) else none) = _
  rw [if_pos ⟨s1, by decide, rfl⟩, Int.sub_zero, Int.toNat_natCast]
theorem rng3_run {sr : SN} {S S1 : En} {ds zs : List PyData} (h : sr S = .ok ds S1) (e : rng3 ds = some zs) : sRng3 sr S = .ok zs S1 := by rw [r_sRng3, h, bnd_ok, e]; rfl
theorem rng1_run {sr : SN} {S S1 : En} {ds zs : List PyData} (h : sr S = .ok ds S1) (e : rng1 ds = some zs) : sRng1 sr S = .ok zs S1 := by rw [r_sRng1, h, bnd_ok, e]; rfl
theorem rng2_run {sr : SN} {S S1 : En} {ds zs : List PyData} (h : sr S = .ok ds S1) (e : rng2 ds = some zs) : sRng2 sr S = .ok zs S1 := by rw [r_sRng2, h, bnd_ok, e]; rfl
theorem rowsC_end : List.replicate (os.length + 1) [] = rowsC os cal os.length := by
  apply List.ext_getElem?
  intro i
  by_cases hi : i ≤ os.length
  · rw [rowsC_get hi, okd_end, List.getElem?_replicate, if_pos (by omega)]
    rfl
  · rw [List.getElem?_eq_none (by rw [List.length_replicate]; omega), List.getElem?_eq_none (by rw [rowsC_len]; omega)]
theorem c_opend_eq : c_open_desks = sSeq (sSetNst 2 (sISq (sVar 1)) (gNm 4) sYes (sLst sNil) [4]) (sSeq (sFor (sRng3 (sCons (sCallB gLen (sCons (sVar 0) sNil)) (sCons (sK (.int 0)) (sCons (sNeg (sK (.int 1))) sNil)))) (gNm 3) q_open) (sFrzN 2 (sRet (sVar 2)))) := rfl
theorem opend_ok (c : Off os) : ∃ T, m_open_desks [vO os, .val (.list (cals os cal))] = .ok (.val (.list ((rowsC os cal 0).map .list))) T := by
  have h39 := c.1
  have lc : lcN (gNm 4) sYes (sLst sNil) [4] (cals os cal) [vO os, .val (.list (cals os cal)), .nil, .nil, .nil] = .ok (rowsC os cal os.length) [vO os, .val (.list (cals os cal)), .nil, .nil, .nil] := by
    rw [lcN_map fun i d hd => ⟨[vO os, .val (.list (cals os cal)), .nil, .nil, .val d], [vO os, .val (.list (cals os cal)), .nil, .nil, .val d], by simp, by simp [sizeLine], by simp [wipeS]⟩, cals_len, rowsC_end (cal := cal)]
  obtain ⟨S', hS, x, hx, rfl⟩ := loop_inv (g := gNm 3) (b := q_open) (ds := (List.range os.length).map fun k => .int ((os.length : Int) - (k : Nat))) (P := fun i S => ∃ x, bare (some x) = true ∧ S = [vO os, .val (.list (cals os cal)), .nst (rowsC os cal (os.length - i)), x, .nil]) (S := [vO os, .val (.list (cals os cal)), .nst (rowsC os cal os.length), .nil, .nil])
    ⟨.nil, rfl, rfl⟩ fun i d S hd hS => by
      obtain ⟨x, hx, rfl⟩ := hS
      rw [List.getElem?_map] at hd
      cases q : (List.range os.length)[i]? with
      | none => rw [q] at hd; cases hd
      | some k =>
        rw [q] at hd
        cases hd
        obtain ⟨hi, rfl⟩ := List.getElem?_eq_some_iff.mp q
        rw [List.length_range] at hi
        rw [List.getElem_range]
        show ∃ S1 S2, gNm 3 (.int ((os.length : Int) - (i : Nat))) _ = _ ∧ _
        have ed : (os.length : Int) - (i : Nat) = ((os.length - i : Nat) : Int) := by omega
        rw [ed]
        have st := open_step (cal := cal) c (t := os.length - i) (by omega) (by omega)
        rw [show os.length - i - 1 = os.length - (i + 1) by omega] at st
        exact ⟨_, _, by simp [hx], st, _, rfl, rfl⟩
  have l1 : (cals os cal).length < 16777216 := by rw [cals_len]; omega
  rw [List.length_map, List.length_range, Nat.sub_self] at hS
  have s1 : (sSetNst 2 (sISq (sVar 1)) (gNm 4) sYes (sLst sNil) [4]) [vO os, .val (.list (cals os cal)), .nil, .nil, .nil] = .nx [vO os, .val (.list (cals os cal)), .nst (rowsC os cal os.length), .nil, .nil] := by
    simp [sizeLine, l1, wipeS, lc, unwipe]
  have s2 : sFor (sRng3 (sCons (sCallB gLen (sCons (sVar 0) sNil)) (sCons (sK (.int 0)) (sCons (sNeg (sK (.int 1))) sNil)))) (gNm 3) q_open [vO os, .val (.list (cals os cal)), .nst (rowsC os cal os.length), .nil, .nil] = .nx [vO os, .val (.list (cals os cal)), .nst (rowsC os cal 0), x, .nil] := by
    rw [r_sFor, rng3_run (S1 := [vO os, .val (.list (cals os cal)), .nst (rowsC os cal os.length), .nil, .nil]) (ds := [.int (os.length : Nat), .int 0, .int (-1)]) (by simp [nts_len]) (rng3_ok (n := os.length) (by omega)), stt_ok]
    exact hS
  refine ⟨[vO os, .val (.list (cals os cal)), .val (.list ((rowsC os cal 0).map .list)), x, .nil], ?_⟩
  rw [m_open_desks, r_mB]
  show (c_open_desks [vO os, .val (.list (cals os cal)), .nil, .nil, .nil]).fin = _
  rw [c_opend_eq, r_sSeq, s1, sq_nx, r_sSeq, s2, sq_nx]
  simp
theorem cals_sts (hl : ss.length = os.length + 1) : (sts ss).mapIdx (fun _ d => match d with | .str s => PyData.bool (decide (s ∈ ord)) | _ => .none) = cals os (calB ss ord) := by
  apply List.ext_getElem?
  intro i
  rw [List.getElem?_mapIdx, sts_get]
  unfold cals
  rw [List.getElem?_map]
  by_cases hi : i < os.length + 1
  · rw [List.getElem?_range hi, nmAt_get (ss := ss) (by omega)]
    rfl
  · rw [List.getElem?_eq_none (by omega), List.getElem?_eq_none (by rw [List.length_range]; omega)]
    rfl
theorem open_ok (c : Case os ss ord) : ∃ T, m_open_below [vO os, vS ss, vS ord] = .ok (.val (.list ((rowsT os ss ord 0).map .list))) T := by
  have hl := c.len
  have h39 := c.off.1
  obtain ⟨T, e⟩ := opend_ok (cal := calB ss ord) c.off
  have lc : lcL (gNm 3) sYes (sBin (gInT false) (sVar 3) (sVar 2)) [3] (sts ss) [vO os, vS ss, vS ord, .nil] = .ok (cals os (calB ss ord)) [vO os, vS ss, vS ord, .nil] := by
    rw [← cals_sts hl]
    refine lc_map fun i d hd => ?_
    rw [sts_get] at hd
    cases q : ss[i]? with
    | none => rw [q] at hd; cases hd
    | some s =>
      rw [q] at hd
      cases hd
      have := g_inT (s := s) (ss := ord)
      exact ⟨[vO os, vS ss, vS ord, .val (.str s)], [vO os, vS ss, vS ord, .val (.str s)], by simp, by simp [this], by simp [wipeS]⟩
  have l1 : ss.length < 16777216 := by omega
  simp [m_open_below, c_open_below, sts_len, sizeLine, l1, wipeS, lc, unwipe, e, cals_len]
end
end Ds
end

section
set_option Elab.async false
set_option linter.all false
set_option maxRecDepth 100000
set_option maxHeartbeats 1000000
open PySem PySem.Spec PyProof.Rows L2
namespace Ds
/-! ### comprehensions that leave the rest alone -/
theorem lc_mapF {g : GT} {e : SE} {vs : List Nat} {S : En} {f : PyData → PyData} : ∀ {ds : List PyData}, (∀ d ∈ ds, ∃ S2 S4, g d S = .nx S2 ∧ e S2 = .ok (f d) S4 ∧ wipeS vs S4 = S) → lcL g sYes e vs ds S = .ok (ds.map f) S
  | [], _ => rfl
  | d :: ds, h => by
    obtain ⟨S2, S4, e1, e2, e3⟩ := h d List.mem_cons_self
    have ih := lc_mapF (g := g) (e := e) (vs := vs) (S := S) (f := f) (ds := ds) fun d hd => h d (List.mem_cons_of_mem _ hd)
    rw [lcL, e1]
    show ((e S2).bind fun y S4 => (lcL g sYes e vs ds (wipeS vs S4)).bind fun ys S5 => .ok (y :: ys) S5) = _
    rw [e2, bind_ok, e3, ih, bind_ok]
    rfl
theorem lc_filtF {g : GT} {t : STt} {e : SE} {vs : List Nat} {S : En} {c : PyData → Bool} {f : PyData → PyData} : ∀ {ds : List PyData}, (∀ d ∈ ds, ∃ S2 S3, g d S = .nx S2 ∧ t S2 = .ok (c d) S3 ∧ wipeS vs S3 = S ∧ (c d = true → ∃ S4, e S3 = .ok (f d) S4 ∧ wipeS vs S4 = S)) → lcL g t e vs ds S = .ok ((ds.filter c).map f) S
  | [], _ => rfl
  | d :: ds, h => by
    obtain ⟨S2, S3, e1, e2, e3, e4⟩ := h d List.mem_cons_self
    have ih := lc_filtF (g := g) (t := t) (e := e) (vs := vs) (S := S) (c := c) (f := f) (ds := ds) fun d hd => h d (List.mem_cons_of_mem _ hd)
    rw [lcL, e1]
    show ((t S2).bind fun b S3 => if b = true then (e S3).bind fun y S4 => (lcL g t e vs ds (wipeS vs S4)).bind fun ys S5 => .ok (y :: ys) S5 else lcL g t e vs ds (wipeS vs S3)) = _
    rw [e2, bind_ok, List.filter_cons]
    cases q : c d with
    | false =>
      rw [if_neg (by decide), if_neg (by decide), e3, ih]
    | true =>
      obtain ⟨S4, e5, e6⟩ := e4 q
      rw [if_pos rfl, if_pos rfl, e5, bind_ok, e6, ih, bind_ok]
      rfl
/-! ### places -/
theorem findIdx_mem {s : Str} : ∀ {ys : List Str}, s ∈ ys → ys.findIdx? (· == s) = some (ys.idxOf s)
  | [], h => by cases h
  | y :: ys, h => by
    rw [List.findIdx?_cons, List.idxOf_cons]
    by_cases e : (y == s) = true
    · rw [if_pos e, e]; rfl
    · rw [if_neg e]
      have hm : s ∈ ys := by
        rcases List.mem_cons.mp h with h | h
        · exact absurd (by rw [h]; simp) e
        · exact h
      have e' : (y == s) = false := by simpa using e
      rw [findIdx_mem hm, e']
      rfl
theorem g_tix {s : Str} {ys : List Str} (h : s ∈ ys) : gTIx (.tuple (sts ys)) (.str s) = some (.int (ys.idxOf s : Nat)) := by
  show (match strsOf (sts ys) with
    | some ys => (ys.findIdx? (· == s)).map fun j => PyData.int (j : Nat)
    | none => none) = _
  rw [strsOf_sts]
  show (ys.findIdx? (· == s)).map (fun j => PyData.int (j : Nat)) = _
  rw [findIdx_mem h]
  rfl
theorem cut_from {ds : List PyData} {k : Nat} (h : k ≤ ds.length) : cutD ds (some (k : Int)) none = ds.drop k := by
  unfold cutD
  rw [HT.sIx_nat, HT.sIx_none, Nat.min_eq_left h, List.take_of_length_le (by rw [List.length_drop]; omega)]
theorem idx_lt {s : Str} {ys : List Str} (h : s ∈ ys) : ys.idxOf s < ys.length := List.idxOf_lt_length_of_mem h
theorem idx_get {s : Str} {ys : List Str} (h : s ∈ ys) : ys[ys.idxOf s]? = some s := by
  rw [List.getElem?_eq_getElem (idx_lt h), List.getElem_idxOf (idx_lt h)]
theorem idx_inj {s t : Str} {ys : List Str} (h : s ∈ ys) (g : t ∈ ys) (e : ys.idxOf s = ys.idxOf t) : s = t := by
  have := idx_get h
  rw [e, idx_get g] at this
  exact (Option.some.inj this).symm
theorem nodup_at {α : Type} {l : List α} (h : l.Nodup) {i j : Nat} {x : α} (a : l[i]? = some x) (b : l[j]? = some x) : i = j := nodup_idx h a b
theorem idx_nm {ss : List Str} (h : ss.Nodup) {d : Nat} (hd : d < ss.length) : ss.idxOf (nmAt ss d) = d := by
  have m : nmAt ss d ∈ ss := List.mem_of_getElem? (nmAt_get hd)
  exact nodup_at h (idx_get m) (nmAt_get hd)
theorem nm_mem {ss : List Str} {d : Nat} (hd : d < ss.length) : nmAt ss d ∈ ss := List.mem_of_getElem? (nmAt_get hd)
theorem nm_idx {ss : List Str} {s : Str} (h : s ∈ ss) : nmAt ss (ss.idxOf s) = s := by
  have := nmAt_get (idx_lt h)
  rw [idx_get h] at this
  exact (Option.some.inj this).symm
/-! ### what makes a desk unsettled -/
def blk (ss ord : List Str) (under : List Nat) (d : Nat) : List PyData :=
  if nmAt ss d ∈ ord then ((ord.drop (ord.idxOf (nmAt ss d) + 1)).filter fun s => decide (s ∈ under.map (nmAt ss))).map fun s => .int (ss.idxOf s : Nat)
  else if under = [] then [] else [.none]
section
variable {os : List Nat} {ss ord : List Str}
theorem g_inL {s : Str} {xs : List Str} : gInT false (.str s) (.list (sts xs)) = some (.bool (decide (s ∈ xs))) := by
  show (if flatD (.str s) = true ∧ (sts xs).all flatD = true then some (PyData.bool (if false = true then !inD (.str s) (sts xs) else inD (.str s) (sts xs))) else none) = _
  rw [if_pos ⟨rfl, flat_sts⟩, inD_sts]
  rfl
theorem blk_ok (c : Case os ss ord) {d : Nat} (hd : d < ss.length) {under : List Nat} (hu : ∀ x ∈ under, x < ss.length) (hn : under.length ≤ 40) : ∃ T, m_blockers_at [.val (.int (d : Nat)), .val (.list (nts under)), vS ss, vS ord] = .ok (.val (.list (blk ss ord under d))) T := by
  have sa := sts_at hd
  have h40 := c.osmall
  by_cases hc : nmAt ss d ∈ ord
  · have l1 : lcL (gNm 7) sYes (sBin gIx (sVar 2) (sVar 7)) [7] (nts under) [.val (.int (d : Nat)), .val (.list (nts under)), vS ss, vS ord, .val (.str (nmAt ss d)), .nil, .nil, .nil, .nil] = .ok (sts (under.map (nmAt ss))) [.val (.int (d : Nat)), .val (.list (nts under)), vS ss, vS ord, .val (.str (nmAt ss d)), .nil, .nil, .nil, .nil] := by
      rw [lc_mapF (f := fun z => match z with | .int k => .str (nmAt ss k.toNat) | _ => .none) fun z hz => ?_]
      · congr 1
        simp [nts, sts]
      · obtain ⟨x, hx, rfl⟩ := List.mem_map.mp hz
        exact ⟨[.val (.int (d : Nat)), .val (.list (nts under)), vS ss, vS ord, .val (.str (nmAt ss d)), .nil, .nil, .val (.int (x : Nat)), .nil], [.val (.int (d : Nat)), .val (.list (nts under)), vS ss, vS ord, .val (.str (nmAt ss d)), .nil, .nil, .val (.int (x : Nat)), .nil], by simp, by simp [sts_at (hu x hx)], by simp [wipeS]⟩
    have l2 : lcL (gNm 8) (sTst (sBin (gInT false) (sVar 8) (sVar 5))) (sTix (sVar 2) (sVar 8)) [8] (sts (ord.drop (ord.idxOf (nmAt ss d) + 1))) [.val (.int (d : Nat)), .val (.list (nts under)), vS ss, vS ord, .val (.str (nmAt ss d)), .val (.list (sts (under.map (nmAt ss)))), vS (ord.drop (ord.idxOf (nmAt ss d) + 1)), .nil, .nil] =
        .ok (blk ss ord under d) [.val (.int (d : Nat)), .val (.list (nts under)), vS ss, vS ord, .val (.str (nmAt ss d)), .val (.list (sts (under.map (nmAt ss)))), vS (ord.drop (ord.idxOf (nmAt ss d) + 1)), .nil, .nil] := by
      rw [lc_filtF (c := fun z => match z with | .str s => decide (s ∈ under.map (nmAt ss)) | _ => false) (f := fun z => match z with | .str s => .int (ss.idxOf s : Nat) | _ => .none) fun z hz => ?_]
      · congr 1
        unfold blk
        rw [if_pos hc]
        unfold sts
        rw [List.filter_map, List.map_map]
        rfl
      · obtain ⟨s, hs, rfl⟩ := List.mem_map.mp hz
        have hm : s ∈ ss := c.osub s (List.mem_of_mem_drop hs)
        refine ⟨[.val (.int (d : Nat)), .val (.list (nts under)), vS ss, vS ord, .val (.str (nmAt ss d)), .val (.list (sts (under.map (nmAt ss)))), vS (ord.drop (ord.idxOf (nmAt ss d) + 1)), .nil, .val (.str s)], [.val (.int (d : Nat)), .val (.list (nts under)), vS ss, vS ord, .val (.str (nmAt ss d)), .val (.list (sts (under.map (nmAt ss)))), vS (ord.drop (ord.idxOf (nmAt ss d) + 1)), .nil, .val (.str s)], by simp, ?_, by simp [wipeS], fun _ => ⟨[.val (.int (d : Nat)), .val (.list (nts under)), vS ss, vS ord, .val (.str (nmAt ss d)), .val (.list (sts (under.map (nmAt ss)))), vS (ord.drop (ord.idxOf (nmAt ss d) + 1)), .nil, .val (.str s)], ?_, by simp [wipeS]⟩⟩
        · rw [r_sTst]
          rw [show sBin (gInT false) (sVar 8) (sVar 5) _ = .ok (.bool (decide (s ∈ under.map (nmAt ss)))) _ from by rw [r_sBin]; show R.opt (gInT false (.str s) (.list (sts (under.map (nmAt ss))))) _ = _; rw [g_inL]; rfl]
          rfl
        · simp [g_tix hm]
    have ec : gCut (.tuple (sts ord)) (some ((ord.idxOf (nmAt ss d) : Int) + 1)) none = some (.tuple (sts (ord.drop (ord.idxOf (nmAt ss d) + 1)))) := by
      have := idx_lt hc
      show some (PyData.tuple (cutD (sts ord) (some ((ord.idxOf (nmAt ss d) : Int) + 1)) none)) = _
      rw [show ((ord.idxOf (nmAt ss d) : Int) + 1) = ((ord.idxOf (nmAt ss d) + 1 : Nat) : Int) by omega, cut_from (by rw [sts_len]; omega)]
      simp [sts]
    have n1 : under.length < 16777216 := by omega
    have n2 : ord.length - (ord.idxOf (nmAt ss d) + 1) < 16777216 := by omega
    simp [m_blockers_at, c_blockers_at, sa, hc, wipeS, unwipe, nts_len, sts_len, sizeLine, n1, l1, g_tix hc, ec, n2, l2]
  · by_cases hu0 : under = []
    · subst hu0
      have eb : blk ss ord [] d = [] := by unfold blk; rw [if_neg hc, if_pos rfl]
      simp [m_blockers_at, c_blockers_at, sa, hc, lLen, nts, eb, sizeLine]
    · have eb : blk ss ord under d = [.none] := by unfold blk; rw [if_neg hc, if_neg hu0]
      have hp : 0 < under.length := List.length_pos_iff.mpr hu0
      simp [m_blockers_at, c_blockers_at, sa, hc, lLen, nts_len, eb, sizeLine, hp]
end
end Ds
end

section
set_option Elab.async false
set_option linter.all false
set_option maxRecDepth 100000
set_option maxHeartbeats 1000000
open PySem PySem.Spec PyProof.Rows L2
namespace Ds
def blkD (os : List Nat) (ss ord : List Str) (d : Nat) : List PyData := blk ss ord (okd os (calB ss ord) 0 d) d
def stat (os : List Nat) (ss ord : List Str) (d : Nat) : Str :=
  if 0 < (blkD os ss ord d).length then Str.ofString "unsettled" else if 0 < (okd os (calB ss ord) 0 d).length then Str.ofString "center" else if nmAt ss d ∈ ord then Str.ofString "open" else Str.ofString "silent"
def desks (os : List Nat) : List Nat := List.range (os.length + 1)
section
variable {os : List Nat} {ss ord : List Str}
theorem okd_small (c : Case os ss ord) {d : Nat} : (∀ x ∈ okd os (calB ss ord) 0 d, x < ss.length) ∧ (okd os (calB ss ord) 0 d).length ≤ 40 := by
  have := c.len
  have := c.off.1
  refine ⟨fun x hx => ?_, Nat.le_trans okd_len (by omega)⟩
  have := (mem_okd.mp hx).2.1
  omega
theorem blkD_ok (c : Case os ss ord) {d : Nat} (hd : d < ss.length) : ∃ T, m_blockers_at [.val (.int (d : Nat)), .val (.list (nts (okd os (calB ss ord) 0 d))), vS ss, vS ord] = .ok (.val (.list (blkD os ss ord d))) T :=
  blk_ok c hd (okd_small c).1 (okd_small c).2
theorem g_lenL {ds : List PyData} : gLen [.list ds] = some (.int ds.length) := rfl
theorem stat_ok (c : Case os ss ord) {d : Nat} (hd : d < ss.length) : ∃ T, m_status_of [.val (.int (d : Nat)), .val (.list (nts (okd os (calB ss ord) 0 d))), vS ss, vS ord] = .ok (.val (.str (stat os ss ord d))) T := by
  obtain ⟨T, e⟩ := blkD_ok c hd
  have sa := sts_at hd
  unfold stat
  by_cases h1 : 0 < (blkD os ss ord d).length
  · have h1' : (0 : Int) < (blkD os ss ord d).length := by omega
    rw [if_pos h1]
    simp [m_status_of, c_status_of, e, g_lenL, h1]
  · have h1' : ¬ (0 : Int) < (blkD os ss ord d).length := by omega
    rw [if_neg h1]
    by_cases h2 : 0 < (okd os (calB ss ord) 0 d).length
    · rw [if_pos h2]
      simp [m_status_of, c_status_of, e, g_lenL, h1, lLen, nts_len, h2]
    · rw [if_neg h2]
      by_cases h3 : nmAt ss d ∈ ord
      · simp [m_status_of, c_status_of, e, g_lenL, h1, lLen, nts_len, h2, sa, h3]
      · simp [m_status_of, c_status_of, e, g_lenL, h1, lLen, nts_len, h2, sa, h3]
theorem enum_rows {i : Nat} {z : PyData} (h : (enumD ((rowsT os ss ord 0).map .list))[i]? = some z) : i < os.length + 1 ∧ z = .tuple [.int (i : Nat), .list (nts (okd os (calB ss ord) 0 i))] := by
  obtain ⟨x, hx, rfl⟩ := enumD_get h
  rw [List.getElem?_map] at hx
  cases q : (rowsT os ss ord 0)[i]? with
  | none => rw [q] at hx; cases hx
  | some y =>
    rw [q] at hx
    cases hx
    have hi := (List.getElem?_eq_some_iff.mp q).1
    rw [rowsT_len] at hi
    rw [rowsT_get (by omega)] at q
    cases q
    exact ⟨hi, rfl⟩
theorem lc_rows {g : GT} {e : SE} {vs : List Nat} {S : En} {f : Nat → PyData} (h : ∀ d, d < os.length + 1 → ∃ S2 S4, g (.tuple [.int (d : Nat), .list (nts (okd os (calB ss ord) 0 d))]) S = .nx S2 ∧ e S2 = .ok (f d) S4 ∧ wipeS vs S4 = S) :
    lcL g sYes e vs (enumD ((rowsT os ss ord 0).map .list)) S = .ok ((desks os).map f) S := by
  rw [lc_map (f := fun i _ => f i) fun i z hz => ?_]
  · congr 1
    apply List.ext_getElem?
    intro i
    rw [List.getElem?_mapIdx, desks, List.getElem?_map]
    by_cases hi : i < os.length + 1
    · rw [List.getElem?_range hi, List.getElem?_eq_getElem (by rw [enumD_len, List.length_map, rowsT_len]; exact hi)]
      rfl
    · rw [List.getElem?_eq_none (by rw [enumD_len, List.length_map, rowsT_len]; omega), List.getElem?_eq_none (by rw [List.length_range]; omega)]
      rfl
  · obtain ⟨hi, rfl⟩ := enum_rows hz
    exact h i hi
theorem rows_small (h : Off os) : (enumD ((rowsT os ss ord 0).map .list)).length < 16777216 := by
  rw [enumD_len, List.length_map, rowsT_len]
  have := h.1
  omega
theorem statuses_ok (c : Case os ss ord) : ∃ T, m_statuses [vO os, vS ss, vS ord] = .ok (.own ((desks os).map fun d => .str (stat os ss ord d))) T := by
  obtain ⟨T1, e1⟩ := need_ord c
  obtain ⟨T2, e2⟩ := open_ok c
  have hl := c.len
  have lc : lcL (gTp (gNC (gNm 4) (gNC (gNm 5) gN0))) sYes (sCallV m_status_of (sGv (sVar 4) (sGv (sVar 5) (sGv (sVar 1) (sGv (sVar 2) sG0))))) [4, 5] (enumD ((rowsT os ss ord 0).map .list)) [vO os, vS ss, vS ord, .val (.list ((rowsT os ss ord 0).map .list)), .nil, .nil] = .ok ((desks os).map fun d => .str (stat os ss ord d)) [vO os, vS ss, vS ord, .val (.list ((rowsT os ss ord 0).map .list)), .nil, .nil] := by
    refine lc_rows fun d hd => ?_
    obtain ⟨T, e⟩ := stat_ok c (d := d) (by omega)
    refine ⟨[vO os, vS ss, vS ord, .val (.list ((rowsT os ss ord 0).map .list)), .val (.int (d : Nat)), .val (.list (nts (okd os (calB ss ord) 0 d)))], [vO os, vS ss, vS ord, .val (.list ((rowsT os ss ord 0).map .list)), .val (.int (d : Nat)), .val (.list (nts (okd os (calB ss ord) 0 d)))], ?_, ?_, ?_⟩
    · simp [gTp, gNC]
    · simp [e]
    · simp [wipeS]
  have l1 := rows_small (os := os) (ss := ss) (ord := ord) c.off
  generalize (rowsT os ss ord 0).map PyData.list = rs at *
  simp [m_statuses, c_statuses, e1, e2, sizeLine, l1, wipeS, unwipe, lc]
theorem blockers_ok (c : Case os ss ord) : ∃ T, m_blockers [vO os, vS ss, vS ord] = .ok (.own ((desks os).map fun d => .list (blkD os ss ord d))) T := by
  obtain ⟨T2, e2⟩ := open_ok c
  have hl := c.len
  have lc : lcL (gTp (gNC (gNm 4) (gNC (gNm 5) gN0))) sYes (sCallV m_blockers_at (sGv (sVar 4) (sGv (sVar 5) (sGv (sVar 1) (sGv (sVar 2) sG0))))) [4, 5] (enumD ((rowsT os ss ord 0).map .list)) [vO os, vS ss, vS ord, .val (.list ((rowsT os ss ord 0).map .list)), .nil, .nil] = .ok ((desks os).map fun d => .list (blkD os ss ord d)) [vO os, vS ss, vS ord, .val (.list ((rowsT os ss ord 0).map .list)), .nil, .nil] := by
    refine lc_rows fun d hd => ?_
    obtain ⟨T, e⟩ := blkD_ok c (d := d) (by omega)
    refine ⟨[vO os, vS ss, vS ord, .val (.list ((rowsT os ss ord 0).map .list)), .val (.int (d : Nat)), .val (.list (nts (okd os (calB ss ord) 0 d)))], [vO os, vS ss, vS ord, .val (.list ((rowsT os ss ord 0).map .list)), .val (.int (d : Nat)), .val (.list (nts (okd os (calB ss ord) 0 d)))], ?_, ?_, ?_⟩
    · simp [gTp, gNC]
    · simp [e]
    · simp [wipeS]
  have l1 := rows_small (os := os) (ss := ss) (ord := ord) c.off
  generalize (rowsT os ss ord 0).map PyData.list = rs at *
  simp [m_blockers, c_blockers, e2, sizeLine, l1, wipeS, unwipe, lc]
def settledB (os : List Nat) (ss ord : List Str) : Bool := (desks os).all fun d => (blkD os ss ord d).isEmpty
theorem lAll_bools {bs : List Bool} : lAll (bs.map PyData.bool) = some (.bool (bs.all id)) := by
  unfold lAll
  rw [bls_bools]
  rfl
theorem settled_ok (c : Case os ss ord) : ∃ T, m_is_settled [vO os, vS ss, vS ord] = .ok (.val (.bool (settledB os ss ord))) T := by
  obtain ⟨T2, e2⟩ := blockers_ok c
  have h39 := c.off.1
  have lc : lcL (gNm 3) sYes (sBin gEq (sRd lLen (sLVar 3)) (sK (.int 0))) [3] ((desks os).map fun d => .list (blkD os ss ord d)) [vO os, vS ss, vS ord, .nil] = .ok (((desks os).map fun d => (blkD os ss ord d).isEmpty).map PyData.bool) [vO os, vS ss, vS ord, .nil] := by
    rw [lc_mapF (f := fun z => match z with | .list ds => .bool ds.isEmpty | _ => .none) fun z hz => ?_]
    · rw [List.map_map, List.map_map]
      rfl
    · obtain ⟨d, hd, rfl⟩ := List.mem_map.mp hz
      refine ⟨[vO os, vS ss, vS ord, .val (.list (blkD os ss ord d))], [vO os, vS ss, vS ord, .val (.list (blkD os ss ord d))], by simp, ?_, by simp [wipeS]⟩
      generalize blkD os ss ord d = b
      cases b with
      | nil => simp [lLen]
      | cons x xs =>
        simp [lLen]
        omega
  have l1 : ((desks os).map fun d => PyData.list (blkD os ss ord d)).length < 16777216 := by rw [List.length_map, desks, List.length_range]; omega
  have l3 := lAll_bools (bs := (desks os).map fun d => (blkD os ss ord d).isEmpty)
  rw [List.all_map] at l3
  generalize ((desks os).map fun d => PyData.list (blkD os ss ord d)) = rs at *
  generalize (((desks os).map fun d => (blkD os ss ord d).isEmpty).map PyData.bool) = bs at *
  unfold settledB
  simp [m_is_settled, c_is_settled, e2, sizeLine, l1, wipeS, unwipe, lc, l3]
theorem recur_ok (c : Case os ss ord) : ∃ T, m_is_recurrent [vO os, vS ss, vS ord] = .ok (.val (.bool (settledB os ss ord))) T := by
  obtain ⟨T1, e1⟩ := need_ord c
  obtain ⟨T2, e2⟩ := settled_ok c
  simp [m_is_recurrent, c_is_recurrent, e1, e2]
end
end Ds
end

section
set_option Elab.async false
set_option linter.all false
set_option maxRecDepth 100000
set_option maxHeartbeats 1000000
open PySem PySem.Spec PyProof.Rows L2
namespace Ds
/-! ### the law's source of numbers -/
def Sg (k : Nat) (ds : List PyData) : Prop := ∃ a b n : Int, ds = [.int a, .int b, .int n] ∧ 0 ≤ b ∧ b < 10 ^ 37 ∧ 0 ≤ n ∧ n ≤ k
theorem Sg.mono {k j : Nat} {ds : List PyData} (h : Sg k ds) (l : k ≤ j) : Sg j ds := by
  obtain ⟨a, b, n, e, h1, h2, h3, h4⟩ := h
  exact ⟨a, b, n, e, h1, h2, h3, by omega⟩
def PB (i : Int) : Prop := i.natAbs < 2 ^ 1000
theorem g_powB {i j : Int} (h0 : 0 ≤ j) (h1 : j ≤ 1000) (h : PB i) : gPowB (.int i) (.int j) = some (.int (i ^ j.toNat)) := by
  show (if cPowB i j = true then some (PyData.int (i ^ j.toNat)) else none) = _
  have : cPowB i j = true := decide_eq_true (p := 0 ≤ j ∧ j ≤ 1000 ∧ i.natAbs < 2 ^ 1000) ⟨h0, h1, h⟩
  rw [if_pos this]
theorem g_pow3 {i : Int} (h : PB i) : gPowB (.int i) (.int 3) = some (.int (i ^ 3)) := g_powB (by decide) (by decide) h
theorem g_pow5 {i : Int} (h : PB i) : gPowB (.int i) (.int 5) = some (.int (i ^ 5)) := g_powB (by decide) (by decide) h
theorem law_source (c : Int) : ∃ bag T, Sg 0 bag ∧ m__law_source [.val (.int c)] = .ok (.own bag) T := by
  have b0 : 0 ≤ c % 1000000000000000000000000000000000067 := Int.emod_nonneg _ (by decide)
  have b1 : c % 1000000000000000000000000000000000067 < 1000000000000000000000000000000000067 := Int.emod_lt_of_pos _ (by decide)
  refine ⟨[.int (if c - 10 ^ 18 > 0 then c - 10 ^ 18 else 0), .int (c % 1000000000000000000000000000000000067), .int 0], [.val (.int c)], ⟨_, _, _, rfl, b0, by omega, by omega, by omega⟩, ?_⟩
  simp [m__law_source, c__law_source, sizeLine]
theorem pw3 {b n : Int} (h0 : 0 ≤ b) (h1 : b < 10 ^ 37) (n0 : 0 ≤ n) (n1 : n ≤ 1000000) : PB (b + 49979687 * n) := by
  have : (b + 49979687 * n).natAbs < 2 * 10 ^ 37 := by omega
  exact Nat.lt_trans this (by decide)
theorem pw5 {x n : Int} (h0 : 0 ≤ x) (h1 : x < 100000000000000000000000000000000000133) (n0 : 0 ≤ n) (n1 : n ≤ 1000000) : PB (x + 67867967 * n) := by
  have : (x + 67867967 * n).natAbs < 2 * 10 ^ 38 := by omega
  exact Nat.lt_trans this (by decide)
theorem draw {k : Nat} {bag : List PyData} (hb : Sg k bag) (hk : k < 1000000) {m : Int} (h0 : 0 < m) (h1 : m < 2 ^ 100) : ∃ r bag' T, 0 ≤ r ∧ r < m ∧ Sg (k + 1) bag' ∧ m__law_draw [.io bag, .val (.int m)] = .ok (.val (.int r)) (.io bag' :: T) := by
  obtain ⟨a, b, n, rfl, b0, b1, n1, n2⟩ := hb
  have lm : m.natAbs.log2 < 9000 := Nat.lt_trans (lg_lt (by decide) (by omega) h1) (by decide)
  by_cases ha : 0 < a
  · refine ⟨a % m, [.int (a / m), .int b, .int n], [.val (.int m), .nil, .val (.int (a % m))], Int.emod_nonneg _ (by omega), Int.emod_lt_of_pos _ h0, ⟨_, _, _, rfl, b0, b1, by omega, by omega⟩, ?_⟩
    simp [m__law_draw, c__law_draw, ha, h0, lm]
  · have l1 : (n + 1).natAbs.log2 < 30 := lg_lt (by decide) (by omega) (by omega)
    have k1 : Nat.log2 49979687 < 30 := by decide +kernel
    have k2 : Nat.log2 67867967 < 30 := by decide +kernel
    have k3 : Nat.log2 1048576 < 9000 := by decide +kernel
    have c1 : Nat.log2 49979687 + (n + 1).natAbs.log2 < 1000000 := by omega
    have c2 : Nat.log2 67867967 + (n + 1).natAbs.log2 < 1000000 := by omega
    have p1 := g_pow3 (pw3 b0 b1 (n := n + 1) (by omega) (by omega))
    have p2 : ∀ y : Int, gPowB (.int (y % 100000000000000000000000000000000000133 + 67867967 * (n + 1))) (.int 5) = some (.int ((y % 100000000000000000000000000000000000133 + 67867967 * (n + 1)) ^ 5)) := fun y => g_pow5 <| pw5 (Int.emod_nonneg _ (by decide)) (Int.emod_lt_of_pos _ (by decide)) (by omega) (by omega)
    have key : ∃ x T, m__law_draw [.io [.int a, .int b, .int n], .val (.int m)] = .ok (.val (.int (x % m))) (.io [.int a, .int b, .int (n + 1)] :: T) := by
      simp [m__law_draw, c__law_draw, ha, h0, c1, c2, k3, p1, p2]
      exact ⟨_, rfl⟩
    obtain ⟨x, T, e⟩ := key
    exact ⟨_, _, T, Int.emod_nonneg _ (by omega), Int.emod_lt_of_pos _ h0, ⟨_, _, _, rfl, b0, b1, by omega, by omega⟩, e⟩
end Ds
end

section
set_option Elab.async false
set_option linter.all false
set_option maxRecDepth 100000
set_option maxHeartbeats 1000000
open PySem PySem.Spec PyProof.Rows L2
namespace Ds
theorem smallI_ok {i : Int} (h0 : -1000000 ≤ i) (h1 : i < 1000000) : smallI i = true := by
  unfold smallI
  have e : (2 : Int) ^ 62 = 4611686018427387904 := by decide
  rw [e]
  simp; omega
theorem rng1_ok {i : Int} (h0 : -1000000 ≤ i) (h1 : i < 1000000) : rng1 [.int i] = some (rng 0 i) := by
  show (if smallI i = true then some (rng 0 i) else none) = _
  rw [if_pos (smallI_ok h0 h1)]
theorem rng2_ok {i j : Int} (h0 : -1000000 ≤ i) (h1 : i < 1000000) (g0 : -1000000 ≤ j) (g1 : j < 1000000) : rng2 [.int i, .int j] = some (rng i j) := by
  show (if smallI i = true ∧ smallI j = true then some (rng i j) else none) = _
  rw [if_pos ⟨smallI_ok h0 h1, smallI_ok g0 g1⟩]
theorem rng_get {a b : Int} {i : Nat} {z : PyData} (h : (rng a b)[i]? = some z) : z = .int (a + i) ∧ i < (b - a).toNat := by
  unfold rng at h
  rw [List.getElem?_map] at h
  cases q : (List.range (b - a).toNat)[i]? with
  | none => rw [q] at h; cases h
  | some j =>
    rw [q] at h
    obtain ⟨h1, h2⟩ := List.getElem?_eq_some_iff.mp q
    rw [List.getElem_range] at h2
    rw [List.length_range] at h1
    subst h2
    cases h
    exact ⟨rfl, h1⟩
theorem rng_len {a b : Int} : (rng a b).length = (b - a).toNat := by simp [rng]
theorem nts_snoc {os : List Nat} {v : Int} (h : 0 ≤ v) : nts os ++ [.int v] = nts (os ++ [v.toNat]) := by
  simp [nts, Int.toNat_of_nonneg h]
@[simp] theorem g_min {i j : Int} : gMin [.int i, .int j] = some (.int (if j < i then j else i)) := rfl
def q_off1 : SS := sSet 2 (sNE (sLst (sCons (sBin gAdd (sK (.int 1)) (sCallV m__law_draw (sGr 0 (sGv (sCallB gMin (sCons (sVar 1) (sCons (sK (.int 6)) sNil))) sG0)))) (sCons (sBin gAdd (sK (.int 1)) (sCallV m__law_draw (sGr 0 (sGv (sVar 1) sG0)))) (sCons (sVar 1) sNil)))))
def q_off2 : SS := sParV 5 6 (sCons (sBin gIx (sVar 2) (sCallV m__law_draw (sGr 0 (sGv (sK (.int 3)) sG0)))) (sCons (sCallV m__law_draw (sGr 0 (sGv (sK (.int 5)) sG0))) sNil))
def q_off3 : SS := sParV3 7 8 9 (sCons (sCallV m__law_draw (sGr 0 (sGv (sVar 4) sG0))) (sCons (sCallV m__law_draw (sGr 0 (sGv (sK (.int 3)) sG0))) (sCons (sCallV m__law_draw (sGr 0 (sGv (sCallB gMin (sCons (sVar 4) (sCons (sK (.int 4)) sNil))) sG0))) sNil)))
def q_off4 : SS := sDrop (sAppend 3 (sBin gIx (sNE (sLst (sCons (sBin gSub_ (sVar 4) (sK (.int 1))) (sCons (sK (.int 0)) (sCons (sVar 7) (sCons (sCallB gMax (sCons (sK (.int 0)) (sCons (sBin gSub_ (sBin gSub_ (sVar 4) (sK (.int 1))) (sVar 8)) sNil))) (sCons (sVar 9) sNil))))))) (sVar 6)))
theorem c_off_eq : c__law_office = sSeq q_off1 (sSeq q_off2 (sSeq (sSetNew 3 (sLst sNil)) (sSeq (sFor (sRng2 (sCons (sK (.int 1)) (sCons (sVar 5) sNil))) (gNm 4) (sSeq q_off3 q_off4)) (sRet (sRd lTup (sLVar 3)))))) := rfl
theorem noio_bare {x : Sl} (h : bare (some x) = true) : noio (some x) = true := (bare_noio h).1
theorem off_step {m z st : Int} {k i : Nat} {os : List Nat} {bg : List PyData} {x2 x4 x7 x8 x9 : Sl} (hb : Sg k bg) (hk : k < 900000) (hi : i < 1000) (hl : os.length = i) (s0 : 0 ≤ st) (s1 : st < 5) (b7 : bare (some x7) = true) (b8 : bare (some x8) = true) (b9 : bare (some x9) = true) :
    ∃ bg' v y7 y8 y9, Sg (k + 3) bg' ∧ 0 ≤ v ∧ v ≤ (i : Int) ∧ bare (some y7) = true ∧ bare (some y8) = true ∧ bare (some y9) = true ∧ (sSeq q_off3 q_off4) [.io bg, .val (.int m), x2, .own (nts os), .val (.int (1 + (i : Nat))), .val (.int z), .val (.int st), x7, x8, x9] = .nx [.io bg', .val (.int m), x2, .own (nts os ++ [.int v]), .val (.int (1 + (i : Nat))), .val (.int z), .val (.int st), y7, y8, y9] := by
  obtain ⟨r1, bag1, T1, a1, a2, a3, e1⟩ := draw hb (by omega) (m := 1 + (i : Int)) (by omega) (by omega)
  obtain ⟨r2, bag2, T2, b1, b2, b3, e2⟩ := draw a3 (by omega) (m := 3) (by decide) (by decide)
  obtain ⟨r3, bag3, T3, c1, c2, c3, e3⟩ := draw b3 (by omega) (m := if 4 < 1 + (i : Int) then 4 else 1 + (i : Int)) (by split <;> omega) (by split <;> omega)
  have hv : ∃ v : Int, 0 ≤ v ∧ v ≤ i ∧ atI [PyData.int (1 + (i : Int) - 1), .int 0, .int r1, .int (if 1 + (i : Int) - 1 - r2 > 0 then 1 + (i : Int) - 1 - r2 else 0), .int r3] st = some (.int v) := by
    rw [atI_nn s0]
    have : st = 0 ∨ st = 1 ∨ st = 2 ∨ st = 3 ∨ st = 4 := by omega
    rcases this with q | q | q | q | q <;> subst q
    · exact ⟨_, by omega, by omega, rfl⟩
    · exact ⟨0, by omega, by omega, rfl⟩
    · exact ⟨r1, by omega, by omega, rfl⟩
    · exact ⟨_, by split <;> omega, by split <;> omega, rfl⟩
    · refine ⟨r3, by omega, ?_, rfl⟩
      split at c2 <;> omega
  obtain ⟨v, v0, v1, ev⟩ := hv
  refine ⟨bag3, v, .val (.int r1), .val (.int r2), .val (.int r3), c3, v0, v1, rfl, rfl, rfl, ?_⟩
  have h3 : q_off3 [.io bg, .val (.int m), x2, .own (nts os), .val (.int (1 + (i : Nat))), .val (.int z), .val (.int st), x7, x8, x9] = .nx [.io bag3, .val (.int m), x2, .own (nts os), .val (.int (1 + (i : Nat))), .val (.int z), .val (.int st), .val (.int r1), .val (.int r2), .val (.int r3)] := by
    simp [q_off3, e1, e2, e3, noio_bare b7, noio_bare b8, noio_bare b9]
  have sz : os.length < 16777216 := by omega
  have h4 : q_off4 [.io bag3, .val (.int m), x2, .own (nts os), .val (.int (1 + (i : Nat))), .val (.int z), .val (.int st), .val (.int r1), .val (.int r2), .val (.int r3)] = .nx [.io bag3, .val (.int m), x2, .own (nts os ++ [.int v]), .val (.int (1 + (i : Nat))), .val (.int z), .val (.int st), .val (.int r1), .val (.int r2), .val (.int r3)] := by
    simp at ev
    simp [q_off4, sizeLine, ev, nts_len, sz]
  rw [r_sSeq, h3, sq_nx, h4]
theorem law_off {m : Int} (m0 : 0 < m) (m1 : m ≤ 40) {k : Nat} (hk : k < 800000) {bag : List PyData} (hb : Sg k bag) : ∃ os bag' T, Off os ∧ Sg (k + 200) bag' ∧ (os.length : Int) < m ∧ m__law_office [.io bag, .val (.int m)] = .ok (.val (.tuple (nts os))) (.io bag' :: T) := by
  obtain ⟨r1, bag1, T1, a1, a2, a3, e1⟩ := draw hb (by omega) (m := if 6 < m then 6 else m) (by split <;> omega) (by split <;> omega)
  obtain ⟨r2, bag2, T2, b1, b2, b3, e2⟩ := draw a3 (by omega) (m := m) m0 (by omega)
  obtain ⟨r3, bag3, T3, c1, c2, c3, e3⟩ := draw b3 (by omega) (m := 3) (by decide) (by decide)
  obtain ⟨r4, bag4, T4, d1, d2, d3, e4⟩ := draw c3 (by omega) (m := 5) (by decide) (by decide)
  have hz : ∃ z : Int, 1 ≤ z ∧ z ≤ m ∧ atI [PyData.int (1 + r1), .int (1 + r2), .int m] r3 = some (.int z) := by
    rw [atI_nn c1]
    have : r3 = 0 ∨ r3 = 1 ∨ r3 = 2 := by omega
    rcases this with q | q | q <;> subst q
    · refine ⟨_, ?_, ?_, rfl⟩
      · omega
      · split at a2 <;> omega
    · exact ⟨_, by omega, by omega, rfl⟩
    · exact ⟨_, by omega, by omega, rfl⟩
  obtain ⟨z, z0, z1, ez⟩ := hz
  have s1 : q_off1 [.io bag, .val (.int m), .nil, .nil, .nil, .nil, .nil, .nil, .nil, .nil] = .nx [.io bag2, .val (.int m), .val (.list [.int (1 + r1), .int (1 + r2), .int m]), .nil, .nil, .nil, .nil, .nil, .nil, .nil] := by
    simp [q_off1, e1, e2, sizeLine]
  have s2 : q_off2 [.io bag2, .val (.int m), .val (.list [.int (1 + r1), .int (1 + r2), .int m]), .nil, .nil, .nil, .nil, .nil, .nil, .nil] = .nx [.io bag4, .val (.int m), .val (.list [.int (1 + r1), .int (1 + r2), .int m]), .nil, .nil, .val (.int z), .val (.int r4), .nil, .nil, .nil] := by
    simp [q_off2, e3, e4, ez]
  have s3 : sSetNew 3 (sLst sNil) [.io bag4, .val (.int m), .val (.list [.int (1 + r1), .int (1 + r2), .int m]), .nil, .nil, .val (.int z), .val (.int r4), .nil, .nil, .nil] = .nx [.io bag4, .val (.int m), .val (.list [.int (1 + r1), .int (1 + r2), .int m]), .own [], .nil, .val (.int z), .val (.int r4), .nil, .nil, .nil] := by
    simp [sizeLine]
  obtain ⟨S', el, bg, os, x4, x7, x8, x9, f1, f2, f3, f4, f7, f8, f9, rfl⟩ := loop_inv (g := gNm 4) (b := sSeq q_off3 q_off4) (ds := rng 1 z) (P := fun i S => ∃ bag os x4 x7 x8 x9, Sg (k + 4 + 3 * i) bag ∧ os.length = i ∧ (∀ (j y : Nat), os[j]? = some y → y ≤ j) ∧ bare (some x4) = true ∧ bare (some x7) = true ∧ bare (some x8) = true ∧ bare (some x9) = true ∧ S = [.io bag, .val (.int m), .val (.list [.int (1 + r1), .int (1 + r2), .int m]), .own (nts os), x4, .val (.int z), .val (.int r4), x7, x8, x9])
    (S := [.io bag4, .val (.int m), .val (.list [.int (1 + r1), .int (1 + r2), .int m]), .own [], .nil, .val (.int z), .val (.int r4), .nil, .nil, .nil]) ⟨bag4, [], .nil, .nil, .nil, .nil, d3.mono (by omega), rfl, fun j y h => by simp at h, rfl, rfl, rfl, rfl, rfl⟩ fun i w S hw hS => by
    obtain ⟨bg, os, x4, x7, x8, x9, f1, f2, f3, f4, f7, f8, f9, rfl⟩ := hS
    obtain ⟨ew, hi⟩ := rng_get hw
    subst ew
    obtain ⟨bg', v, y7, y8, y9, g1, g2, g3, g7, g8, g9, ge⟩ := off_step (m := m) (z := z) (x2 := .val (.list [.int (1 + r1), .int (1 + r2), .int m])) (x4 := x4) f1 (by omega) (by omega) f2 d1 d2 f7 f8 f9
    refine ⟨_, _, ?_, ge, bg', os ++ [v.toNat], _, y7, y8, y9, g1.mono (by omega), by simp [f2], ?_, rfl, g7, g8, g9, by rw [nts_snoc g2]⟩
    · simp [f4]
    · intro j y h
      by_cases q : j < os.length
      · rw [List.getElem?_append_left q] at h
        exact f3 j y h
      · have : j < (os ++ [v.toNat]).length := (List.getElem?_eq_some_iff.mp h).1
        have ej : j = os.length := by simp at this; omega
        subst ej
        simp at h
        omega
  have hlen : os.length = (z - 1).toNat := by rw [f2, rng_len]
  have s4 : sFor (sRng2 (sCons (sK (.int 1)) (sCons (sVar 5) sNil))) (gNm 4) (sSeq q_off3 q_off4) [.io bag4, .val (.int m), .val (.list [.int (1 + r1), .int (1 + r2), .int m]), .own [], .nil, .val (.int z), .val (.int r4), .nil, .nil, .nil] = .nx [.io bg, .val (.int m), .val (.list [.int (1 + r1), .int (1 + r2), .int m]), .own (nts os), x4, .val (.int z), .val (.int r4), x7, x8, x9] := by
    rw [r_sFor, rng2_run (S1 := [.io bag4, .val (.int m), .val (.list [.int (1 + r1), .int (1 + r2), .int m]), .own [], .nil, .val (.int z), .val (.int r4), .nil, .nil, .nil]) (ds := [.int 1, .int z]) (by simp) (rng2_ok (by omega) (by omega) (by omega) (by omega)), stt_ok]
    exact el
  refine ⟨os, bg, [.val (.int m), .val (.list [.int (1 + r1), .int (1 + r2), .int m]), .own (nts os), x4, .val (.int z), .val (.int r4), x7, x8, x9], ⟨by omega, f3⟩, f1.mono (by rw [rng_len]; omega), by omega, ?_⟩
  rw [m__law_office, r_mB]
  show (c__law_office [.io bag, .val (.int m), .nil, .nil, .nil, .nil, .nil, .nil, .nil, .nil]).fin = _
  rw [c_off_eq, r_sSeq, s1, sq_nx, r_sSeq, s2, sq_nx, r_sSeq, s3, sq_nx, r_sSeq, s4, sq_nx]
  simp [lTup]
end Ds
end

section
set_option Elab.async false
set_option linter.all false
set_option maxRecDepth 100000
set_option maxHeartbeats 1000000
open PySem PySem.Spec PyProof.Rows L2
namespace Ds
theorem erase_perm {α : Type} : ∀ {l : List α} {i : Nat} {x : α}, l[i]? = some x → (x :: l.eraseIdx i).Perm l
  | [], i, x, h => by simp at h
  | y :: l, 0, x, h => by
    obtain rfl : y = x := by simpa using h
    exact List.Perm.refl _
  | y :: l, i + 1, x, h => by
    have ih := erase_perm (l := l) (i := i) (x := x) (by simpa using h)
    show (x :: y :: l.eraseIdx i).Perm (y :: l)
    exact (List.Perm.swap y x _).trans (ih.cons y)
theorem sts_erase {l : List Str} {i : Nat} : (sts l).eraseIdx i = sts (l.eraseIdx i) := by
  induction l generalizing i with
  | nil => rfl
  | cons x l ih =>
    cases i with
    | zero => rfl
    | succ i => show PyData.str x :: (sts l).eraseIdx i = .str x :: sts (l.eraseIdx i); rw [ih]
theorem sts_app {a b : List Str} : sts a ++ sts b = sts (a ++ b) := by simp [sts]
theorem pop_ok {l : List Str} {r : Int} (h0 : 0 ≤ r) (h1 : r < l.length) (h2 : l.length ≤ 1000000) : popI (sts l) (.int r) = some (.str (nmAt l r.toNat), sts (l.eraseIdx r.toNat)) := by
  show (if 0 ≤ r ∧ r < (sts l).length ∧ r < 2 ^ 63 then ((sts l)[r.toNat]?).map fun x => (x, (sts l).eraseIdx r.toNat) else none) = _
  rw [if_pos ⟨h0, by rw [sts_len]; exact h1, by omega⟩, sts_get, nmAt_get (ss := l) (t := r.toNat) (by omega), sts_erase]
  rfl
/-- items taken out, one by one -/
theorem pops {g : GT} {e : SE} {vs : List Nat} {E : List PyData → List Str → En} (step : ∀ (k : Nat) (bag : List PyData) (pool : List Str) (j : Int), Sg k bag → k < 900000 → 0 < pool.length → pool.length ≤ 1000 → ∃ bag' r S2 S4, Sg (k + 1) bag' ∧ r < pool.length ∧ g (.int j) (E bag pool) = .nx S2 ∧ e S2 = .ok (.str (nmAt pool r)) S4 ∧ wipeS vs S4 = E bag' (pool.eraseIdx r))
    {k n : Nat} {bag : List PyData} {ys : List Str} (hb : Sg k bag) (hk : k < 800000) (hn : n ≤ ys.length) (hy : ys.length ≤ 1000) : ∃ a bag' rest, lcL g sYes e vs (rng 0 n) (E bag ys) = .ok (sts a) (E bag' rest) ∧ Sg (k + n) bag' ∧ a.length = n ∧ (a ++ rest).Perm ys := by
  obtain ⟨zs, S', h1, bag', a, rest, h2, h3, h4, h5, h6⟩ := lc_inv (g := g) (t := sYes) (e := e) (vs := vs) (ds := rng 0 n) (P := fun i acc S => ∃ bag a rest, Sg (k + i) bag ∧ acc = sts a ∧ a.length = i ∧ (a ++ rest).Perm ys ∧ S = E bag rest) (acc := []) (S := E bag ys) ⟨bag, [], ys, hb, rfl, rfl, List.Perm.refl _, rfl⟩ fun i d acc S hd hP => by
    obtain ⟨bag, a, rest, h1, rfl, h3, h4, rfl⟩ := hP
    obtain ⟨rfl, hi⟩ := rng_get hd
    have hl := h4.length_eq
    rw [List.length_append] at hl
    obtain ⟨bag', r, S2, S4, g1, g2, g3, g4, g5⟩ := step (k + i) bag rest (0 + (i : Int)) h1 (by omega) (by omega) (by omega)
    refine ⟨S2, true, S2, g3, rfl, (fun z => by cases z), fun _ => ⟨_, S4, g4, bag', a ++ [nmAt rest r], rest.eraseIdx r, g1, by rw [← sts_app]; rfl, by simp [h3], ?_, g5⟩⟩
    rw [List.append_assoc]
    exact ((erase_perm (nmAt_get g2)).append_left a).trans h4
  rw [List.nil_append] at h3
  subst h3
  rw [rng_len] at h2 h4
  refine ⟨a, bag', rest, by rw [h1, h6], h2.mono (by omega), by omega, h5⟩
def POOL : List Str := (LET.cps.toList.map fun c => (⟨#[c]⟩ : Str)) ++ [Str.ofString "ab", Str.ofString "ba", Str.ofString "aa", Str.ofString "zz", Str.ofString "zzzzzzzz", Str.ofString "zzzzzzza", Str.ofString "open", Str.ofString "call", Str.ofString "days", Str.ofString "order", Str.ofString "silent", Str.ofString "center", Str.ofString "at", Str.ofString "none"]
theorem pool_len : POOL.length = 40 := by decide +kernel
theorem pool_nd : POOL.Nodup := by decide +kernel
theorem pool_all : (POOL.all fun s => decide (1 ≤ s.length) && decide (s.length ≤ 8) && s.cps.toList.all fun c => decide (97 ≤ c) && decide (c ≤ 122)) = true := by decide +kernel
theorem pool_nm {s : Str} (h : s ∈ POOL) : Nm s := by
  have := List.all_eq_true.mp pool_all s h
  simp only [Bool.and_eq_true, decide_eq_true_eq, List.all_eq_true] at this
  exact ⟨this.1.1, this.1.2, this.2⟩
theorem let_size : LET.cps.size = 26 := by decide +kernel
def q_nam1 : SS := sSetNew 2 (sCatN (sNE (sListS (sCons (sK (.str (Str.ofString "abcdefghijklmnopqrstuvwxyz"))) sNil))) (sNE (sLst (sCons (sK (.str (Str.ofString "ab"))) (sCons (sK (.str (Str.ofString "ba"))) (sCons (sK (.str (Str.ofString "aa"))) (sCons (sK (.str (Str.ofString "zz"))) (sCons (sK (.str (Str.ofString "zzzzzzzz"))) (sCons (sK (.str (Str.ofString "zzzzzzza"))) (sCons (sK (.str (Str.ofString "open"))) (sCons (sK (.str (Str.ofString "call"))) (sCons (sK (.str (Str.ofString "days"))) sNil))))))))))))
def q_nam2 : SS := sSetNew 2 (sCatV 2 (sNE (sLst (sCons (sK (.str (Str.ofString "order"))) (sCons (sK (.str (Str.ofString "silent"))) (sCons (sK (.str (Str.ofString "center"))) (sCons (sK (.str (Str.ofString "at"))) (sCons (sK (.str (Str.ofString "none"))) sNil))))))))
def q_nam3 : SN := sLc (sRng1 (sCons (sVar 1) sNil)) (gNm 3) sYes (sPop 2 (sCallV m__law_draw (sGr 0 (sGv (sRd lLen (sLVar 2)) sG0)))) [3]
theorem c_nam_eq : c__law_names = sSeq q_nam1 (sSeq q_nam2 (sRet (sRd lTup q_nam3))) := rfl
theorem law_names {k n : Nat} {bag : List PyData} (hb : Sg k bag) (hk : k < 800000) (hn : n ≤ 40) : ∃ ss bag' T, ss.length = n ∧ ss.Nodup ∧ (∀ s ∈ ss, Nm s) ∧ Sg (k + n) bag' ∧ m__law_names [.io bag, .val (.int (n : Nat))] = .ok (vS ss) (.io bag' :: T) := by
  obtain ⟨a, bag', rest, h1, h2, h3, h4⟩ := pops (g := gNm 3) (e := sPop 2 (sCallV m__law_draw (sGr 0 (sGv (sRd lLen (sLVar 2)) sG0)))) (vs := [3]) (E := fun bag pool => [.io bag, .val (.int (n : Nat)), .own (sts pool), .nil]) (fun k bag pool j hb hk h0 h1 => by
    obtain ⟨r, bag', T, r0, r1, r2, e⟩ := draw hb (by omega) (m := (pool.length : Int)) (by omega) (by omega)
    refine ⟨bag', r.toNat, [.io bag, .val (.int (n : Nat)), .own (sts pool), .val (.int j)], [.io bag', .val (.int (n : Nat)), .own (sts (pool.eraseIdx r.toNat)), .val (.int j)], r2, by omega, by simp, ?_, by simp [wipeS]⟩
    have p := pop_ok r0 r1 (by omega)
    simp [lLen, sts_len, e, p]) hb hk (n := n) (ys := POOL) (by rw [pool_len]; exact hn) (by rw [pool_len]; omega)
  have hnd := (h4.nodup_iff).mpr pool_nd
  have hmem : ∀ s ∈ a, s ∈ POOL := fun s hs => h4.mem_iff.mp (List.mem_append_left _ hs)
  refine ⟨a, bag', [.val (.int (n : Nat)), .own (sts rest), .nil], h3, (List.nodup_append.mp hnd).1, fun s hs => pool_nm (hmem s hs), h2, ?_⟩
  have s1 : q_nam1 [.io bag, .val (.int (n : Nat)), .nil, .nil] = .nx [.io bag, .val (.int (n : Nat)), .own (signs LET ++ [.str (Str.ofString "ab"), .str (Str.ofString "ba"), .str (Str.ofString "aa"), .str (Str.ofString "zz"), .str (Str.ofString "zzzzzzzz"), .str (Str.ofString "zzzzzzza"), .str (Str.ofString "open"), .str (Str.ofString "call"), .str (Str.ofString "days")]), .nil] := by
    have l1 : (signs LET).length = 26 := by rw [signs_len]; exact let_size
    have e1 : sListS (sCons (sK (.str (Str.ofString "abcdefghijklmnopqrstuvwxyz"))) sNil) [.io bag, .val (.int (n : Nat)), .nil, .nil] = .ok (signs LET) [.io bag, .val (.int (n : Nat)), .nil, .nil] := by
      show (if LET.cps.size ≤ sizeLine then R.ok (signs LET) [.io bag, .val (.int (n : Nat)), .nil, .nil] else .no) = _
      rw [if_pos (by rw [let_size, sizeLine_eq]; omega)]
    simp [q_nam1, -r_sListS, e1, sizeLine, l1]
  have s2 : q_nam2 [.io bag, .val (.int (n : Nat)), .own (signs LET ++ [.str (Str.ofString "ab"), .str (Str.ofString "ba"), .str (Str.ofString "aa"), .str (Str.ofString "zz"), .str (Str.ofString "zzzzzzzz"), .str (Str.ofString "zzzzzzza"), .str (Str.ofString "open"), .str (Str.ofString "call"), .str (Str.ofString "days")]), .nil] = .nx [.io bag, .val (.int (n : Nat)), .own (sts POOL), .nil] := by
    have l1 : (signs LET).length = 26 := by rw [signs_len]; exact let_size
    have ep : sts POOL = signs LET ++ ([.str (Str.ofString "ab"), .str (Str.ofString "ba"), .str (Str.ofString "aa"), .str (Str.ofString "zz"), .str (Str.ofString "zzzzzzzz"), .str (Str.ofString "zzzzzzza"), .str (Str.ofString "open"), .str (Str.ofString "call"), .str (Str.ofString "days")] ++ [.str (Str.ofString "order"), .str (Str.ofString "silent"), .str (Str.ofString "center"), .str (Str.ofString "at"), .str (Str.ofString "none")]) := by
      unfold POOL signs sts
      rw [List.map_append, List.map_map]
      rfl
    rw [ep]
    simp [q_nam2, sizeLine, l1]
  have hr : sRng1 (sCons (sVar 1) sNil) [.io bag, .val (.int (n : Nat)), .own (sts POOL), .nil] = .ok (rng 0 n) [.io bag, .val (.int (n : Nat)), .own (sts POOL), .nil] :=
    rng1_run (ds := [.int (n : Nat)]) (by simp) (rng1_ok (by omega) (by omega))
  have l3 : n < 16777216 := by omega
  have s3 : q_nam3 [.io bag, .val (.int (n : Nat)), .own (sts POOL), .nil] = .ok (sts a) [.io bag', .val (.int (n : Nat)), .own (sts rest), .nil] := by
    simp [q_nam3, -r_sRng1, hr, rng_len, wipeS, h1, unwipe, sizeLine, l3]
  rw [m__law_names, r_mB]
  show (c__law_names [.io bag, .val (.int (n : Nat)), .nil, .nil]).fin = _
  rw [c_nam_eq, r_sSeq, s1, sq_nx, r_sSeq, s2, sq_nx]
  simp [s3, lTup]
end Ds
end

section
set_option Elab.async false
set_option linter.all false
set_option maxRecDepth 100000
set_option maxHeartbeats 1000000
open PySem PySem.Spec PyProof.Rows L2
namespace Ds
/-! ### l == [] -/
theorem nts_lay : ∀ {u : List Nat}, PyData.canLayAll0 (nts u) = true ∧ PyData.depthAll (nts u) = 0 ∧ PyData.hasDictAll (nts u) = false
  | [] => ⟨rfl, rfl, rfl⟩
  | x :: u => by
    obtain ⟨a, b, c⟩ := nts_lay (u := u)
    rw [nts_cons]
    exact ⟨by simp [PyData.canLayAll0, PyData.canLay0, a], by simp [PyData.depthAll, PyData.depth, b], by simp [PyData.hasDictAll, PyData.hasDict, c]⟩
theorem okEq_nts {u : List Nat} : okEq (.list (nts u)) = true := by
  obtain ⟨a, b, c⟩ := nts_lay (u := u)
  simp [okEq, SeqAt.shaped, PyData.canLay0, PyData.depth, PyData.hasDict, a, b, c]
@[simp] theorem g_eq0 {u : List Nat} : gEq (.list (nts u)) (.list []) = some (.bool (decide (u = []))) := by
  show (if okEq (.list (nts u)) = true ∧ okEq (.list (nts [])) = true then some (PyData.bool (PyData.eqv (.list (nts u)) (.list []))) else none) = _
  rw [if_pos ⟨okEq_nts, okEq_nts⟩]
  cases u with
  | nil => rfl
  | cons x u => rfl
@[simp] theorem g_eqS {x y : Str} : gEq (.str x) (.str y) = some (.bool (x == y)) := rfl
/-! ### who is called -/
def q_cal1 : SS := sSetNew 2 (sListN (sCons (sVar 1) sNil))
def q_cal2 : SS := sSet 3 (sNE (sLst (sCons (sRd lLen (sLVar 2)) (sCons (sCallV m__law_draw (sGr 0 (sGv (sBin gAdd (sRd lLen (sLVar 2)) (sK (.int 1))) sG0))) (sCons (sRd lLen (sLVar 2)) (sCons (sCallB gMin (sCons (sRd lLen (sLVar 2)) (sCons (sCallV m__law_draw (sGr 0 (sGv (sK (.int 4)) sG0))) sNil))) sNil))))))
def q_cal3 : SN := sLc (sRng1 (sCons (sBin gIx (sVar 3) (sCallV m__law_draw (sGr 0 (sGv (sK (.int 4)) sG0)))) sNil)) (gNm 4) sYes (sPop 2 (sCallV m__law_draw (sGr 0 (sGv (sRd lLen (sLVar 2)) sG0)))) [4]
theorem c_cal_eq : c__law_called = sSeq q_cal1 (sSeq q_cal2 (sRet (sRd lTup q_cal3))) := rfl
theorem law_called {k : Nat} {bag : List PyData} {ss : List Str} (hb : Sg k bag) (hk : k < 700000) (hn : ss.length ≤ 40) (hnd : ss.Nodup) : ∃ ord bag' T, ord.Nodup ∧ (∀ s ∈ ord, s ∈ ss) ∧ Sg (k + 50) bag' ∧ m__law_called [.io bag, vS ss] = .ok (vS ord) (.io bag' :: T) := by
  obtain ⟨r1, bag1, T1, a1, a2, a3, e1⟩ := draw hb (by omega) (m := (ss.length : Int) + 1) (by omega) (by omega)
  obtain ⟨r2, bag2, T2, b1, b2, b3, e2⟩ := draw a3 (by omega) (m := 4) (by decide) (by decide)
  obtain ⟨r3, bag3, T3, c1, c2, c3, e3⟩ := draw b3 (by omega) (m := 4) (by decide) (by decide)
  have hv : ∃ n : Nat, n ≤ ss.length ∧ atI [PyData.int ss.length, .int r1, .int ss.length, .int (if r2 < (ss.length : Int) then r2 else ss.length)] r3 = some (.int (n : Nat)) := by
    rw [atI_nn c1]
    have : r3 = 0 ∨ r3 = 1 ∨ r3 = 2 ∨ r3 = 3 := by omega
    rcases this with q | q | q | q <;> subst q
    · exact ⟨ss.length, Nat.le_refl _, rfl⟩
    · exact ⟨r1.toNat, by omega, by rw [Int.toNat_of_nonneg a1]; rfl⟩
    · exact ⟨ss.length, Nat.le_refl _, rfl⟩
    · by_cases z : r2 < (ss.length : Int)
      · exact ⟨r2.toNat, by omega, by rw [Int.toNat_of_nonneg b1, if_pos z]; rfl⟩
      · exact ⟨ss.length, Nat.le_refl _, by rw [if_neg z]; rfl⟩
  obtain ⟨n, hnn, en⟩ := hv
  generalize hM : [PyData.int ss.length, .int r1, .int ss.length, .int (if r2 < (ss.length : Int) then r2 else ss.length)] = M at *
  obtain ⟨a, bag', rest, h1, h2, h3, h4⟩ := pops (g := gNm 4) (e := sPop 2 (sCallV m__law_draw (sGr 0 (sGv (sRd lLen (sLVar 2)) sG0)))) (vs := [4]) (E := fun bag pool => [.io bag, vS ss, .own (sts pool), .val (.list M), .nil]) (fun k bag pool j hb hk h0 h1 => by
    obtain ⟨r, bag', T, r0, r1, r2, e⟩ := draw hb (by omega) (m := (pool.length : Int)) (by omega) (by omega)
    refine ⟨bag', r.toNat, [.io bag, vS ss, .own (sts pool), .val (.list M), .val (.int j)], [.io bag', vS ss, .own (sts (pool.eraseIdx r.toNat)), .val (.list M), .val (.int j)], r2, by omega, by simp, ?_, by simp [wipeS]⟩
    have p := pop_ok r0 r1 (by omega)
    simp [lLen, sts_len, e, p]) c3 (by omega) hnn (by omega)
  refine ⟨a, bag', [vS ss, .own (sts rest), .val (.list M), .nil], (List.nodup_append.mp ((h4.nodup_iff).mpr hnd)).1, fun s hs => h4.mem_iff.mp (List.mem_append_left _ hs), h2.mono (by omega), ?_⟩
  have s1 : q_cal1 [.io bag, vS ss, .nil, .nil, .nil] = .nx [.io bag, vS ss, .own (sts ss), .nil, .nil] := by simp [q_cal1]
  have s2 : q_cal2 [.io bag, vS ss, .own (sts ss), .nil, .nil] = .nx [.io bag2, vS ss, .own (sts ss), .val (.list M), .nil] := by
    rw [← hM]
    simp [q_cal2, lLen, sts_len, e1, e2, sizeLine]
  have hr : sRng1 (sCons (sBin gIx (sVar 3) (sCallV m__law_draw (sGr 0 (sGv (sK (.int 4)) sG0)))) sNil) [.io bag2, vS ss, .own (sts ss), .val (.list M), .nil] = .ok (rng 0 n) [.io bag3, vS ss, .own (sts ss), .val (.list M), .nil] :=
    rng1_run (ds := [.int (n : Nat)]) (by simp [e3, en]) (rng1_ok (by omega) (by omega))
  have l3 : n < 16777216 := by omega
  have s3 : q_cal3 [.io bag2, vS ss, .own (sts ss), .val (.list M), .nil] = .ok (sts a) [.io bag', vS ss, .own (sts rest), .val (.list M), .nil] := by
    simp [q_cal3, -r_sRng1, hr, rng_len, wipeS, h1, unwipe, sizeLine, l3]
  rw [m__law_called, r_mB]
  show (c__law_called [.io bag, vS ss, .nil, .nil, .nil]).fin = _
  rw [c_cal_eq, r_sSeq, s1, sq_nx, r_sSeq, s2, sq_nx]
  simp [s3, lTup]
/-! ### an exchange -/
def swp (i j k : Nat) : Nat := if k = i then j else if k = j then i else k
theorem swp_get {α : Type} {l : List α} {i j : Nat} {x y : α} (hi : l[i]? = some x) (hj : l[j]? = some y) (k : Nat) : ((l.set i y).set j x)[k]? = l[swp i j k]? := by
  have li := (List.getElem?_eq_some_iff.mp hi).1
  have lj := (List.getElem?_eq_some_iff.mp hj).1
  unfold swp
  by_cases h2 : k = j
  · subst h2
    rw [List.getElem?_set_self (by rw [List.length_set]; exact lj)]
    by_cases h1 : k = i
    · subst h1; rw [if_pos rfl, hi]
    · rw [if_neg h1, if_pos rfl, hi]
  · rw [List.getElem?_set_ne (Ne.symm h2)]
    by_cases h1 : k = i
    · subst h1; rw [List.getElem?_set_self li, if_pos rfl, hj]
    · rw [List.getElem?_set_ne (Ne.symm h1), if_neg h1, if_neg h2]
theorem swp_swp {i j k : Nat} : swp i j (swp i j k) = k := by
  unfold swp
  split <;> split <;> (try split) <;> omega
theorem nodup_of_idx {α : Type} : ∀ {l : List α}, (∀ (i j : Nat) (x : α), l[i]? = some x → l[j]? = some x → i = j) → l.Nodup
  | [], _ => List.nodup_nil
  | y :: l, h => by
    refine List.nodup_cons.mpr ⟨fun m => ?_, nodup_of_idx fun i j x a b => ?_⟩
    · obtain ⟨i, hi⟩ := List.getElem?_of_mem m
      have := h 0 (i + 1) y rfl (by simpa using hi)
      omega
    · have := h (i + 1) (j + 1) x (by simpa using a) (by simpa using b)
      omega
theorem swp_nodup {α : Type} {l : List α} (h : l.Nodup) {i j : Nat} {x y : α} (hi : l[i]? = some x) (hj : l[j]? = some y) : ((l.set i y).set j x).Nodup := by
  refine nodup_of_idx fun a b z ha hb => ?_
  rw [swp_get hi hj] at ha hb
  have := nodup_at h ha hb
  rw [← swp_swp (i := i) (j := j) (k := a), this, swp_swp]
theorem swp_mem {α : Type} {l : List α} {i j : Nat} {x y z : α} (hi : l[i]? = some x) (hj : l[j]? = some y) : z ∈ (l.set i y).set j x ↔ z ∈ l := by
  constructor
  · intro h
    obtain ⟨k, hk⟩ := List.getElem?_of_mem h
    rw [swp_get hi hj] at hk
    exact List.mem_of_getElem? hk
  · intro h
    obtain ⟨k, hk⟩ := List.getElem?_of_mem h
    refine List.mem_of_getElem? (i := swp i j k) ?_
    rw [swp_get hi hj, swp_swp]
    exact hk
/-- a call -/
def callS (os : List Nat) (ss : List Str) (s : Str) : List Str :=
  if 0 < ss.idxOf s then (ss.set (ss.idxOf s) (nmAt ss (os.getD (ss.idxOf s - 1) 0))).set (os.getD (ss.idxOf s - 1) 0) s else ss
def callsS (os : List Nat) (ss : List Str) (names : List Str) : List Str := names.foldl (callS os) ss
section
variable {os : List Nat} {ss ord : List Str}
theorem Case.call (c : Case os ss ord) {s : Str} (h : s ∈ ss) : Case os (callS os ss s) ord ∧ ∀ z, z ∈ callS os ss s ↔ z ∈ ss := by
  unfold callS
  by_cases h0 : 0 < ss.idxOf s
  · rw [if_pos h0]
    have hl := c.len
    have li := idx_lt h
    have lt := off_lt c.off (e := ss.idxOf s) (by omega) (by omega)
    have hi := idx_get h
    have hj := nmAt_get (ss := ss) (t := os.getD (ss.idxOf s - 1) 0) (by omega)
    have mm := fun z => swp_mem (z := z) hi hj
    exact ⟨⟨c.off, by simp [hl], swp_nodup c.nd hi hj, fun z hz => c.nm z ((mm z).mp hz), c.ond, fun z hz => (mm z).mpr (c.osub z hz)⟩, mm⟩
  · rw [if_neg h0]
    exact ⟨c, fun _ => Iff.rfl⟩
theorem Case.calls : ∀ {names : List Str} {ss : List Str}, Case os ss ord → (∀ s ∈ names, s ∈ ss) → Case os (callsS os ss names) ord ∧ ∀ z, z ∈ callsS os ss names ↔ z ∈ ss
  | [], ss, c, _ => ⟨c, fun _ => Iff.rfl⟩
  | s :: names, ss, c, h => by
    obtain ⟨c1, m1⟩ := c.call (h s List.mem_cons_self)
    obtain ⟨c2, m2⟩ := Case.calls (names := names) c1 fun z hz => (m1 z).mpr (h z (List.mem_cons_of_mem _ hz))
    exact ⟨c2, fun z => (m2 z).trans (m1 z)⟩
theorem Case.day (c : Case os ss ord) : Case os (callsS os ss ord) ord := (c.calls c.osub).1
/-! ### the law's day -/
theorem g_lix {s : Str} {l : List Str} (h : s ∈ l) : gLIx (sts l) (.str s) = some (.int (l.idxOf s : Nat)) := by
  unfold gLIx
  rw [if_pos ⟨rfl, flat_sts⟩]
  have e : (sts l).findIdx? (fun z => PyData.eqv z (.str s)) = l.findIdx? (· == s) := by
    unfold sts
    rw [List.findIdx?_map]
    rfl
  rw [e, findIdx_mem h]
  rfl
theorem set_sts {l : List Str} {i : Nat} {s : Str} : (sts l).set i (.str s) = sts (l.set i s) := by simp [sts]
theorem setI_sts {l : List Str} {i : Nat} {s : Str} (h : i < l.length) : setI (sts l) (.int (i : Nat)) (.str s) = some (sts (l.set i s)) := by
  show (if 0 ≤ (i : Int) ∧ (i : Int) < (sts l).length then some ((sts l).set (i : Int).toNat (.str s)) else none) = _
  rw [if_pos ⟨by omega, by rw [sts_len]; omega⟩, Int.toNat_natCast, set_sts]
def q_day1 : SS := sSet 5 (sLixV 3 (sVar 4))
def q_day2 : SS := sSet 6 (sBin gIx (sVar 0) (sBin gSub_ (sVar 5) (sK (.int 1))))
def q_day3 : SS := sAsg (gTp (gNC (gSubI 3 (sVar 5)) (gNC (gSubI 3 (sVar 6)) gN0))) (sTup (sCons (sIxV 3 (sVar 6)) (sCons (sIxV 3 (sVar 5)) sNil)))
def q_day4 : SS := sIf (sTst (sBin gGt (sVar 5) (sK (.int 0)))) (sSeq q_day2 q_day3) sNx
theorem c_day_eq : c__law_day = sSeq (sSetNew 3 (sListN (sCons (sVar 1) sNil))) (sSeq (sFor (sISq (sVar 2)) (gNm 4) (sSeq q_day1 q_day4)) (sRet (sRd lTup (sLVar 3)))) := rfl
theorem day_step (c : Case os ss ord) {s : Str} (h : s ∈ ss) {x1 x2 x5 x6 : Sl} (b5 : bare (some x5) = true) (b6 : bare (some x6) = true) : ∃ y5 y6, bare (some y5) = true ∧ bare (some y6) = true ∧ (sSeq q_day1 q_day4) [vO os, x1, x2, .own (sts ss), .val (.str s), x5, x6] = .nx [vO os, x1, x2, .own (sts (callS os ss s)), .val (.str s), y5, y6] := by
  have hl := c.len
  have li := idx_lt h
  have s1 : q_day1 [vO os, x1, x2, .own (sts ss), .val (.str s), x5, x6] = .nx [vO os, x1, x2, .own (sts ss), .val (.str s), .val (.int (ss.idxOf s : Nat)), x6] := by
    simp [q_day1, g_lix h, noio_bare b5]
  by_cases h0 : 0 < ss.idxOf s
  · have u := off_at c.off (d := ss.idxOf s) h0 (by omega)
    have lu : os.getD (ss.idxOf s - 1) 0 < ss.length := by omega
    have ec : callS os ss s = (ss.set (ss.idxOf s) (nmAt ss (os.getD (ss.idxOf s - 1) 0))).set (os.getD (ss.idxOf s - 1) 0) s := if_pos h0
    have es : nmAt ss (ss.idxOf s) = s := nm_idx h
    have a1 := sts_at (ss := ss) li
    rw [es] at a1
    have a2 := sts_at (ss := ss) lu
    rw [ec]
    generalize os.getD (ss.idxOf s - 1) 0 = up at *
    have t1 := setI_sts (l := ss) (s := nmAt ss up) li
    have t2 := setI_sts (l := ss.set (ss.idxOf s) (nmAt ss up)) (i := up) (s := s) (by rw [List.length_set]; exact lu)
    generalize ss.idxOf s = d at *
    refine ⟨.val (.int (d : Nat)), .val (.int (up : Nat)), rfl, rfl, ?_⟩
    have s2 : q_day2 [vO os, x1, x2, .own (sts ss), .val (.str s), .val (.int (d : Nat)), x6] = .nx [vO os, x1, x2, .own (sts ss), .val (.str s), .val (.int (d : Nat)), .val (.int (up : Nat))] := by
      simp [q_day2, u.1, noio_bare b6]
    have s3 : q_day3 [vO os, x1, x2, .own (sts ss), .val (.str s), .val (.int (d : Nat)), .val (.int (up : Nat))] = .nx [vO os, x1, x2, .own (sts ((ss.set d (nmAt ss up)).set up s)), .val (.str s), .val (.int (d : Nat)), .val (.int (up : Nat))] := by
      simp [q_day3, sAsg, a1, a2, sizeLine, gTp, gNC, t1, t2, R.st]
    rw [r_sSeq, s1, sq_nx]
    rw [q_day4, r_sIf]
    have tt : sTst (sBin gGt (sVar 5) (sK (.int 0))) [vO os, x1, x2, .own (sts ss), .val (.str s), .val (.int (d : Nat)), x6] = .ok true [vO os, x1, x2, .own (sts ss), .val (.str s), .val (.int (d : Nat)), x6] := by
      simp; omega
    rw [tt, stt_ok, if_pos rfl, r_sSeq, s2, sq_nx, s3]
  · have ec : callS os ss s = ss := if_neg h0
    rw [ec]
    refine ⟨.val (.int (ss.idxOf s : Nat)), x6, rfl, b6, ?_⟩
    have tt : sTst (sBin gGt (sVar 5) (sK (.int 0))) [vO os, x1, x2, .own (sts ss), .val (.str s), .val (.int (ss.idxOf s : Nat)), x6] = .ok false [vO os, x1, x2, .own (sts ss), .val (.str s), .val (.int (ss.idxOf s : Nat)), x6] := by
      simp; omega
    rw [r_sSeq, s1, sq_nx, q_day4, r_sIf, tt, stt_ok, if_neg (by decide)]
    rfl
theorem day_loop {x1 x2 : Sl} : ∀ {names : List Str} {ss : List Str} {x4 x5 x6 : Sl}, Case os ss ord → (∀ s ∈ names, s ∈ ss) → bare (some x4) = true → bare (some x5) = true → bare (some x6) = true → ∃ y4 y5 y6, loopL (gNm 4) (sSeq q_day1 q_day4) (sts names) [vO os, x1, x2, .own (sts ss), x4, x5, x6] = .nx [vO os, x1, x2, .own (sts (callsS os ss names)), y4, y5, y6]
  | [], ss, x4, x5, x6, _, _, _, _, _ => ⟨x4, x5, x6, rfl⟩
  | s :: names, ss, x4, x5, x6, c, h, b4, b5, b6 => by
    obtain ⟨y5, y6, h5, h6, e⟩ := day_step c (h s List.mem_cons_self) (x1 := x1) (x2 := x2) b5 b6
    obtain ⟨c1, m1⟩ := c.call (h s List.mem_cons_self)
    obtain ⟨z4, z5, z6, e2⟩ := day_loop (names := names) (x1 := x1) (x2 := x2) (x4 := .val (.str s)) c1 (fun z hz => (m1 z).mpr (h z (List.mem_cons_of_mem _ hz))) rfl h5 h6
    refine ⟨z4, z5, z6, ?_⟩
    show loopL (gNm 4) (sSeq q_day1 q_day4) (.str s :: sts names) _ = _
    have e0 : gNm 4 (.str s) [vO os, x1, x2, .own (sts ss), x4, x5, x6] = .nx [vO os, x1, x2, .own (sts ss), .val (.str s), x5, x6] := by simp [b4]
    rw [loopL, e0]
    show (match (sSeq q_day1 q_day4) [vO os, x1, x2, .own (sts ss), .val (.str s), x5, x6] with | .nx S2 => loopL (gNm 4) (sSeq q_day1 q_day4) (sts names) S2 | .ct S2 => loopL (gNm 4) (sSeq q_day1 q_day4) (sts names) S2 | .bk S2 => .nx S2 | r => r) = _
    rw [e]
    exact e2
theorem law_day (c : Case os ss ord) : ∃ T, m__law_day [vO os, vS ss, vS ord] = .ok (vS (callsS os ss ord)) T := by
  obtain ⟨y4, y5, y6, e⟩ := day_loop (x1 := vS ss) (x2 := vS ord) (names := ord) (x4 := .nil) (x5 := .nil) (x6 := .nil) c c.osub rfl rfl rfl
  refine ⟨[vO os, vS ss, vS ord, .own (sts (callsS os ss ord)), y4, y5, y6], ?_⟩
  rw [m__law_day, r_mB]
  show (c__law_day [vO os, vS ss, vS ord, .nil, .nil, .nil, .nil]).fin = _
  have s1 : sSetNew 3 (sListN (sCons (sVar 1) sNil)) [vO os, vS ss, vS ord, .nil, .nil, .nil, .nil] = .nx [vO os, vS ss, vS ord, .own (sts ss), .nil, .nil, .nil] := by simp
  have s2 : sFor (sISq (sVar 2)) (gNm 4) (sSeq q_day1 q_day4) [vO os, vS ss, vS ord, .own (sts ss), .nil, .nil, .nil] = .nx [vO os, vS ss, vS ord, .own (sts (callsS os ss ord)), y4, y5, y6] := by
    have : sISq (sVar 2) [vO os, vS ss, vS ord, .own (sts ss), .nil, .nil, .nil] = .ok (sts ord) [vO os, vS ss, vS ord, .own (sts ss), .nil, .nil, .nil] := by simp
    rw [r_sFor, this, stt_ok]
    exact e
  rw [c_day_eq, r_sSeq, s1, sq_nx, r_sSeq, s2, sq_nx]
  simp [lTup]
end
end Ds
end

section
set_option Elab.async false
set_option linter.all false
set_option maxRecDepth 100000
set_option maxHeartbeats 1000000
open PySem PySem.Spec PyProof.Rows L2
namespace Ds
section
variable {os : List Nat} {ss ord : List Str}
theorem mem_drop_idx {s : Str} {l : List Str} (hn : l.Nodup) {k : Nat} : s ∈ l.drop k ↔ s ∈ l ∧ k ≤ l.idxOf s := by
  constructor
  · intro h
    obtain ⟨i, hi⟩ := List.getElem?_of_mem h
    rw [List.getElem?_drop] at hi
    have m := List.mem_of_getElem? hi
    have := nodup_at hn (idx_get m) hi
    exact ⟨m, by omega⟩
  · rintro ⟨m, h⟩
    refine List.mem_of_getElem? (i := l.idxOf s - k) ?_
    rw [List.getElem?_drop, show k + (l.idxOf s - k) = l.idxOf s by omega]
    exact idx_get m
theorem blk_nil {under : List Nat} {d : Nat} (h : under = []) : blk ss ord under d = [] := by
  unfold blk
  subst h
  split
  · simp
  · rfl
theorem stat_open (c : Case os ss ord) {d : Nat} (hd : d ≤ os.length) : (stat os ss ord d == Str.ofString "open") = op os (calB ss ord) d := by
  rw [op_okd c.off hd]
  unfold stat blkD
  by_cases h : okd os (calB ss ord) 0 d = []
  · rw [blk_nil h, h]
    simp only [List.length_nil, Nat.lt_irrefl, if_false]
    by_cases hc : nmAt ss d ∈ ord
    · rw [if_pos hc]; simp [calB, hc]
    · rw [if_neg hc]
      have : (Str.ofString "silent" == Str.ofString "open") = false := by decide +kernel
      rw [this]; simp [calB, hc]
  · have hp : 0 < (okd os (calB ss ord) 0 d).length := List.length_pos_iff.mpr h
    have e1 : (Str.ofString "unsettled" == Str.ofString "open") = false := by decide +kernel
    have e2 : (Str.ofString "center" == Str.ofString "open") = false := by decide +kernel
    have e3 : (okd os (calB ss ord) 0 d).isEmpty = false := by simpa using h
    rw [if_pos hp, e3]
    split <;> simp [e1, e2]
/-- the law's list when i desks are done -/
def fnd (os : List Nat) (ss ord : List Str) (t : Nat) : List Str := (desks os).map fun d => if t ≤ d then stat os ss ord d else Str.ofString ""
theorem fnd_len {t : Nat} : (fnd os ss ord t).length = os.length + 1 := by simp [fnd, desks]
theorem fnd_at {t d : Nat} (h : d ≤ os.length) : nmAt (fnd os ss ord t) d = if t ≤ d then stat os ss ord d else Str.ofString "" := by
  have : (fnd os ss ord t)[d]? = some (if t ≤ d then stat os ss ord d else Str.ofString "") := by
    unfold fnd desks
    rw [List.getElem?_map, List.getElem?_range (by omega)]
    rfl
  unfold nmAt
  rw [List.getD_eq_getElem?_getD, this]
  rfl
theorem fnd_set {t : Nat} (h : t ≤ os.length) : (fnd os ss ord (t + 1)).set t (stat os ss ord t) = fnd os ss ord t := by
  apply List.ext_getElem?
  intro j
  by_cases hj : j ≤ os.length
  · by_cases e : t = j
    · subst e
      rw [List.getElem?_set_self (by rw [fnd_len]; omega), nmAt_get (ss := fnd os ss ord t) (by rw [fnd_len]; omega), fnd_at hj, if_pos (Nat.le_refl _)]
    · rw [List.getElem?_set_ne e, nmAt_get (ss := fnd os ss ord (t + 1)) (by rw [fnd_len]; omega), nmAt_get (ss := fnd os ss ord t) (by rw [fnd_len]; omega), fnd_at hj, fnd_at hj]
      congr 1
      by_cases q : t ≤ j
      · rw [if_pos q, if_pos (by omega)]
      · rw [if_neg q, if_neg (by omega)]
  · rw [List.getElem?_eq_none (by rw [List.length_set, fnd_len]; omega), List.getElem?_eq_none (by rw [fnd_len]; omega)]
def q_sta1 : SS := sSet 5 (sNE (sLc (sRng2 (sCons (sBin gAdd (sVar 4) (sK (.int 1))) (sCons (sCallB gLen (sCons (sVar 1) sNil)) sNil))) (gNm 6) (sAnd (sTst (sBin gEq (sBin gIx (sVar 0) (sBin gSub_ (sVar 6) (sK (.int 1)))) (sVar 4))) (sTst (sBin gEq (sIxV 3 (sVar 6)) (sK (.str (Str.ofString "open")))))) (sVar 6) [6]))
def q_sta2 : SS := sSetIx 3 (sVar 4) (sIfE (sTst (sBin gEq (sVar 5) (sNE (sLst sNil)))) (sK (.str (Str.ofString "silent"))) (sK (.str (Str.ofString "unsettled"))))
def q_sta3 : SS := sSetIx 3 (sVar 4) (sK (.str (Str.ofString "open")))
def q_sta4 : SS := sSet 7 (sNE (sLc (sISq (sVar 5)) (gNm 6) (sTst (sBin gGt (sTix (sVar 2) (sBin gIx (sVar 1) (sVar 6))) (sTix (sVar 2) (sBin gIx (sVar 1) (sVar 4))))) (sVar 6) [6]))
def q_sta5 : SS := sSetIx 3 (sVar 4) (sIfE (sTst (sBin gEq (sVar 7) (sNE (sLst sNil)))) (sK (.str (Str.ofString "center"))) (sK (.str (Str.ofString "unsettled"))))
def q_sta6 : SS := sIf (sTst (sBin (gInT true) (sBin gIx (sVar 1) (sVar 4)) (sVar 2))) q_sta2 (sIf (sTst (sBin gEq (sVar 5) (sNE (sLst sNil)))) q_sta3 (sSeq q_sta4 q_sta5))
theorem c_sta_eq : c__law_statuses = sSeq (sSetNew 3 (sRepN (sLst (sCons (sK (.str (Str.ofString ""))) sNil)) (sCallB gLen (sCons (sVar 1) sNil)))) (sSeq (sFor (sRng3 (sCons (sBin gSub_ (sCallB gLen (sCons (sVar 1) sNil)) (sK (.int 1))) (sCons (sNeg (sK (.int 1))) (sCons (sNeg (sK (.int 1))) sNil)))) (gNm 4) (sSeq q_sta1 q_sta6)) (sRetOwn 3)) := rfl
theorem rng_nat {a b : Nat} (h : a ≤ b) : rng (a : Int) (b : Int) = nts (List.range' a (b - a)) := by
  unfold rng nts
  rw [show ((b : Int) - (a : Int)).toNat = b - a by omega]
  apply List.ext_getElem?
  intro i
  rw [List.getElem?_map, List.getElem?_map]
  by_cases hi : i < b - a
  · rw [List.getElem?_range hi, List.getElem?_range' hi]
    simp
  · rw [List.getElem?_eq_none (by rw [List.length_range]; omega), List.getElem?_eq_none (by rw [List.length_range']; omega)]
    rfl
theorem sta1_ok (c : Case os ss ord) {t : Nat} (ht : t ≤ os.length) {x5 x7 : Sl} (b5 : bare (some x5) = true) : q_sta1 [vO os, vS ss, vS ord, .own (sts (fnd os ss ord (t + 1))), .val (.int (t : Nat)), x5, .nil, x7] = .nx [vO os, vS ss, vS ord, .own (sts (fnd os ss ord (t + 1))), .val (.int (t : Nat)), .val (.list (nts (okd os (calB ss ord) 0 t))), .nil, x7] := by
  have hl := c.len
  have h39 := c.off.1
  have lc : lcL (gNm 6) (sAnd (sTst (sBin gEq (sBin gIx (sVar 0) (sBin gSub_ (sVar 6) (sK (.int 1)))) (sVar 4))) (sTst (sBin gEq (sIxV 3 (sVar 6)) (sK (.str (Str.ofString "open")))))) (sVar 6) [6] (nts (List.range' (t + 1) (os.length - t))) [vO os, vS ss, vS ord, .own (sts (fnd os ss ord (t + 1))), .val (.int (t : Nat)), x5, .nil, x7] = .ok (nts (okd os (calB ss ord) 0 t)) [vO os, vS ss, vS ord, .own (sts (fnd os ss ord (t + 1))), .val (.int (t : Nat)), x5, .nil, x7] := by
    rw [lc_filtF (c := fun z => match z with | .int k => decide (os.getD (k.toNat - 1) 0 = t) && op os (calB ss ord) k.toNat | _ => false) (f := id) fun z hz => ?_]
    · congr 1
      rw [← okd_all c.off t (Nat.le_refl _) ht]
      unfold okd nts
      rw [List.map_id, List.filter_map]
      congr 1
    · obtain ⟨e, he, rfl⟩ := List.mem_map.mp hz
      rw [List.mem_range'_1] at he
      have u := off_at c.off (d := e) (by omega) (by omega)
      have f1 := sts_at (ss := fnd os ss ord (t + 1)) (t := e) (by rw [fnd_len]; omega)
      rw [fnd_at (by omega), if_pos (by omega)] at f1
      have so := stat_open c (d := e) (by omega)
      refine ⟨[vO os, vS ss, vS ord, .own (sts (fnd os ss ord (t + 1))), .val (.int (t : Nat)), x5, .val (.int (e : Nat)), x7], [vO os, vS ss, vS ord, .own (sts (fnd os ss ord (t + 1))), .val (.int (t : Nat)), x5, .val (.int (e : Nat)), x7], by simp, ?_, by simp [wipeS], fun _ => ⟨[vO os, vS ss, vS ord, .own (sts (fnd os ss ord (t + 1))), .val (.int (t : Nat)), x5, .val (.int (e : Nat)), x7], by simp, by simp [wipeS]⟩⟩
      simp only [Int.toNat_natCast]
      rw [← so]
      have hu := u.1
      by_cases hw : os.getD (e - 1) 0 = t
      · rw [hw] at hu
        rw [decide_eq_true hw]
        simp [hu, f1]
      · have hw' : ¬ ((os.getD (e - 1) 0 : Nat) : Int) = (t : Int) := by omega
        rw [decide_eq_false hw]
        obtain ⟨w, ew⟩ : ∃ w, w = os.getD (e - 1) 0 := ⟨_, rfl⟩
        rw [← ew] at hu hw'
        simp [hu, hw']
  have hr : sRng2 (sCons (sBin gAdd (sVar 4) (sK (.int 1))) (sCons (sCallB gLen (sCons (sVar 1) sNil)) sNil)) [vO os, vS ss, vS ord, .own (sts (fnd os ss ord (t + 1))), .val (.int (t : Nat)), x5, .nil, x7] = .ok (nts (List.range' (t + 1) (os.length - t))) [vO os, vS ss, vS ord, .own (sts (fnd os ss ord (t + 1))), .val (.int (t : Nat)), x5, .nil, x7] := by
    rw [rng2_run (S1 := [vO os, vS ss, vS ord, .own (sts (fnd os ss ord (t + 1))), .val (.int (t : Nat)), x5, .nil, x7]) (ds := [.int ((t + 1 : Nat) : Int), .int (ss.length : Nat)]) (by simp [sts_len]) (rng2_ok (by omega) (by omega) (by omega) (by omega)), rng_nat (by omega), hl]
    congr 2
    congr 1
    omega
  have l1 : (nts (List.range' (t + 1) (os.length - t))).length < 16777216 := by rw [nts_len, List.length_range']; omega
  generalize nts (List.range' (t + 1) (os.length - t)) = rs at *
  simp [q_sta1, -r_sRng2, hr, wipeS, lc, unwipe, sizeLine, l1, noio_bare b5]
theorem sta6_ok (c : Case os ss ord) {t : Nat} (ht : t ≤ os.length) {x7 : Sl} (b7 : bare (some x7) = true) : ∃ y7, bare (some y7) = true ∧ q_sta6 [vO os, vS ss, vS ord, .own (sts (fnd os ss ord (t + 1))), .val (.int (t : Nat)), .val (.list (nts (okd os (calB ss ord) 0 t))), .nil, x7] = .nx [vO os, vS ss, vS ord, .own (sts (fnd os ss ord t)), .val (.int (t : Nat)), .val (.list (nts (okd os (calB ss ord) 0 t))), .nil, y7] := by
  have hl := c.len
  have h39 := c.off.1
  have sa := sts_at (ss := ss) (t := t) (by omega)
  have st : ∀ z, setI (sts (fnd os ss ord (t + 1))) (.int (t : Nat)) (.str z) = some (sts ((fnd os ss ord (t + 1)).set t z)) := fun z => setI_sts (by rw [fnd_len]; omega)
  have fs := fnd_set (os := os) (ss := ss) (ord := ord) ht
  have hO := okd_small c (d := t)
  have hst : stat os ss ord t = if 0 < (blk ss ord (okd os (calB ss ord) 0 t) t).length then Str.ofString "unsettled" else if 0 < (okd os (calB ss ord) 0 t).length then Str.ofString "center" else if nmAt ss t ∈ ord then Str.ofString "open" else Str.ofString "silent" := rfl
  have hop : ∀ e ∈ okd os (calB ss ord) 0 t, nmAt ss e ∈ ord := fun e he => by
    obtain ⟨h1, h2, h3, h4⟩ := mem_okd.mp he
    rw [op_okd c.off h2, Bool.and_eq_true] at h4
    exact of_decide_eq_true h4.1
  generalize okd os (calB ss ord) 0 t = u at *
  rw [← fs, hst]
  by_cases hc : nmAt ss t ∈ ord
  · by_cases hu : u = []
    · subst hu
      refine ⟨x7, b7, ?_⟩
      rw [blk_nil rfl]
      simp [q_sta6, q_sta3, sa, hc, st, sizeLine]
    · have hp : 0 < u.length := List.length_pos_iff.mpr hu
      have lc : lcL (gNm 6) (sTst (sBin gGt (sTix (sVar 2) (sBin gIx (sVar 1) (sVar 6))) (sTix (sVar 2) (sBin gIx (sVar 1) (sVar 4))))) (sVar 6) [6] (nts u) [vO os, vS ss, vS ord, .own (sts (fnd os ss ord (t + 1))), .val (.int (t : Nat)), .val (.list (nts u)), .nil, x7] = .ok (nts (u.filter fun e => decide (ord.idxOf (nmAt ss t) < ord.idxOf (nmAt ss e)))) [vO os, vS ss, vS ord, .own (sts (fnd os ss ord (t + 1))), .val (.int (t : Nat)), .val (.list (nts u)), .nil, x7] := by
        rw [lc_filtF (c := fun z => match z with | .int k => decide (ord.idxOf (nmAt ss t) < ord.idxOf (nmAt ss k.toNat)) | _ => false) (f := id) fun z hz => ?_]
        · congr 1
          unfold nts
          rw [List.map_id, List.filter_map]
          congr 1
        · obtain ⟨e, he, rfl⟩ := List.mem_map.mp hz
          have ho := hop e he
          have se := sts_at (ss := ss) (t := e) (hO.1 e he)
          refine ⟨[vO os, vS ss, vS ord, .own (sts (fnd os ss ord (t + 1))), .val (.int (t : Nat)), .val (.list (nts u)), .val (.int (e : Nat)), x7], [vO os, vS ss, vS ord, .own (sts (fnd os ss ord (t + 1))), .val (.int (t : Nat)), .val (.list (nts u)), .val (.int (e : Nat)), x7], by simp, ?_, by simp [wipeS], fun _ => ⟨[vO os, vS ss, vS ord, .own (sts (fnd os ss ord (t + 1))), .val (.int (t : Nat)), .val (.list (nts u)), .val (.int (e : Nat)), x7], by simp, by simp [wipeS]⟩⟩
          simp [se, sa, g_tix ho, g_tix hc]
      have l1 : u.length < 16777216 := by omega
      refine ⟨.val (.list (nts (u.filter fun e => decide (ord.idxOf (nmAt ss t) < ord.idxOf (nmAt ss e))))), rfl, ?_⟩
      have s4 : q_sta4 [vO os, vS ss, vS ord, .own (sts (fnd os ss ord (t + 1))), .val (.int (t : Nat)), .val (.list (nts u)), .nil, x7] = .nx [vO os, vS ss, vS ord, .own (sts (fnd os ss ord (t + 1))), .val (.int (t : Nat)), .val (.list (nts u)), .nil, .val (.list (nts (u.filter fun e => decide (ord.idxOf (nmAt ss t) < ord.idxOf (nmAt ss e)))))] := by
        simp [q_sta4, wipeS, lc, unwipe, sizeLine, nts_len, l1, noio_bare b7]
      have hb : (u.filter fun e => decide (ord.idxOf (nmAt ss t) < ord.idxOf (nmAt ss e))) = [] ↔ ¬ 0 < (blk ss ord u t).length := by
        unfold blk
        rw [if_pos hc, List.length_map, Nat.not_lt, Nat.le_zero_eq, List.length_eq_zero_iff, List.eq_nil_iff_forall_not_mem, List.eq_nil_iff_forall_not_mem]
        constructor
        · intro h s hs
          rw [List.mem_filter, decide_eq_true_eq, mem_drop_idx c.ond] at hs
          obtain ⟨⟨h1, h2⟩, h3⟩ := hs
          obtain ⟨e, he, rfl⟩ := List.mem_map.mp h3
          exact h e (List.mem_filter.mpr ⟨he, by rw [decide_eq_true_eq]; omega⟩)
        · intro h e he
          rw [List.mem_filter, decide_eq_true_eq] at he
          refine h (nmAt ss e) (List.mem_filter.mpr ⟨(mem_drop_idx c.ond).mpr ⟨hop e he.1, by omega⟩, ?_⟩)
          rw [decide_eq_true_eq]
          exact List.mem_map.mpr ⟨e, he.1, rfl⟩
      generalize (u.filter fun e => decide (ord.idxOf (nmAt ss t) < ord.idxOf (nmAt ss e))) = lt at *
      have s5 : q_sta5 [vO os, vS ss, vS ord, .own (sts (fnd os ss ord (t + 1))), .val (.int (t : Nat)), .val (.list (nts u)), .nil, .val (.list (nts lt))] = .nx [vO os, vS ss, vS ord, .own (sts ((fnd os ss ord (t + 1)).set t (if 0 < (blk ss ord u t).length then Str.ofString "unsettled" else if 0 < u.length then Str.ofString "center" else if nmAt ss t ∈ ord then Str.ofString "open" else Str.ofString "silent"))), .val (.int (t : Nat)), .val (.list (nts u)), .nil, .val (.list (nts lt))] := by
        by_cases hz : lt = []
        · have := hb.mp hz
          rw [if_neg this, if_pos hp]
          subst hz
          simp [q_sta5, st, sizeLine]
        · have : 0 < (blk ss ord u t).length := Decidable.not_not.mp fun z => hz (hb.mpr z)
          rw [if_pos this]
          simp [q_sta5, st, sizeLine, hz]
      have t1 : sTst (sBin (gInT true) (sBin gIx (sVar 1) (sVar 4)) (sVar 2)) [vO os, vS ss, vS ord, .own (sts (fnd os ss ord (t + 1))), .val (.int (t : Nat)), .val (.list (nts u)), .nil, x7] = .ok false [vO os, vS ss, vS ord, .own (sts (fnd os ss ord (t + 1))), .val (.int (t : Nat)), .val (.list (nts u)), .nil, x7] := by simp [sa, hc]
      have t2 : sTst (sBin gEq (sVar 5) (sNE (sLst sNil))) [vO os, vS ss, vS ord, .own (sts (fnd os ss ord (t + 1))), .val (.int (t : Nat)), .val (.list (nts u)), .nil, x7] = .ok false [vO os, vS ss, vS ord, .own (sts (fnd os ss ord (t + 1))), .val (.int (t : Nat)), .val (.list (nts u)), .nil, x7] := by simp [hu, sizeLine]
      rw [q_sta6, r_sIf, t1, stt_ok, if_neg (by decide), r_sIf, t2, stt_ok, if_neg (by decide), r_sSeq, s4, sq_nx, s5]
  · refine ⟨x7, b7, ?_⟩
    by_cases hu : u = []
    · subst hu
      rw [blk_nil rfl]
      simp [q_sta6, q_sta2, sa, hc, st, sizeLine]
    · have hp : 0 < (blk ss ord u t).length := by
        unfold blk
        rw [if_neg hc, if_neg hu]
        decide
      rw [if_pos hp]
      simp [q_sta6, q_sta2, sa, hc, st, sizeLine, hu]
end
end Ds
end

section
set_option Elab.async false
set_option linter.all false
set_option maxRecDepth 100000
set_option maxHeartbeats 1000000
open PySem PySem.Spec PyProof.Rows L2
namespace Ds
def stats (os : List Nat) (ss ord : List Str) : List Str := (desks os).map (stat os ss ord)
section
variable {os : List Nat} {ss ord : List Str}
theorem fnd_0 : fnd os ss ord 0 = stats os ss ord := by
  unfold fnd stats
  apply List.map_congr_left
  intro d _
  rw [if_pos (Nat.zero_le _)]
theorem fnd_end : fnd os ss ord (os.length + 1) = List.replicate (os.length + 1) (Str.ofString "") := by
  apply List.ext_getElem?
  intro j
  by_cases hj : j ≤ os.length
  · rw [nmAt_get (ss := fnd os ss ord (os.length + 1)) (by rw [fnd_len]; omega), fnd_at hj, if_neg (by omega), List.getElem?_replicate, if_pos (by omega)]
  · rw [List.getElem?_eq_none (by rw [fnd_len]; omega), List.getElem?_eq_none (by rw [List.length_replicate]; omega)]
theorem rng3_at {a : Int} {n : Nat} (ha : a = (n : Int) - 1) (h : n ≤ 1000000) : rng3 [.int a, .int (-1), .int (-1)] = some ((List.range n).map fun k => .int (a - (k : Nat))) := by
  have s1 : smallI a = true := smallI_ok (by omega) (by omega)
  show (if smallI a = true ∧ smallI (-1) = true ∧ (-1 : Int) = -1 then some ((List.range (a - -1).toNat).map fun k => PyData.int (a - (k : Nat))) else none) = _
  rw [if_pos ⟨s1, by decide, rfl⟩, show (a - -1).toNat = n by omega]
theorem flat_rep {d : PyData} : ∀ n : Nat, (List.replicate n [d]).flatten = List.replicate n d
  | 0 => rfl
  | n + 1 => by rw [List.replicate_succ, List.flatten_cons, flat_rep n, List.replicate_succ]; rfl
theorem sta_loop (c : Case os ss ord) : ∃ x4 x5 x7, loopL (gNm 4) (sSeq q_sta1 q_sta6) ((List.range (os.length + 1)).map fun k => .int ((os.length : Int) - (k : Nat))) [vO os, vS ss, vS ord, .own (sts (fnd os ss ord (os.length + 1))), .nil, .nil, .nil, .nil] = .nx [vO os, vS ss, vS ord, .own (sts (fnd os ss ord 0)), x4, x5, .nil, x7] := by
  obtain ⟨S', hS, x4, x5, x7, b4, b5, b7, e⟩ := loop_inv (g := gNm 4) (b := sSeq q_sta1 q_sta6) (ds := (List.range (os.length + 1)).map fun k => .int ((os.length : Int) - (k : Nat))) (P := fun i S => ∃ x4 x5 x7, bare (some x4) = true ∧ bare (some x5) = true ∧ bare (some x7) = true ∧ S = [vO os, vS ss, vS ord, .own (sts (fnd os ss ord (os.length + 1 - i))), x4, x5, .nil, x7]) (S := [vO os, vS ss, vS ord, .own (sts (fnd os ss ord (os.length + 1))), .nil, .nil, .nil, .nil])
    ⟨.nil, .nil, .nil, rfl, rfl, rfl, rfl⟩ fun i d S hd hS => by
      obtain ⟨x4, x5, x7, b4, b5, b7, rfl⟩ := hS
      rw [List.getElem?_map] at hd
      cases q : (List.range (os.length + 1))[i]? with
      | none => rw [q] at hd; cases hd
      | some k =>
        rw [q] at hd
        cases hd
        obtain ⟨hi, rfl⟩ := List.getElem?_eq_some_iff.mp q
        rw [List.length_range] at hi
        rw [List.getElem_range]
        show ∃ S1 S2, gNm 4 (.int ((os.length : Int) - (i : Nat))) _ = _ ∧ _
        have ed : (os.length : Int) - (i : Nat) = ((os.length - i : Nat) : Int) := by omega
        rw [ed]
        have e1 : os.length + 1 - i = (os.length - i) + 1 := by omega
        have e2 : os.length + 1 - (i + 1) = os.length - i := by omega
        rw [e1, e2]
        have s1 := sta1_ok c (t := os.length - i) (by omega) (x5 := x5) (x7 := x7) b5
        obtain ⟨y7, c7, s6⟩ := sta6_ok c (t := os.length - i) (by omega) (x7 := x7) b7
        refine ⟨[vO os, vS ss, vS ord, .own (sts (fnd os ss ord (os.length - i + 1))), .val (.int ((os.length - i : Nat) : Int)), x5, .nil, x7], _, by simp [b4], ?_, .val (.int ((os.length - i : Nat) : Int)), .val (.list (nts (okd os (calB ss ord) 0 (os.length - i)))), y7, rfl, rfl, c7, rfl⟩
        rw [r_sSeq, s1, sq_nx, s6]
  refine ⟨x4, x5, x7, ?_⟩
  rw [hS, e, List.length_map, List.length_range, Nat.sub_self]
theorem law_sta (c : Case os ss ord) : ∃ T, m__law_statuses [vO os, vS ss, vS ord] = .ok (.own (sts (stats os ss ord))) T := by
  have hl := c.len
  have h39 := c.off.1
  obtain ⟨x4, x5, x7, e⟩ := sta_loop c
  have s1 : sSetNew 3 (sRepN (sLst (sCons (sK (.str (Str.ofString ""))) sNil)) (sCallB gLen (sCons (sVar 1) sNil))) [vO os, vS ss, vS ord, .nil, .nil, .nil, .nil, .nil] = .nx [vO os, vS ss, vS ord, .own (sts (fnd os ss ord (os.length + 1))), .nil, .nil, .nil, .nil] := by
    have er : sts (fnd os ss ord (os.length + 1)) = (List.replicate ss.length [PyData.str (Str.ofString "")]).flatten := by
      rw [flat_rep, fnd_end, hl]
      simp [sts]
    rw [er]
    have hz : (ss.length : Int).toNat = ss.length := Int.toNat_natCast _
    have b1 : -(2 ^ 63) ≤ (ss.length : Int) ∧ (ss.length : Int) < 2 ^ 63 ∧ 1 * (ss.length : Int).toNat ≤ sizeLine := by rw [sizeLine_eq]; omega
    have : sRepN (sLst (sCons (sK (.str (Str.ofString ""))) sNil)) (sCallB gLen (sCons (sVar 1) sNil)) [vO os, vS ss, vS ord, .nil, .nil, .nil, .nil, .nil] = .ok (List.replicate ss.length [PyData.str (Str.ofString "")]).flatten [vO os, vS ss, vS ord, .nil, .nil, .nil, .nil, .nil] := by
      have e2 : sCallB gLen (sCons (sVar 1) sNil) [vO os, vS ss, vS ord, .nil, .nil, .nil, .nil, .nil] = .ok (.int ss.length) [vO os, vS ss, vS ord, .nil, .nil, .nil, .nil, .nil] := by simp [sts_len]
      have e1 : sLst (sCons (sK (.str (Str.ofString ""))) sNil) [vO os, vS ss, vS ord, .nil, .nil, .nil, .nil, .nil] = .ok [.str (Str.ofString "")] [vO os, vS ss, vS ord, .nil, .nil, .nil, .nil, .nil] := by simp [sizeLine]
      rw [r_sRepN, e1, bnd_ok, e2, noEx_ok, bnd_ok]
      show (if -(2 ^ 63) ≤ (ss.length : Int) ∧ (ss.length : Int) < 2 ^ 63 ∧ 1 * (ss.length : Int).toNat ≤ sizeLine then _ else _) = _
      rw [if_pos b1, Int.toNat_natCast]
    rw [r_sSetNew, this, stt_ok]
    simp
  have s2 : sFor (sRng3 (sCons (sBin gSub_ (sCallB gLen (sCons (sVar 1) sNil)) (sK (.int 1))) (sCons (sNeg (sK (.int 1))) (sCons (sNeg (sK (.int 1))) sNil)))) (gNm 4) (sSeq q_sta1 q_sta6) [vO os, vS ss, vS ord, .own (sts (fnd os ss ord (os.length + 1))), .nil, .nil, .nil, .nil] = .nx [vO os, vS ss, vS ord, .own (sts (fnd os ss ord 0)), x4, x5, .nil, x7] := by
    have hr := rng3_run (sr := sCons (sBin gSub_ (sCallB gLen (sCons (sVar 1) sNil)) (sK (.int 1))) (sCons (sNeg (sK (.int 1))) (sCons (sNeg (sK (.int 1))) sNil))) (S := [vO os, vS ss, vS ord, .own (sts (fnd os ss ord (os.length + 1))), .nil, .nil, .nil, .nil]) (S1 := [vO os, vS ss, vS ord, .own (sts (fnd os ss ord (os.length + 1))), .nil, .nil, .nil, .nil]) (ds := [.int ((ss.length : Int) - 1), .int (-1), .int (-1)]) (by simp [sts_len]) (rng3_at (n := os.length + 1) (by omega) (by omega))
    have el : ((List.range (os.length + 1)).map fun k => PyData.int ((ss.length : Int) - 1 - (k : Nat))) = (List.range (os.length + 1)).map fun k => PyData.int ((os.length : Int) - (k : Nat)) := by
      apply List.map_congr_left
      intro k _
      rw [show (ss.length : Int) - 1 = (os.length : Int) by omega]
    rw [r_sFor, hr, stt_ok, el, e]
  refine ⟨[vO os, vS ss, vS ord, .own (sts (fnd os ss ord 0)), x4, x5, .nil, x7], ?_⟩
  rw [m__law_statuses, r_mB]
  show (c__law_statuses [vO os, vS ss, vS ord, .nil, .nil, .nil, .nil, .nil]).fin = _
  rw [c_sta_eq, r_sSeq, s1, sq_nx, r_sSeq, s2, sq_nx, fnd_0]
  simp
theorem statuses_ok' (c : Case os ss ord) : ∃ T, m_statuses [vO os, vS ss, vS ord] = .ok (.own (sts (stats os ss ord))) T := by
  obtain ⟨T, e⟩ := statuses_ok c
  refine ⟨T, e.trans ?_⟩
  unfold sts stats
  rw [List.map_map]
  rfl
/-- no desk is unsettled -/
theorem settled_stat (c : Case os ss ord) : (Str.ofString "unsettled" ∈ stats os ss ord) ↔ settledB os ss ord = false := by
  have e1 : Str.ofString "center" ≠ Str.ofString "unsettled" := by decide +kernel
  have e2 : Str.ofString "open" ≠ Str.ofString "unsettled" := by decide +kernel
  have e3 : Str.ofString "silent" ≠ Str.ofString "unsettled" := by decide +kernel
  have key : ∀ d, stat os ss ord d = Str.ofString "unsettled" ↔ (blkD os ss ord d).isEmpty = false := fun d => by
    unfold stat
    generalize blkD os ss ord d = b
    cases b with
    | nil =>
      simp only [List.length_nil, Nat.lt_irrefl, if_false, List.isEmpty_nil]
      constructor
      · intro h
        split at h
        · exact absurd h e1
        · split at h
          · exact absurd h e2
          · exact absurd h e3
      · intro h; cases h
    | cons x xs => simp
  unfold settledB stats
  rw [List.mem_map]
  constructor
  · rintro ⟨d, hd, h⟩
    rw [Bool.eq_false_iff]
    intro z
    have := List.all_eq_true.mp z d hd
    rw [(key d).mp h] at this
    cases this
  · intro h
    rw [← Bool.not_eq_true, List.all_eq_true] at h
    obtain ⟨d, hd⟩ := Classical.not_forall.mp h
    obtain ⟨h1, h2⟩ := Classical.not_imp.mp hd
    exact ⟨d, h1, (key d).mpr (by simpa using h2)⟩
end
end Ds
end

section
set_option Elab.async false
set_option linter.all false
set_option maxRecDepth 100000
set_option maxHeartbeats 1000000
open PySem PySem.Spec PyProof.Rows L2
namespace Ds
/-! ### what a day does -/
section
variable {ord D R : List Str} {q y : Str}
theorem ix_head (h : ord = D ++ q :: R) (hn : ord.Nodup) : ord.idxOf q = D.length := by
  have e : ord[D.length]? = some q := by rw [h, List.getElem?_append_right (Nat.le_refl _), Nat.sub_self]; rfl
  exact nodup_at hn (idx_get (List.mem_of_getElem? e)) e
theorem ix_done (h : ord = D ++ q :: R) (hn : ord.Nodup) (hy : y ∈ D) : ord.idxOf y < ord.idxOf q := by
  obtain ⟨i, hi⟩ := List.getElem?_of_mem hy
  have lt := (List.getElem?_eq_some_iff.mp hi).1
  have e : ord[i]? = some y := by rw [h, List.getElem?_append_left lt]; exact hi
  rw [ix_head h hn, nodup_at hn (idx_get (List.mem_of_getElem? e)) e]
  exact lt
theorem ix_rest (h : ord = D ++ q :: R) (hn : ord.Nodup) (hy : y ∈ R) : ord.idxOf q < ord.idxOf y := by
  obtain ⟨i, hi⟩ := List.getElem?_of_mem hy
  have e : ord[D.length + (i + 1)]? = some y := by
    rw [h, List.getElem?_append_right (by omega), Nat.add_sub_cancel_left]
    simpa using hi
  rw [ix_head h hn, nodup_at hn (idx_get (List.mem_of_getElem? e)) e]
  omega
theorem in_three (h : ord = D ++ q :: R) (hy : y ∈ ord) : y ∈ D ∨ y = q ∨ y ∈ R := by
  rw [h, List.mem_append, List.mem_cons] at hy
  exact hy
/-- a group: the last of its persons sits at the center, or is still to come -/
def GP (ord : List Str) (U : List Nat) (c : Nat) (f : Nat → Str) (D R : List Str) : Prop :=
  f c ∈ ord ∧ (∀ e ∈ U, f e ∈ ord) ∧ (((∀ e ∈ U, ord.idxOf (f e) < ord.idxOf (f c)) ∧ (f c ∈ R → ∀ e ∈ U, f e ∈ R)) ∨ (f c ∈ D ∧ ∃ e0 ∈ U, f e0 ∈ R ∧ (∀ e ∈ U, f e ≠ f e0 → ord.idxOf (f e) < ord.idxOf (f e0)) ∧ ord.idxOf (f c) < ord.idxOf (f e0)))
theorem mem_rest {z : Str} (h : z ∈ q :: R) (n : z ≠ q) : z ∈ R := (List.mem_cons.mp h).resolve_left n
theorem GP.keep {U : List Nat} {c : Nat} {f f' : Nat → Str} (g : GP ord U c f D (q :: R)) (h : ∀ k, k = c ∨ k ∈ U → f' k = f k ∧ f k ≠ q) : GP ord U c f' (D ++ [q]) R := by
  obtain ⟨g1, g2, g3⟩ := g
  have hc := h c (.inl rfl)
  refine ⟨by rw [hc.1]; exact g1, fun e he => by rw [(h e (.inr he)).1]; exact g2 e he, ?_⟩
  rcases g3 with ⟨a, b⟩ | ⟨a, e0, h0, b1, b2, b3⟩
  · left
    refine ⟨fun e he => by rw [(h e (.inr he)).1, hc.1]; exact a e he, fun z e he => ?_⟩
    rw [hc.1] at z
    rw [(h e (.inr he)).1]
    exact mem_rest (b (List.mem_cons_of_mem _ z) e he) (h e (.inr he)).2
  · right
    have h00 := h e0 (.inr h0)
    refine ⟨by rw [hc.1]; exact List.mem_append_left _ a, e0, h0, by rw [h00.1]; exact mem_rest b1 h00.2, fun e he z => ?_, by rw [hc.1, h00.1]; exact b3⟩
    rw [(h e (.inr he)).1, h00.1] at z ⊢
    exact b2 e he z
/-- one of its persons is called, below the center -/
theorem GP.move {U : List Nat} {c d : Nat} {f f' : Nat → Str} (ho : ord = D ++ q :: R) (hn : ord.Nodup) (g : GP ord U c f D (q :: R)) (hd : d ∈ U) (hq : f d = q) (hcU : c ∉ U) (hinj : ∀ e ∈ U, e ≠ d → f e ≠ q) (hc : f' c = q) (hd' : f' d = f c) (h : ∀ k ∈ U, k ≠ d → f' k = f k) : GP ord U c f' (D ++ [q]) R := by
  obtain ⟨g1, g2, g3⟩ := g
  have qo : q ∈ ord := by rw [ho]; simp
  have qR : q ∉ R := by
    intro z
    have := ix_rest ho hn z
    omega
  have qD : q ∈ D ++ [q] := by simp
  have co : ∀ e ∈ U, f' e ∈ ord := fun e he => by
    by_cases ed : e = d
    · rw [ed, hd']; exact g1
    · rw [h e he ed]; exact g2 e he
  refine ⟨by rw [hc]; exact qo, co, ?_⟩
  rcases g3 with ⟨a, b⟩ | ⟨a, e0, h0, b1, b2, b3⟩
  · -- the last one sat at the center
    have lt := a d hd
    rw [hq] at lt
    have fR : f c ∈ R := by
      rcases in_three ho g1 with z | z | z
      · have := ix_done ho hn z; omega
      · rw [z] at lt; omega
      · exact z
    right
    refine ⟨by rw [hc]; exact qD, d, hd, by rw [hd']; exact fR, fun e he z => ?_, by rw [hc, hd']; exact lt⟩
    by_cases ed : e = d
    · exact absurd (by rw [ed]) z
    · rw [h e he ed, hd']; exact a e he
  · by_cases e0d : e0 = d
    · subst e0d
      rw [hq] at b2 b3
      left
      refine ⟨fun e he => ?_, fun z => absurd (by rw [← hc]; exact z) qR⟩
      rw [hc]
      by_cases ed : e = e0
      · rw [ed, hd']; exact b3
      · rw [h e he ed]; exact b2 e he (hinj e he ed)
    · right
      have ne := hinj e0 h0 e0d
      refine ⟨by rw [hc]; exact qD, e0, h0, by rw [h e0 h0 e0d]; exact mem_rest b1 ne, fun e he z => ?_, ?_⟩
      · rw [h e0 h0 e0d] at z ⊢
        by_cases ed : e = d
        · rw [ed, hd']; exact b3
        · rw [h e he ed] at z ⊢; exact b2 e he z
      · rw [hc, h e0 h0 e0d]
        have := b2 d hd (by rw [hq]; exact fun z => ne z.symm)
        rw [hq] at this
        exact this
/-- nobody is called at a center -/
theorem GP.nocall {U : List Nat} {c : Nat} {f : Nat → Str} (ho : ord = D ++ q :: R) (hn : ord.Nodup) (g : GP ord U c f D (q :: R)) (hU : U ≠ []) (hinj : ∀ e ∈ U, f e ≠ f c) : f c ≠ q := by
  intro hq
  obtain ⟨g1, g2, g3⟩ := g
  rcases g3 with ⟨a, b⟩ | ⟨a, _⟩
  · obtain ⟨e, he⟩ := List.exists_mem_of_ne_nil U hU
    have m := mem_rest (b (by rw [hq]; simp) e he) (by rw [← hq]; exact hinj e he)
    have := ix_rest ho hn m
    have := a e he
    rw [hq] at this
    omega
  · rw [hq] at a
    have := ix_done ho hn a
    omega
end
def okd0 (os : List Nat) (s ord : List Str) (d : Nat) : List Nat := okd os (calB s ord) 0 d
def op0 (os : List Nat) (s ord : List Str) (d : Nat) : Bool := op os (calB s ord) d
/-- what stands during a day that begins with s, whose desks behind t are settled -/
structure Dy (os : List Nat) (s ord : List Str) (t : Nat) (x D R : List Str) : Prop where
  cs : Case os x ord
  spl : ord = D ++ R
  sil : ∀ e, t < e → e ≤ os.length → op0 os s ord e = false → okd0 os s ord e = [] → nmAt x e = nmAt s e
  grp : ∀ c, t < c → c ≤ os.length → okd0 os s ord c ≠ [] → GP ord (okd0 os s ord c) c (nmAt x) D R
  top : (∀ e ∈ okd0 os s ord t, nmAt x e ∈ R) ∨ (nmAt x t ∈ D ∧ ∀ e ∈ okd0 os s ord t, nmAt x e ∈ ord → nmAt x e ∉ R → ord.idxOf (nmAt x e) < ord.idxOf (nmAt x t))
section
variable {os : List Nat} {s ss ord x D R : List Str} {q : Str} {t : Nat}
theorem mem_ok0 {d e : Nat} : e ∈ okd0 os s ord d ↔ 0 < e ∧ e ≤ os.length ∧ os.getD (e - 1) 0 = d ∧ op0 os s ord e = true := mem_okd
theorem ok0_lt (h : Off os) {d e : Nat} (m : e ∈ okd0 os s ord d) : d < e := by
  obtain ⟨h1, h2, h3, _⟩ := mem_ok0.mp m
  have := off_lt h h1 h2
  omega
theorem op0_eq (h : Off os) {e : Nat} (he : e ≤ os.length) : op0 os s ord e = (calB s ord e && (okd0 os s ord e).isEmpty) := op_okd h he
theorem op0_ok (h : Off os) {e : Nat} (he : e ≤ os.length) (ho : op0 os s ord e = true) : nmAt s e ∈ ord ∧ okd0 os s ord e = [] := by
  rw [op0_eq h he, Bool.and_eq_true] at ho
  exact ⟨of_decide_eq_true ho.1, List.isEmpty_iff.mp ho.2⟩
theorem nm_inj (c : Case os x ord) {i j : Nat} (hi : i ≤ os.length) (hj : j ≤ os.length) (e : nmAt x i = nmAt x j) : i = j := by
  have hl := c.len
  have a := nmAt_get (ss := x) (t := i) (by omega)
  have b := nmAt_get (ss := x) (t := j) (by omega)
  rw [← e] at b
  exact nodup_at c.nd a b
theorem nm_of {l l' : List Str} {k j : Nat} (h : l[k]? = l'[j]?) : nmAt l k = nmAt l' j := by
  unfold nmAt
  rw [List.getD_eq_getElem?_getD, List.getD_eq_getElem?_getD, h]
/-- the places behind a call -/
theorem call_at (c : Case os x ord) (hq : q ∈ x) : x.idxOf q ≤ os.length ∧ nmAt x (x.idxOf q) = q ∧ ((x.idxOf q = 0 ∧ callS os x q = x) ∨ (0 < x.idxOf q ∧ nmAt (callS os x q) (x.idxOf q) = nmAt x (os.getD (x.idxOf q - 1) 0) ∧ nmAt (callS os x q) (os.getD (x.idxOf q - 1) 0) = q ∧ ∀ k, k ≠ x.idxOf q → k ≠ os.getD (x.idxOf q - 1) 0 → nmAt (callS os x q) k = nmAt x k)) := by
  have hl := c.len
  have li := idx_lt hq
  refine ⟨by omega, nm_idx hq, ?_⟩
  by_cases h0 : 0 < x.idxOf q
  · right
    have lt := off_lt c.off (e := x.idxOf q) h0 (by omega)
    have hi := idx_get hq
    have hj := nmAt_get (ss := x) (t := os.getD (x.idxOf q - 1) 0) (by omega)
    have key : ∀ k, nmAt (callS os x q) k = nmAt x (swp (x.idxOf q) (os.getD (x.idxOf q - 1) 0) k) := fun k => by
      unfold callS
      rw [if_pos h0]
      exact nm_of (swp_get hi hj k)
    refine ⟨h0, ?_, ?_, fun k h1 h2 => ?_⟩
    · rw [key]; unfold swp; rw [if_pos rfl]
    · rw [key]; unfold swp; rw [if_neg (by omega), if_pos rfl, nm_idx hq]
    · rw [key]; unfold swp; rw [if_neg h1, if_neg h2]
  · left
    exact ⟨by omega, by unfold callS; rw [if_neg h0]⟩
theorem Dy.step (dy : Dy os s ord t x D (q :: R)) (ht : t ≤ os.length) : Dy os s ord t (callS os x q) (D ++ [q]) R := by
  obtain ⟨cs, spl, sil, grp, top⟩ := dy
  have off := cs.off
  have ho := spl
  have hn := cs.ond
  have qo : q ∈ ord := by rw [ho]; simp
  have qx : q ∈ x := cs.osub q qo
  obtain ⟨dl, dn, mv⟩ := call_at cs qx
  have inj : ∀ {i : Nat}, i ≤ os.length → nmAt x i = q → i = x.idxOf q := fun {i} hi e => nm_inj cs hi dl (by rw [e, dn])
  -- where the call is not
  have nocen : ∀ c, t < c → c ≤ os.length → okd0 os s ord c ≠ [] → x.idxOf q ≠ c := fun c h1 h2 h3 z => by
    refine (grp c h1 h2 h3).nocall ho hn h3 (fun e he w => ?_) (by rw [← z]; exact dn)
    have := ok0_lt off he
    have := nm_inj cs (mem_ok0.mp he).2.1 h2 w
    omega
  have nosil : ∀ e, t < e → e ≤ os.length → op0 os s ord e = false → okd0 os s ord e = [] → x.idxOf q ≠ e := fun e h1 h2 h3 h4 z => by
    have e1 := sil e h1 h2 h3 h4
    rw [← z, dn] at e1
    rw [op0_eq off h2, h4] at h3
    have : calB s ord e = false := by simpa using h3
    unfold calB at this
    rw [← z, ← e1] at this
    exact (of_decide_eq_false this) qo
  have dop : t < x.idxOf q → op0 os s ord (x.idxOf q) = true := fun h => by
    cases z : op0 os s ord (x.idxOf q) with
    | true => rfl
    | false =>
      by_cases w : okd0 os s ord (x.idxOf q) = []
      · exact absurd rfl (nosil _ h dl z w)
      · exact absurd rfl (nocen _ h dl w)
  have spl' : ord = D ++ [q] ++ R := by rw [ho, List.append_assoc]; rfl
  have cs' := (cs.call qx).1
  have neq : ∀ {k : Nat}, k ≤ os.length → k ≠ x.idxOf q → nmAt x k ≠ q := fun {k} h1 h2 z => h2 (inj h1 z)
  have nR : ∀ {y : Str}, y ∈ q :: R → y ≠ q → y ∈ R := fun h n => mem_rest h n
  rcases mv with ⟨d0, ex⟩ | ⟨d0, m1, m2, m3⟩
  · -- at desk 0: nothing moves
    rw [ex]
    refine ⟨cs, spl', sil, fun c h1 h2 h3 => (grp c h1 h2 h3).keep fun k hk => ⟨rfl, ?_⟩, ?_⟩
    · rcases hk with hk | hk
      · exact neq (by omega) (by omega)
      · exact neq (mem_ok0.mp hk).2.1 (by have := (mem_ok0.mp hk).1; omega)
    · rcases top with a | ⟨a, b⟩
      · exact .inl fun e he => nR (a e he) (neq (mem_ok0.mp he).2.1 (by have := (mem_ok0.mp he).1; omega))
      · refine .inr ⟨List.mem_append_left _ a, fun e he h1 h2 => b e he h1 fun z => h2 (nR z (neq (mem_ok0.mp he).2.1 (by have := (mem_ok0.mp he).1; omega)))⟩
  · have ult := off_lt off (e := x.idxOf q) d0 dl
    generalize hd : x.idxOf q = d at *
    generalize hu : os.getD (d - 1) 0 = u at *
    -- a place that stays
    have stay : ∀ {k : Nat}, k ≤ os.length → k ≠ d → k ≠ u → nmAt (callS os x q) k = nmAt x k ∧ nmAt x k ≠ q := fun {k} h0 h1 h2 => ⟨m3 k h1 h2, neq h0 h1⟩
    have inok : ∀ {c k : Nat}, k ∈ okd0 os s ord c → k = d → c = u := fun {c k} h z => by
      have := (mem_ok0.mp h).2.2.1
      rw [z, hu] at this
      exact this.symm
    have uop : ∀ {c : Nat}, u ∈ okd0 os s ord c → okd0 os s ord u = [] := fun {c} h => (op0_ok off (mem_ok0.mp h).2.1 (mem_ok0.mp h).2.2.2).2
    have din : t < d → d ∈ okd0 os s ord u := fun h => mem_ok0.mpr ⟨d0, dl, hu, dop h⟩
    -- groups that the call does not touch
    have far : ∀ c, t < c → c ≤ os.length → okd0 os s ord c ≠ [] → c ≠ u → (u ∉ okd0 os s ord c) → GP ord (okd0 os s ord c) c (nmAt (callS os x q)) (D ++ [q]) R := fun c h1 h2 h3 h4 h5 => (grp c h1 h2 h3).keep fun k hk => by
      rcases hk with hk | hk
      · subst hk; exact stay h2 (fun z => nocen k h1 h2 h3 z.symm) h4
      · exact stay (mem_ok0.mp hk).2.1 (fun z => h4 (inok hk z)) fun z => h5 (by rw [← z]; exact hk)
    have sil' : ∀ e, t < e → e ≤ os.length → op0 os s ord e = false → okd0 os s ord e = [] → nmAt (callS os x q) e = nmAt s e := fun e h1 h2 h3 h4 => by
      have n1 : e ≠ d := fun z => nosil e h1 h2 h3 h4 z.symm
      have n2 : e ≠ u := fun z => by
        have hdt : t < d := by omega
        have := din hdt
        rw [← z, h4] at this
        cases this
      rw [m3 e n1 n2]
      exact sil e h1 h2 h3 h4
    by_cases hdt : t < d
    · have dU := din hdt
      have uU : ∀ c, u ∉ okd0 os s ord c := fun c h => by
        have := uop h
        rw [this] at dU
        cases dU
      have nU : okd0 os s ord u ≠ [] := fun z => by rw [z] at dU; cases dU
      refine ⟨cs', spl', sil', fun c h1 h2 h3 => ?_, ?_⟩
      · by_cases hcu : c = u
        · subst hcu
          refine (grp c h1 h2 h3).move ho hn dU dn (uU c) (fun e he hne => neq (mem_ok0.mp he).2.1 hne) m2 m1 fun k hk hne => m3 k hne fun z => absurd hk (by rw [z]; exact uU _)
        · exact far c h1 h2 h3 hcu (uU c)
      · by_cases hut : u = t
        · subst hut
          right
          refine ⟨by rw [m2]; simp, fun e he h1 h2 => ?_⟩
          rw [m2]
          have key : ∀ y, y ∈ ord → y ∉ R → y ≠ q → ord.idxOf y < ord.idxOf q := fun y a b c => by
            rcases in_three ho a with z | z | z
            · exact ix_done ho hn z
            · exact absurd z c
            · exact absurd z b
          by_cases ed : e = d
          · subst ed
            rw [m1] at h1 h2 ⊢
            exact key _ h1 h2 (neq ht (by omega))
          · rw [m3 e ed fun z => absurd he (by rw [z]; exact uU _)] at h1 h2 ⊢
            exact key _ h1 h2 (neq (mem_ok0.mp he).2.1 ed)
        · have st : ∀ e ∈ okd0 os s ord t, nmAt (callS os x q) e = nmAt x e ∧ nmAt x e ≠ q := fun e he => stay (mem_ok0.mp he).2.1 (fun z => hut (inok he z).symm) fun z => uU t (by rw [← z]; exact he)
          have s2 := stay ht (by omega : t ≠ d) (fun z => hut z.symm)
          rcases top with a | ⟨a, b⟩
          · exact .inl fun e he => by rw [(st e he).1]; exact nR (a e he) (st e he).2
          · refine .inr ⟨by rw [s2.1]; exact List.mem_append_left _ a, fun e he h1 h2 => ?_⟩
            rw [(st e he).1] at h1 h2 ⊢
            rw [s2.1]
            exact b e he h1 fun z => h2 (nR z (st e he).2)
    · -- at t or above
      have uU : ∀ c, t ≤ c → u ∉ okd0 os s ord c := fun c h1 h2 => by have := ok0_lt off h2; omega
      refine ⟨cs', spl', sil', fun c h1 h2 h3 => far c h1 h2 h3 (by omega) (uU c (by omega)), ?_⟩
      have st : ∀ e ∈ okd0 os s ord t, nmAt (callS os x q) e = nmAt x e ∧ nmAt x e ≠ q := fun e he => by
        have := ok0_lt off he
        exact stay (mem_ok0.mp he).2.1 (by omega) (by omega)
      rcases top with a | ⟨a, b⟩
      · exact .inl fun e he => by rw [(st e he).1]; exact nR (a e he) (st e he).2
      · by_cases hd2 : d = t
        · exfalso
          rw [← hd2, dn] at a
          have := ix_done ho hn a
          omega
        · have s2 := stay ht (by omega : t ≠ d) (by omega : t ≠ u)
          refine .inr ⟨by rw [s2.1]; exact List.mem_append_left _ a, fun e he h1 h2 => ?_⟩
          rw [(st e he).1] at h1 h2 ⊢
          rw [s2.1]
          exact b e he h1 fun z => h2 (nR z (st e he).2)
theorem Dy.run : ∀ {R x D : List Str}, Dy os s ord t x D R → t ≤ os.length → Dy os s ord t (callsS os x R) ord []
  | [], x, D, dy, _ => by
    have := dy.spl
    rw [List.append_nil] at this
    rw [this]
    rw [this] at dy
    exact dy
  | q :: R, x, D, dy, ht => by
    show Dy os s ord t (callsS os (callS os x q) R) ord []
    exact Dy.run (dy.step ht) ht
end
end Ds
end

section
set_option Elab.async false
set_option linter.all false
set_option maxRecDepth 100000
set_option maxHeartbeats 1000000
open PySem PySem.Spec PyProof.Rows L2
namespace Ds
section
variable {os : List Nat} {s ss ord x : List Str} {t : Nat}
theorem blk_none {U : List Nat} {d : Nat} (hn : ord.Nodup) (hd : nmAt x d ∈ ord) (h : ∀ e ∈ U, ord.idxOf (nmAt x e) < ord.idxOf (nmAt x d)) : blk x ord U d = [] := by
  unfold blk
  rw [if_pos hd, List.map_eq_nil_iff, List.filter_eq_nil_iff]
  intro y hy
  rw [decide_eq_true_eq]
  intro hm
  obtain ⟨e, he, rfl⟩ := List.mem_map.mp hm
  have := (mem_drop_idx hn).mp hy
  have := h e he
  omega
theorem blk_some {U : List Nat} {d : Nat} (c : Case os s ord) (hd : d ≤ os.length) (hU : ∀ e ∈ U, e ≤ os.length ∧ e ≠ d ∧ nmAt s e ∈ ord) (h0 : U ≠ []) (h : blk s ord U d = []) : nmAt s d ∈ ord ∧ ∀ e ∈ U, ord.idxOf (nmAt s e) < ord.idxOf (nmAt s d) := by
  unfold blk at h
  by_cases hc : nmAt s d ∈ ord
  · refine ⟨hc, fun e he => ?_⟩
    rw [if_pos hc, List.map_eq_nil_iff, List.filter_eq_nil_iff] at h
    obtain ⟨h1, h2, h3⟩ := hU e he
    rcases Nat.lt_trichotomy (ord.idxOf (nmAt s e)) (ord.idxOf (nmAt s d)) with z | z | z
    · exact z
    · exact absurd (nm_inj c h1 hd (idx_inj h3 hc z)) h2
    · exact absurd (decide_eq_true (List.mem_map.mpr ⟨e, he, rfl⟩)) (h (nmAt s e) ((mem_drop_idx c.ond).mpr ⟨h3, by omega⟩))
  · rw [if_neg hc, if_neg h0] at h
    cases h
/-- the desks from k on are settled -/
def stF (os : List Nat) (s ord : List Str) (k : Nat) : Prop := ∀ d, k ≤ d → d ≤ os.length → blkD os s ord d = []
theorem settledB_iff : settledB os s ord = true ↔ stF os s ord 0 := by
  unfold settledB stF desks
  rw [List.all_eq_true]
  constructor
  · intro h d _ hd
    exact List.isEmpty_iff.mp (h d (List.mem_range.mpr (by omega)))
  · intro h d hd
    rw [List.mem_range] at hd
    exact List.isEmpty_iff.mpr (h d (Nat.zero_le _) (by omega))
theorem ok0_mem (c : Case os s ord) {d e : Nat} (he : e ∈ okd0 os s ord d) : e ≤ os.length ∧ e ≠ d ∧ nmAt s e ∈ ord := by
  have h := mem_ok0.mp he
  have := ok0_lt c.off he
  exact ⟨h.2.1, by omega, (op0_ok c.off h.2.1 h.2.2.2).1⟩
theorem Dy.start (c : Case os s ord) (h : stF os s ord (t + 1)) : Dy os s ord t s [] ord := by
  refine ⟨c, rfl, fun _ _ _ _ _ => rfl, fun d h1 h2 h3 => ?_, .inl fun e he => (ok0_mem c he).2.2⟩
  obtain ⟨a, b⟩ := blk_some c h2 (fun e he => ok0_mem c he) h3 (h d h1 h2)
  exact ⟨a, fun e he => (ok0_mem c he).2.2, .inl ⟨b, fun _ e he => (ok0_mem c he).2.2⟩⟩
theorem Dy.same (dy : Dy os s ord t x ord []) : ∀ (k e : Nat), os.length - e ≤ k → t < e → e ≤ os.length → okd0 os x ord e = okd0 os s ord e ∧ (op0 os x ord e = true → op0 os s ord e = true) ∧ (t < os.getD (e - 1) 0 → op0 os s ord e = true → op0 os x ord e = true) := by
  intro k
  induction k using Nat.strongRecOn with
  | ind k ih =>
    intro e hk h1 h2
    have off := dy.cs.off
    have e1 : okd0 os x ord e = okd0 os s ord e := by
      unfold okd0 okd
      apply List.filter_congr
      intro c hc
      rw [List.mem_range'_1] at hc
      by_cases hs : os.getD (c - 1) 0 = e
      · have lt := off_lt off (e := c) (by omega) (by omega)
        obtain ⟨_, a, b⟩ := ih (os.length - c) (by omega) c (Nat.le_refl _) (by omega) (by omega)
        have : op os (calB x ord) c = op os (calB s ord) c := by
          cases z : op os (calB s ord) c with
          | true => exact b (by omega) z
          | false =>
            cases w : op os (calB x ord) c with
            | true =>
              have q : op os (calB s ord) c = true := a w
              rw [z] at q; cases q
            | false => rfl
        rw [this]
      · rw [decide_eq_false hs, Bool.false_and, Bool.false_and]
    refine ⟨e1, fun ho => ?_, fun hs ho => ?_⟩
    · obtain ⟨a, b⟩ := op0_ok off h2 ho
      rw [e1] at b
      cases z : op0 os s ord e with
      | true => rfl
      | false =>
        have := dy.sil e h1 h2 z b
        rw [op0_eq off h2, b] at z
        rw [this] at a
        simp [calB, a] at z
    · have hc : os.getD (e - 1) 0 ≤ os.length := by have := off_lt off (e := e) (by omega) h2; omega
      have hm : e ∈ okd0 os s ord (os.getD (e - 1) 0) := mem_ok0.mpr ⟨by omega, h2, rfl, ho⟩
      have g := dy.grp _ hs hc (fun z => by rw [z] at hm; cases hm)
      obtain ⟨_, b⟩ := op0_ok off h2 ho
      rw [op0_eq off h2, e1, b]
      simp [calB, g.2.1 e hm]
theorem Dy.settled (dy : Dy os s ord t x ord []) (ht : t ≤ os.length) : stF os x ord t := by
  intro d h1 h2
  have off := dy.cs.off
  have hn := dy.cs.ond
  show blk x ord (okd0 os x ord d) d = []
  by_cases hdt : d = t
  · subst hdt
    by_cases h0 : okd0 os x ord d = []
    · exact blk_nil h0
    · obtain ⟨e, he⟩ := List.exists_mem_of_ne_nil _ h0
      have sub : ∀ e ∈ okd0 os x ord d, e ∈ okd0 os s ord d ∧ nmAt x e ∈ ord := fun e he => by
        obtain ⟨a, b, c, o⟩ := mem_ok0.mp he
        have lt := ok0_lt off he
        obtain ⟨_, a2, _⟩ := dy.same _ e (Nat.le_refl _) lt b
        exact ⟨mem_ok0.mpr ⟨a, b, c, a2 o⟩, (op0_ok off b o).1⟩
      rcases dy.top with a | ⟨a, b⟩
      · have := a e (sub e he).1
        cases this
      · exact blk_none hn a fun e he => b e (sub e he).1 (sub e he).2 (by simp)
  · rw [(dy.same _ d (Nat.le_refl _) (by omega) h2).1]
    by_cases h0 : okd0 os s ord d = []
    · exact blk_nil h0
    · obtain ⟨g1, g2, g3⟩ := dy.grp d (by omega) h2 h0
      rcases g3 with ⟨a, _⟩ | ⟨_, e0, _, b, _⟩
      · exact blk_none hn g1 a
      · cases b
/-- a day settles one more desk -/
theorem day_settles (c : Case os s ord) (ht : t ≤ os.length) (h : stF os s ord (t + 1)) : stF os (callsS os s ord) ord t :=
  Dy.settled (Dy.run (Dy.start c h) ht) ht
def daysS (os : List Nat) (ord : List Str) : Nat → List Str → List Str
  | 0, s => s
  | k + 1, s => daysS os ord k (callsS os s ord)
theorem Case.days (c : Case os s ord) : ∀ k, Case os (daysS os ord k s) ord := by
  intro k
  induction k generalizing s with
  | zero => exact c
  | succ k ih => exact ih c.day
theorem days_succ (k : Nat) : daysS os ord (k + 1) s = callsS os (daysS os ord k s) ord := by
  induction k generalizing s with
  | zero => rfl
  | succ k ih => exact ih (s := callsS os s ord)
theorem days_settle (c : Case os s ord) : ∀ k, k ≤ os.length → stF os (daysS os ord k s) ord (os.length - k)
  | 0, _ => fun d h1 h2 => by
    have : d = os.length := by omega
    subst this
    have h0 : okd os (calB s ord) 0 os.length = [] := by
      rw [← okd_all c.off os.length (Nat.le_refl _) (Nat.le_refl _), okd_end]
    exact blk_nil h0
  | k + 1, hk => by
    have ih := days_settle c k (by omega)
    rw [days_succ]
    rw [show os.length - k = (os.length - (k + 1)) + 1 by omega] at ih
    exact day_settles (c.days k) (by omega) ih
/-- after as many days as there are desks below desk 0, at most -/
theorem settles (c : Case os s ord) : settledB os (daysS os ord os.length s) ord = true := by
  rw [settledB_iff]
  have := days_settle c os.length (Nat.le_refl _)
  rw [Nat.sub_self] at this
  exact this
theorem settled_stays (c : Case os s ord) (h : settledB os s ord = true) : settledB os (callsS os s ord) ord = true := by
  rw [settledB_iff] at h ⊢
  exact day_settles c (Nat.zero_le _) fun d _ hd => h d (Nat.zero_le _) hd
/-- the settling day -/
def sday (os : List Nat) (ord : List Str) : Nat → List Str → Nat
  | 0, _ => 0
  | k + 1, s => if settledB os s ord = true then 0 else sday os ord k (callsS os s ord) + 1
end
end Ds
end

section
set_option Elab.async false
set_option linter.all false
set_option maxRecDepth 100000
set_option maxHeartbeats 1000000
open PySem PySem.Spec PyProof.Rows L2
namespace Ds
/-! ### recurrent states: one call, the order begun later -/
section
variable {os : List Nat} {s ord R : List Str} {x y z : Str}
theorem idx_at {l : List Str} (h : l.Nodup) {i : Nat} (e : l[i]? = some y) : l.idxOf y = i := nodup_at h (idx_get (List.mem_of_getElem? e)) e
theorem rot_nd (h : (x :: R).Nodup) : (R ++ [x]).Nodup := (List.perm_append_comm (l₁ := [x]) (l₂ := R)).nodup_iff.mp h
theorem rot_idx (h : (x :: R).Nodup) (hy : y ∈ R) : (x :: R).idxOf y = (R ++ [x]).idxOf y + 1 ∧ (R ++ [x]).idxOf y < (R ++ [x]).idxOf x := by
  obtain ⟨i, hi⟩ := List.getElem?_of_mem hy
  have lt := (List.getElem?_eq_some_iff.mp hi).1
  have a := idx_at h (i := i + 1) (y := y) (by simpa using hi)
  have b := idx_at (rot_nd h) (i := i) (y := y) (by rw [List.getElem?_append_left lt]; exact hi)
  have d := idx_at (rot_nd h) (i := R.length) (y := x) (by rw [List.getElem?_append_right (Nat.le_refl _)]; simp)
  exact ⟨by omega, by omega⟩
theorem stF_iff (c : Case os s ord) : stF os s ord 0 ↔ ∀ d, d ≤ os.length → okd0 os s ord d ≠ [] → nmAt s d ∈ ord ∧ ∀ e ∈ okd0 os s ord d, ord.idxOf (nmAt s e) < ord.idxOf (nmAt s d) := by
  constructor
  · intro h d hd h0
    exact blk_some c hd (fun e he => ok0_mem c he) h0 (h d (Nat.zero_le _) hd)
  · intro h d _ hd
    show blk s ord (okd0 os s ord d) d = []
    by_cases h0 : okd0 os s ord d = []
    · exact blk_nil h0
    · exact blk_none c.ond (h d hd h0).1 (h d hd h0).2
/-- the persons of a group -/
def InG (s : List Str) (U : List Nat) (d : Nat) (z : Str) : Prop := ∃ k, (k = d ∨ k ∈ U) ∧ nmAt s k = z
theorem okd_cal {s' ord' : List Str} (h : calB s' ord' = calB s ord) (d : Nat) : okd0 os s' ord' d = okd0 os s ord d := by unfold okd0; rw [h]
theorem op_cal {s' ord' : List Str} (h : calB s' ord' = calB s ord) (d : Nat) : op0 os s' ord' d = op0 os s ord d := by unfold op0; rw [h]
/-- what one call of the first of the order does to a recurrent state -/
structure Rot (os : List Nat) (s ord s' ord' : List Str) : Prop where
  cs : Case os s' ord'
  st : stF os s' ord' 0
  cal : calB s' ord' = calB s ord
  grp : ∀ d, d ≤ os.length → okd0 os s ord d ≠ [] → ∀ z, InG s' (okd0 os s ord d) d z ↔ InG s (okd0 os s ord d) d z
  rest : ∀ k, k ≤ os.length → okd0 os s ord k = [] → (op0 os s ord k = false ∨ k = 0) → nmAt s' k = nmAt s k
theorem rot (c : Case os s (x :: R)) (h : stF os s (x :: R) 0) : Rot os s (x :: R) (callS os s x) (R ++ [x]) := by
  have xo : x ∈ x :: R := List.mem_cons_self
  have xs : x ∈ s := c.osub x xo
  have xR : x ∉ R := (List.nodup_cons.mp c.ond).1
  have h' := (stF_iff c).mp h
  have mo : ∀ w, w ∈ R ++ [x] ↔ w ∈ x :: R := fun w => by simp [or_comm]
  obtain ⟨cc, cm⟩ := c.call xs
  have c2 : Case os (callS os s x) (R ++ [x]) := ⟨cc.off, cc.len, cc.nd, cc.nm, rot_nd c.ond, fun w hw => cc.osub w ((mo w).mp hw)⟩
  obtain ⟨pl, pn, mv⟩ := call_at c xs
  -- the called person is below its center, or at desk 0
  have first : ∀ e, e ≤ os.length → nmAt s e = x → okd0 os s (x :: R) e = [] := fun e he hx => by
    by_cases h0 : okd0 os s (x :: R) e = []
    · exact h0
    · obtain ⟨e1, m1⟩ := List.exists_mem_of_ne_nil _ h0
      have := (h' e he h0).2 e1 m1
      rw [hx, idx_at c.ond (i := 0) (y := x) rfl] at this
      omega
  have pe := first _ pl pn
  rcases mv with ⟨p0, ex⟩ | ⟨p0, m1, m2, m3⟩
  · rw [ex]
    have cal : calB s (R ++ [x]) = calB s (x :: R) := funext fun d => by
      unfold calB
      exact decide_eq_decide.mpr (mo _)
    rw [ex] at c2
    refine ⟨c2, (stF_iff c2).mpr fun d hd h0 => ?_, cal, fun d _ _ z => Iff.rfl, fun _ _ _ _ => rfl⟩
    rw [okd_cal cal] at h0 ⊢
    obtain ⟨a, b⟩ := h' d hd h0
    refine ⟨(mo _).mpr a, fun e he => ?_⟩
    have ne : nmAt s e ≠ x := fun w => by
      have := nm_inj c (ok0_mem c he).1 pl (by rw [w, pn])
      have := (mem_ok0.mp he).1
      omega
    have eR : nmAt s e ∈ R := mem_rest (ok0_mem c he).2.2 ne
    have i1 := rot_idx c.ond eR
    by_cases dx : nmAt s d = x
    · rw [dx]; exact i1.2
    · have i2 := rot_idx c.ond (mem_rest a dx)
      have := b e he
      omega
  · have off := c.off
    have ul := off_lt off p0 pl
    have po : op0 os s (x :: R) (s.idxOf x) = true := by
      rw [op0_eq off pl, pe]
      unfold calB
      rw [pn, decide_eq_true xo]
      rfl
    have pU : s.idxOf x ∈ okd0 os s (x :: R) (os.getD (s.idxOf x - 1) 0) := mem_ok0.mpr ⟨p0, pl, rfl, po⟩
    generalize hp : s.idxOf x = p at *
    generalize hu : os.getD (p - 1) 0 = u at *
    have ule : u ≤ os.length := by omega
    have u0 : okd0 os s (x :: R) u ≠ [] := fun w => by rw [w] at pU; cases pU
    obtain ⟨ua, ub⟩ := h' u ule u0
    have cal : calB (callS os s x) (R ++ [x]) = calB s (x :: R) := funext fun d => by
      unfold calB
      refine decide_eq_decide.mpr ((mo _).trans ?_)
      by_cases d1 : d = p
      · rw [d1, m1, pn]; exact ⟨fun _ => xo, fun _ => ua⟩
      · by_cases d2 : d = u
        · rw [d2, m2]; exact ⟨fun _ => ua, fun _ => xo⟩
        · rw [m3 d d1 d2]
    have uno : op0 os s (x :: R) u = false := by
      rw [op0_eq off ule]
      have : (okd0 os s (x :: R) u).isEmpty = false := by simpa using u0
      rw [this, Bool.and_false]
    refine ⟨c2, (stF_iff c2).mpr fun d hd h0 => ?_, cal, fun d hd h0 z => ?_, fun k hk k0 k1 => ?_⟩
    · rw [okd_cal cal] at h0 ⊢
      obtain ⟨a, b⟩ := h' d hd h0
      by_cases du : d = u
      · subst du
        rw [m2]
        refine ⟨by simp, fun e he => ?_⟩
        have e2 := ok0_mem c he
        have eR : nmAt (callS os s x) e ∈ R := by
          by_cases ep : e = p
          · rw [ep, m1]
            refine mem_rest ua fun w => ?_
            have := nm_inj c ule pl (by rw [w, pn])
            omega
          · rw [m3 e ep e2.2.1]
            exact mem_rest e2.2.2 fun w => ep (nm_inj c e2.1 pl (by rw [w, pn]))
        exact (rot_idx c.ond eR).2
      · have dp : d ≠ p := fun w => by rw [w] at h0; exact h0 pe
        rw [m3 d dp du]
        have dx : nmAt s d ≠ x := fun w => dp (nm_inj c hd pl (by rw [w, pn]))
        refine ⟨(mo _).mpr a, fun e he => ?_⟩
        have e2 := ok0_mem c he
        have e3 := mem_ok0.mp he
        have ep : e ≠ p := fun w => by
          rw [w, hu] at e3
          exact du e3.2.2.1.symm
        have eu : e ≠ u := fun w => by rw [w, uno] at e3; cases e3.2.2.2
        rw [m3 e ep eu]
        have i1 := rot_idx c.ond (mem_rest e2.2.2 fun w => ep (nm_inj c e2.1 pl (by rw [w, pn])))
        have i2 := rot_idx c.ond (mem_rest a dx)
        have := b e he
        omega
    · by_cases du : d = u
      · subst du
        constructor
        · rintro ⟨k, hk, rfl⟩
          by_cases kp : k = p
          · exact ⟨d, .inl rfl, by rw [kp, m1]⟩
          · by_cases kd : k = d
            · exact ⟨p, .inr pU, by rw [kd, m2, pn]⟩
            · exact ⟨k, hk, (m3 k kp kd).symm⟩
        · rintro ⟨k, hk, rfl⟩
          by_cases kp : k = p
          · exact ⟨d, .inl rfl, by rw [kp, m2, pn]⟩
          · by_cases kd : k = d
            · exact ⟨p, .inr pU, by rw [kd, m1]⟩
            · exact ⟨k, hk, m3 k kp kd⟩
      · have same : ∀ k, (k = d ∨ k ∈ okd0 os s (x :: R) d) → nmAt (callS os s x) k = nmAt s k := fun k hk => by
          rcases hk with hk | hk
          · refine m3 k (fun w => ?_) (by rw [hk]; exact du)
            rw [← hk, w] at h0
            exact h0 pe
          · have e3 := mem_ok0.mp hk
            refine m3 k (fun w => ?_) fun w => ?_
            · rw [w, hu] at e3
              exact du e3.2.2.1.symm
            · rw [w, uno] at e3
              cases e3.2.2.2
        constructor
        · rintro ⟨k, hk, rfl⟩
          exact ⟨k, hk, (same k hk).symm⟩
        · rintro ⟨k, hk, rfl⟩
          exact ⟨k, hk, same k hk⟩
    · refine m3 k (fun w => ?_) fun w => ?_
      · rw [w] at k1
        rcases k1 with k1 | k1
        · rw [po] at k1; cases k1
        · omega
      · rw [w] at k0
        exact u0 k0
end
end Ds
end

section
set_option Elab.async false
set_option linter.all false
set_option maxRecDepth 100000
set_option maxHeartbeats 1000000
open PySem PySem.Spec PyProof.Rows L2
namespace Ds
/-! ### recurrent states: many calls, the order begun later; a whole day -/
section
variable {os : List Nat} {s s1 s2 o0 o1 o2 : List Str}
theorem Rot.refl (c : Case os s o0) (h : stF os s o0 0) : Rot os s o0 s o0 := ⟨c, h, rfl, fun _ _ _ _ => Iff.rfl, fun _ _ _ _ => rfl⟩
theorem Rot.trans (a : Rot os s o0 s1 o1) (b : Rot os s1 o1 s2 o2) : Rot os s o0 s2 o2 := by
  have e : ∀ d, okd0 os s1 o1 d = okd0 os s o0 d := fun d => okd_cal a.cal d
  have f : ∀ d, op0 os s1 o1 d = op0 os s o0 d := fun d => op_cal a.cal d
  refine ⟨b.cs, b.st, b.cal.trans a.cal, fun d hd h z => ?_, fun k hk h1 h2 => ?_⟩
  · have := b.grp d hd (by rw [e]; exact h) z
    rw [e] at this
    exact this.trans (a.grp d hd h z)
  · rw [b.rest k hk (by rw [e]; exact h1) (by rw [f]; exact h2)]
    exact a.rest k hk h1 h2
theorem rots : ∀ {A B s : List Str}, Case os s (A ++ B) → stF os s (A ++ B) 0 → Rot os s (A ++ B) (callsS os s A) (B ++ A)
  | [], B, s, c, h => by
    have r := Rot.refl c h
    rw [List.append_nil]
    exact r
  | x :: A, B, s, c, h => by
    have r := rot (R := A ++ B) c h
    have e1 : A ++ B ++ [x] = A ++ (B ++ [x]) := List.append_assoc _ _ _
    rw [e1] at r
    have r2 := rots (A := A) (B := B ++ [x]) r.cs r.st
    have e2 : B ++ [x] ++ A = B ++ x :: A := by rw [List.append_assoc]; rfl
    rw [e2] at r2
    exact r.trans r2
/-- a whole day -/
theorem rot_day (c : Case os s o0) (h : stF os s o0 0) : Rot os s o0 (callsS os s o0) o0 := by
  have r := rots (A := o0) (B := []) (by rw [List.append_nil]; exact c) (by rw [List.append_nil]; exact h)
  rw [List.append_nil, List.nil_append] at r
  exact r
theorem rot_days (c : Case os s o0) (h : stF os s o0 0) : ∀ k, Rot os s o0 (daysS os o0 k s) o0
  | 0 => Rot.refl c h
  | k + 1 => by
    have r := rot_days c h k
    rw [days_succ]
    exact r.trans (rot_day r.cs r.st)
end
end Ds
end

section
set_option Elab.async false
set_option linter.all false
set_option maxRecDepth 100000
set_option maxHeartbeats 1000000
open PySem PySem.Spec PyProof.Rows L2
namespace Ds
/-! ### two runs that meet -/
section
variable {os : List Nat} {s t ord R : List Str} {x y z : Str}
theorem seat_ext (c : Case os s ord) (d : Case os t ord) (h : ∀ k, k ≤ os.length → nmAt s k = nmAt t k) : s = t := by
  have h1 := c.len
  have h2 := d.len
  apply List.ext_getElem?
  intro i
  by_cases hi : i ≤ os.length
  · rw [nmAt_get (ss := s) (by omega), nmAt_get (ss := t) (by omega), h i hi]
  · rw [List.getElem?_eq_none (by omega), List.getElem?_eq_none (by omega)]
/-- where the first of the order sits in a recurrent state -/
theorem first_low (c : Case os s (x :: R)) (h : stF os s (x :: R) 0) : okd0 os s (x :: R) (s.idxOf x) = [] ∧ (0 < s.idxOf x → s.idxOf x ∈ okd0 os s (x :: R) (os.getD (s.idxOf x - 1) 0)) := by
  have xo : x ∈ x :: R := List.mem_cons_self
  have xs : x ∈ s := c.osub x xo
  have h' := (stF_iff c).mp h
  obtain ⟨pl, pn, mv⟩ := call_at c xs
  have pe : okd0 os s (x :: R) (s.idxOf x) = [] := by
    by_cases h0 : okd0 os s (x :: R) (s.idxOf x) = []
    · exact h0
    · obtain ⟨e1, m1⟩ := List.exists_mem_of_ne_nil _ h0
      have := (h' _ pl h0).2 e1 m1
      rw [pn, idx_at c.ond (i := 0) (y := x) rfl] at this
      omega
  refine ⟨pe, fun p0 => mem_ok0.mpr ⟨p0, pl, rfl, ?_⟩⟩
  rw [op0_eq c.off pl, pe]
  unfold calB
  rw [pn, decide_eq_true xo]
  rfl
theorem call_inj (c : Case os s (x :: R)) (d : Case os t (x :: R)) (h : stF os s (x :: R) 0) (g : stF os t (x :: R) 0) (e : callS os s x = callS os t x) : s = t := by
  have xo : x ∈ x :: R := List.mem_cons_self
  have r1 := rot c h
  have r2 := rot d g
  have cal : calB s (x :: R) = calB t (x :: R) := by rw [← r1.cal, ← r2.cal, e]
  have ek : ∀ k, okd0 os s (x :: R) k = okd0 os t (x :: R) k := fun k => okd_cal cal k
  obtain ⟨pl, pn, mv⟩ := call_at c (c.osub x xo)
  obtain ⟨ql, qn, mw⟩ := call_at d (d.osub x xo)
  have hs := (stF_iff c).mp h
  have ht := (stF_iff d).mp g
  have f1 := first_low c h
  have f2 := first_low d g
  -- x at desk 0 in one, below desk 0 in the other
  have clash : ∀ {a b : List Str}, Case os a (x :: R) → (∀ k, okd0 os a (x :: R) k = okd0 os b (x :: R) k) → (∀ k, k ≤ os.length → okd0 os a (x :: R) k ≠ [] → nmAt a k ∈ x :: R ∧ ∀ e ∈ okd0 os a (x :: R) k, (x :: R).idxOf (nmAt a e) < (x :: R).idxOf (nmAt a k)) → nmAt a 0 = x → b.idxOf x ∈ okd0 os b (x :: R) 0 → False := fun ca eq ha n0 m => by
    rw [← eq] at m
    have := (ha 0 (Nat.zero_le _) fun w => by rw [w] at m; cases m).2 _ m
    rw [n0, idx_at c.ond (i := 0) (y := x) rfl] at this
    omega
  rcases mv with ⟨p0, ex⟩ | ⟨p0, m1, m2, m3⟩
  · rcases mw with ⟨q0, ey⟩ | ⟨q0, n1, n2, n3⟩
    · rw [← ex, ← ey, e]
    · exfalso
      have ul := off_lt c.off q0 ql
      have : nmAt s (os.getD (t.idxOf x - 1) 0) = x := by rw [← ex, e, n2]
      have z : os.getD (t.idxOf x - 1) 0 = 0 := nm_inj c (by omega) (Nat.zero_le _) (by rw [this, ← pn, p0])
      have m := f2.2 q0
      rw [z] at m
      exact clash c ek hs (by rw [p0] at pn; exact pn) m
  · rcases mw with ⟨q0, ey⟩ | ⟨q0, n1, n2, n3⟩
    · exfalso
      have ul := off_lt c.off p0 pl
      have : nmAt t (os.getD (s.idxOf x - 1) 0) = x := by rw [← ey, ← e, m2]
      have z : os.getD (s.idxOf x - 1) 0 = 0 := nm_inj d (by omega) (Nat.zero_le _) (by rw [this, ← qn, q0])
      have m := f1.2 p0
      rw [z] at m
      exact clash d (fun k => (ek k).symm) ht (by rw [q0] at qn; exact qn) m
    · have u1 := off_lt c.off p0 pl
      have u2 := off_lt c.off q0 ql
      have mp := f1.2 p0
      have mq := f2.2 q0
      generalize hp : s.idxOf x = p at *
      generalize hq : t.idxOf x = q at *
      generalize hu : os.getD (p - 1) 0 = u at *
      generalize hv : os.getD (q - 1) 0 = v at *
      have uv : u = v := by
        have c1 := r1.cs
        refine nm_inj c1 (by omega) (by omega) ?_
        rw [m2, e, n2]
      subst uv
      have ne1 : okd0 os s (x :: R) u ≠ [] := fun w => by rw [w] at mp; cases mp
      have ne2 : okd0 os t (x :: R) u ≠ [] := fun w => by rw [w] at mq; cases mq
      have b1 := hs u (by omega) ne1
      have b2 := ht u (by omega) ne2
      have same : ∀ w, InG s (okd0 os s (x :: R) u) u w ↔ InG t (okd0 os t (x :: R) u) u w := fun w => by
        have a1 := r1.grp u (by omega) ne1 w
        have a2 := r2.grp u (by omega) ne2 w
        rw [e] at a1
        rw [← ek] at a2 ⊢
        exact a1.symm.trans a2
      have le : ∀ {a : List Str} {w : Str}, (∀ e ∈ okd0 os a (x :: R) u, (x :: R).idxOf (nmAt a e) < (x :: R).idxOf (nmAt a u)) → InG a (okd0 os a (x :: R) u) u w → (x :: R).idxOf w ≤ (x :: R).idxOf (nmAt a u) := fun ha hw => by
        obtain ⟨k, hk | hk, rfl⟩ := hw
        · rw [hk]; exact Nat.le_refl _
        · exact Nat.le_of_lt (ha k hk)
      have l1 := le b1.2 ((same _).mpr ⟨u, .inl rfl, rfl⟩)
      have l2 := le b2.2 ((same _).mp ⟨u, .inl rfl, rfl⟩)
      have eP : nmAt s u = nmAt t u := idx_inj b1.1 b2.1 (by omega)
      have pq : p = q := nm_inj r1.cs pl ql (by rw [m1, e, n1, eP])
      subst pq
      refine seat_ext c d fun k hk => ?_
      by_cases k1 : k = p
      · rw [k1, pn, qn]
      · by_cases k2 : k = u
        · rw [k2, eP]
        · rw [← m3 k k1 k2, e, n3 k k1 k2]
theorem calls_inj : ∀ {A B s t : List Str}, Case os s (A ++ B) → Case os t (A ++ B) → stF os s (A ++ B) 0 → stF os t (A ++ B) 0 → callsS os s A = callsS os t A → s = t
  | [], B, s, t, _, _, _, _, e => e
  | x :: A, B, s, t, c, d, h, g, e => by
    have r1 := rot (R := A ++ B) c h
    have r2 := rot (R := A ++ B) d g
    have e1 : A ++ B ++ [x] = A ++ (B ++ [x]) := List.append_assoc _ _ _
    rw [e1] at r1 r2
    exact call_inj (R := A ++ B) c d h g (calls_inj r1.cs r2.cs r1.st r2.st e)
/-- after how many calls both are equal for the first time -/
def meetF (os : List Nat) : List Str → List Str → List Str → Nat → Option Nat
  | [], _, _, _ => none
  | x :: xs, s, t, n => if callS os s x = callS os t x then some (n + 1) else meetF os xs (callS os s x) (callS os t x) (n + 1)
theorem meetF_app : ∀ {A B s t : List Str} {n : Nat}, meetF os (A ++ B) s t n = match meetF os A s t n with
    | some k => some k
    | none => meetF os B (callsS os s A) (callsS os t A) (n + A.length)
  | [], B, s, t, n => rfl
  | x :: A, B, s, t, n => by
    show (if callS os s x = callS os t x then some (n + 1) else meetF os (A ++ B) (callS os s x) (callS os t x) (n + 1)) = match (if callS os s x = callS os t x then some (n + 1) else meetF os A (callS os s x) (callS os t x) (n + 1)) with
      | some k => some k
      | none => meetF os B (callsS os (callS os s x) A) (callsS os (callS os t x) A) (n + (A.length + 1))
    by_cases h : callS os s x = callS os t x
    · rw [if_pos h, if_pos h]
    · rw [if_neg h, if_neg h, meetF_app, show n + 1 + A.length = n + (A.length + 1) by omega]
/-- equal ones stay equal -/
theorem meetF_none_ne : ∀ {A s t : List Str} {n : Nat}, s ≠ t → meetF os A s t n = none → callsS os s A ≠ callsS os t A
  | [], s, t, n, h, _ => h
  | x :: A, s, t, n, h, g => by
    change (if callS os s x = callS os t x then some (n + 1) else meetF os A (callS os s x) (callS os t x) (n + 1)) = none at g
    by_cases e : callS os s x = callS os t x
    · rw [if_pos e] at g; cases g
    · rw [if_neg e] at g
      exact meetF_none_ne (A := A) e g
theorem meetF_rot : ∀ {A B s t : List Str} {n : Nat}, Case os s (A ++ B) → Case os t (A ++ B) → stF os s (A ++ B) 0 → stF os t (A ++ B) 0 → s ≠ t → meetF os A s t n = none
  | [], B, s, t, n, _, _, _, _, _ => rfl
  | x :: A, B, s, t, n, c, d, h, g, e => by
    have r1 := rot (R := A ++ B) c h
    have r2 := rot (R := A ++ B) d g
    have e1 : A ++ B ++ [x] = A ++ (B ++ [x]) := List.append_assoc _ _ _
    have ne : callS os s x ≠ callS os t x := fun w => e (call_inj (R := A ++ B) c d h g w)
    rw [e1] at r1 r2
    show (if callS os s x = callS os t x then some (n + 1) else meetF os A (callS os s x) (callS os t x) (n + 1)) = none
    rw [if_neg ne]
    exact meetF_rot r1.cs r2.cs r1.st r2.st ne
/-- the calls of so many days -/
def repO (ord : List Str) : Nat → List Str
  | 0 => []
  | k + 1 => ord ++ repO ord k
theorem repO_len : ∀ k, (repO ord k).length = k * ord.length
  | 0 => by simp [repO]
  | k + 1 => by rw [repO, List.length_append, repO_len k, Nat.add_mul]; omega
theorem repO_sub : ∀ k, ∀ z ∈ repO ord k, z ∈ ord
  | 0, z, h => by cases h
  | k + 1, z, h => (List.mem_append.mp h).elim id (repO_sub k z)
theorem repO_add : ∀ a b, repO ord (a + b) = repO ord a ++ repO ord b
  | 0, b => by rw [Nat.zero_add]; rfl
  | a + 1, b => by rw [Nat.add_right_comm, repO, repO, repO_add a b, List.append_assoc]
theorem calls_app {A B s : List Str} : callsS os s (A ++ B) = callsS os (callsS os s A) B := List.foldl_append
theorem calls_rep : ∀ k s, callsS os s (repO ord k) = daysS os ord k s
  | 0, s => rfl
  | k + 1, s => by
    rw [repO, calls_app, calls_rep k]
    rfl
theorem meetF_days : ∀ (k : Nat) {s t : List Str} (n : Nat), Case os s ord → Case os t ord → stF os s ord 0 → stF os t ord 0 → s ≠ t → meetF os (repO ord k) s t n = none
  | 0, s, t, n, _, _, _, _, _ => rfl
  | k + 1, s, t, n, c, d, h, g, e => by
    have ca : Case os s (ord ++ []) := by rw [List.append_nil]; exact c
    have cb : Case os t (ord ++ []) := by rw [List.append_nil]; exact d
    have ha : stF os s (ord ++ []) 0 := by rw [List.append_nil]; exact h
    have hb : stF os t (ord ++ []) 0 := by rw [List.append_nil]; exact g
    have m0 := meetF_rot (n := n) ca cb ha hb e
    rw [repO, meetF_app, m0]
    exact meetF_days k _ (rot_day c h).cs (rot_day d g).cs (rot_day c h).st (rot_day d g).st (meetF_none_ne e m0)
theorem st_more (c : Case os s ord) {k : Nat} (h : settledB os (daysS os ord k s) ord = true) : ∀ j, stF os (daysS os ord (k + j) s) ord 0
  | 0 => settledB_iff.mp h
  | j + 1 => by
    have := st_more c h j
    rw [show k + (j + 1) = k + j + 1 by omega, days_succ]
    have r := rot_day (c.days (k + j)) this
    exact r.st
/-- going on changes nothing more -/
theorem meetF_more (c : Case os s ord) (d : Case os t ord) (e : s ≠ t) {k l : Nat} (h : settledB os (daysS os ord k s) ord = true) (g : settledB os (daysS os ord l t) ord = true) (j : Nat) :
    meetF os (repO ord (max k l + j)) s t 0 = meetF os (repO ord (max k l)) s t 0 := by
  rw [repO_add, meetF_app]
  cases q : meetF os (repO ord (max k l)) s t 0 with
  | some v => rfl
  | none =>
    show meetF os (repO ord j) (callsS os s (repO ord (max k l))) (callsS os t (repO ord (max k l))) _ = none
    have ne := meetF_none_ne e q
    rw [calls_rep, calls_rep] at ne ⊢
    have h1 := st_more c h (max k l - k)
    have h2 := st_more d g (max k l - l)
    rw [show k + (max k l - k) = max k l by omega] at h1
    rw [show l + (max k l - l) = max k l by omega] at h2
    exact meetF_days j _ (c.days _) (d.days _) h1 h2 ne
end
end Ds
end

section
set_option Elab.async false
set_option linter.all false
set_option maxRecDepth 100000
set_option maxHeartbeats 1000000
open PySem PySem.Spec PyProof.Rows L2
namespace Ds
/-! ### how a group turns -/
section
variable {α : Type}
def rot1 : List α → List α
  | [] => []
  | x :: t => t ++ [x]
theorem rot1_len (l : List α) : (rot1 l).length = l.length := by cases l <;> simp [rot1]
theorem rot1_get {l : List α} {j : Nat} (h : j < l.length) : (rot1 l)[j]? = l[(j + 1) % l.length]? := by
  match l, h with
  | x :: t, h =>
    rw [List.length_cons] at h ⊢
    show (t ++ [x])[j]? = _
    by_cases c : j < t.length
    · rw [List.getElem?_append_left c, Nat.mod_eq_of_lt (by omega), List.getElem?_cons_succ]
    · have e : j = t.length := by omega
      rw [e, List.getElem?_append_right (Nat.le_refl _), Nat.mod_self, Nat.sub_self]
      rfl
def rotI : Nat → List α → List α
  | 0, l => l
  | k + 1, l => rotI k (rot1 l)
theorem rotI_len : ∀ (k : Nat) (l : List α), (rotI k l).length = l.length
  | 0, _ => rfl
  | k + 1, l => by rw [rotI, rotI_len k, rot1_len]
theorem rotI_get : ∀ {k : Nat} {l : List α} {j : Nat}, j < l.length → (rotI k l)[j]? = l[(j + k) % l.length]?
  | 0, l, j, h => by rw [rotI, Nat.add_zero, Nat.mod_eq_of_lt h]
  | k + 1, l, j, h => by
    rw [rotI, rotI_get (by rw [rot1_len]; exact h), rot1_len, rot1_get (Nat.mod_lt _ (by omega)), Nat.mod_add_mod, Nat.add_assoc]
theorem rotI_add : ∀ (a b : Nat) (l : List α), rotI (a + b) l = rotI b (rotI a l)
  | 0, b, l => by rw [Nat.zero_add]; rfl
  | a + 1, b, l => by rw [Nat.add_right_comm]; exact rotI_add a b (rot1 l)
theorem rotI_self (l : List α) : rotI l.length l = l := by
  apply List.ext_getElem?
  intro i
  by_cases h : i < l.length
  · rw [rotI_get h, Nat.add_mod_right, Nat.mod_eq_of_lt h]
  · rw [List.getElem?_eq_none (by rw [rotI_len]; omega), List.getElem?_eq_none (by omega)]
theorem rotI_mul (l : List α) : ∀ k, rotI (k * (l.length + 1)) l = rotI k l
  | 0 => by rw [Nat.zero_mul]
  | k + 1 => by
    rw [Nat.add_mul, Nat.one_mul, rotI_add, rotI_mul l k, rotI_add, show l.length = (rotI k l).length from (rotI_len k l).symm, rotI_self, ← rotI_add]
end
section
variable {os : List Nat} {s ord R o : List Str} {x y z : Str} {d : Nat}
/-- the persons at the lower desks, in the order -/
def lowP (os : List Nat) (s o : List Str) (d : Nat) : List Str := (okd0 os s o d).map (nmAt s)
def lowN (os : List Nat) (s o : List Str) (d : Nat) : List Str := o.filter fun n => decide (n ∈ lowP os s o d)
/-- their desks -/
def lowE (os : List Nat) (s o : List Str) (d : Nat) : List Nat := (lowN os s o d).map s.idxOf
theorem mem_lowP : z ∈ lowP os s o d ↔ ∃ k ∈ okd0 os s o d, nmAt s k = z := by
  unfold lowP
  rw [List.mem_map]
theorem inG_iff : InG s (okd0 os s o d) d z ↔ z = nmAt s d ∨ z ∈ lowP os s o d := by
  rw [mem_lowP]
  constructor
  · rintro ⟨k, hk | hk, h⟩
    · exact .inl (by rw [← h, hk])
    · exact .inr ⟨k, hk, h⟩
  · rintro (h | ⟨k, hk, h⟩)
    · exact ⟨d, .inl rfl, h.symm⟩
    · exact ⟨k, .inr hk, h⟩
def inB (os : List Nat) (s o : List Str) (d : Nat) (z : Str) : Bool := decide (z ∈ (d :: okd0 os s o d).map (nmAt s))
theorem inB_iff : inB os s o d z = true ↔ InG s (okd0 os s o d) d z := by
  unfold inB
  rw [decide_eq_true_eq, List.map_cons, List.mem_cons, inG_iff]
  rfl
/-- the center's person is called last -/
theorem low_lt (c : Case os s o) (h : stF os s o 0) (hd : d ≤ os.length) (hz : z ∈ lowP os s o d) : z ∈ o ∧ o.idxOf z < o.idxOf (nmAt s d) ∧ nmAt s d ∈ o := by
  obtain ⟨k, hk, rfl⟩ := mem_lowP.mp hz
  have := ((stF_iff c).mp h) d hd fun w => by rw [w] at hk; cases hk
  exact ⟨(ok0_mem c hk).2.2, this.2 k hk, this.1⟩
theorem filter_none {p : Str → Bool} {l : List Str} (h : ∀ z ∈ l, p z = false) : l.filter p = [] := List.filter_eq_nil_iff.mpr fun z hz => by rw [h z hz]; decide
theorem filter_same {p q : Str → Bool} {l : List Str} (h : ∀ z ∈ l, p z = q z) : l.filter p = l.filter q := List.filter_congr fun z hz => h z hz
/-- the names of a group: those below, then the center's -/
theorem split_at {l : List Str} {y : Str} (hn : l.Nodup) (hy : y ∈ l) : ∃ A B, l = A ++ y :: B ∧ y ∉ A ∧ y ∉ B := by
  obtain ⟨A, B, e⟩ := List.append_of_mem hy
  refine ⟨A, B, e, fun m => ?_, fun m => ?_⟩
  · rw [e] at hn
    exact (List.nodup_append.mp hn).2.2 y m y List.mem_cons_self rfl
  · rw [e] at hn
    exact (List.nodup_cons.mp (List.nodup_append.mp hn).2.1).1 m
theorem grp_names (c : Case os s o) (h : stF os s o 0) (hd : d ≤ os.length) (h0 : okd0 os s o d ≠ []) :
    (o.filter fun n => decide (n ∈ (d :: okd0 os s o d).map (nmAt s))) = lowN os s o d ++ [nmAt s d] := by
  have hc := ((stF_iff c).mp h d hd h0).1
  obtain ⟨A, B, e, nA, nB⟩ := split_at c.ond hc
  have out : ∀ z ∈ B, z ∉ lowP os s o d := fun z hz m => by
    have := (low_lt c h hd m).2.1
    obtain ⟨i, hi⟩ := List.getElem?_of_mem hz
    have lt := (List.getElem?_eq_some_iff.mp hi).1
    have e1 : o.idxOf z = A.length + (i + 1) := idx_at c.ond (by rw [e, List.getElem?_append_right (by omega), Nat.add_sub_cancel_left, List.getElem?_cons_succ]; exact hi)
    have e2 : o.idxOf (nmAt s d) = A.length := idx_at c.ond (by rw [e, List.getElem?_append_right (Nat.le_refl _), Nat.sub_self]; rfl)
    omega
  have no : nmAt s d ∉ lowP os s o d := fun m => by have := (low_lt c h hd m).2.1; omega
  have key : ∀ z, z ≠ nmAt s d → (decide (z ∈ (d :: okd0 os s o d).map (nmAt s)) = decide (z ∈ lowP os s o d)) := fun z hz => by
    refine decide_eq_decide.mpr ?_
    rw [List.map_cons, List.mem_cons]
    exact ⟨fun m => m.resolve_left hz, .inr⟩
  have two : ∀ p q : Str → Bool, (∀ z, z ≠ nmAt s d → p z = q z) → p (nmAt s d) = true → q (nmAt s d) = false → (∀ z ∈ B, q z = false) → o.filter p = o.filter q ++ [nmAt s d] := fun p q h1 h2 h3 h4 => by
    rw [e, List.filter_append, List.filter_append, List.filter_cons, List.filter_cons, if_pos h2, if_neg (by rw [h3]; decide), filter_same (l := A) (q := q) fun z hz => h1 z fun w => nA (w ▸ hz), filter_none (l := B) (p := p) fun z hz => by rw [h1 z fun w => nB (w ▸ hz)]; exact h4 z hz, filter_none (l := B) (p := q) h4, List.append_nil]
  exact two _ _ key (by simp) (decide_eq_false no) fun z hz => decide_eq_false (out z hz)
theorem lowN_mem : z ∈ lowN os s o d ↔ z ∈ o ∧ z ∈ lowP os s o d := by
  unfold lowN
  rw [List.mem_filter, decide_eq_true_eq]
theorem nm_sub (c : Case os s o) {k : Nat} (hk : k ≤ os.length) : s.idxOf (nmAt s k) = k := idx_nm c.nd (by have := c.len; omega)
theorem lowE_perm (c : Case os s o) : (lowE os s o d).Perm (okd0 os s o d) := by
  have hle : ∀ k ∈ okd0 os s o d, k ≤ os.length := fun k hk => (ok0_mem c hk).1
  refine (List.perm_ext_iff_of_nodup ?_ ?_).mpr fun k => ?_
  · unfold lowE lowN
    refine List.Pairwise.map _ (R := fun a b => a ∈ s ∧ b ∈ s ∧ a ≠ b) (fun a b hab e => hab.2.2 (idx_inj hab.1 hab.2.1 e)) ?_
    have := (c.ond.sublist (List.filter_sublist (p := fun n => decide (n ∈ lowP os s o d)) (l := o)))
    refine List.Pairwise.imp_of_mem (fun {a b} ha hb hab => ⟨c.osub a (List.mem_filter.mp ha).1, c.osub b (List.mem_filter.mp hb).1, hab⟩) this
  · exact List.Pairwise.imp (fun h => Nat.ne_of_lt h) okd_sorted
  · unfold lowE
    rw [List.mem_map]
    constructor
    · rintro ⟨y, hy, rfl⟩
      obtain ⟨j, hj, rfl⟩ := mem_lowP.mp (lowN_mem.mp hy).2
      rw [nm_sub c (hle j hj)]
      exact hj
    · intro hk
      exact ⟨nmAt s k, lowN_mem.mpr ⟨(ok0_mem c hk).2.2, mem_lowP.mpr ⟨k, hk, rfl⟩⟩, nm_sub c (hle k hk)⟩
theorem lowN_len (c : Case os s o) : (lowN os s o d).length = (okd0 os s o d).length := by
  have := (lowE_perm c (d := d)).length_eq
  unfold lowE at this
  rw [List.length_map] at this
  exact this
/-- one call: the called one's group turns by one, the others stay -/
theorem lowE_call (c : Case os s (x :: R)) (h : stF os s (x :: R) 0) (hd : d ≤ os.length) (h0 : okd0 os s (x :: R) d ≠ []) :
    lowE os (callS os s x) (R ++ [x]) d = if inB os s (x :: R) d x = true then rot1 (lowE os s (x :: R) d) else lowE os s (x :: R) d := by
  have xo : x ∈ x :: R := List.mem_cons_self
  have xs : x ∈ s := c.osub x xo
  have r := rot c h
  have ek : ∀ k, okd0 os (callS os s x) (R ++ [x]) k = okd0 os s (x :: R) k := fun k => okd_cal r.cal k
  have hs := (stF_iff c).mp h
  have xR : x ∉ R := (List.nodup_cons.mp c.ond).1
  obtain ⟨pl, pn, mv⟩ := call_at c xs
  have fl := first_low c h
  have hle : ∀ {k j : Nat}, k ∈ okd0 os s (x :: R) j → k ≤ os.length := fun hk => (ok0_mem c hk).1
  -- the called one is no center
  have nc : x ≠ nmAt s d := fun w => by
    have := nm_inj c pl hd (by rw [pn, w])
    rw [this] at fl
    exact h0 fl.1
  have stay : (∀ k, k = d ∨ k ∈ okd0 os s (x :: R) d → nmAt (callS os s x) k = nmAt s k) → ¬ InG s (okd0 os s (x :: R) d) d x → lowE os (callS os s x) (R ++ [x]) d = lowE os s (x :: R) d := fun same no => by
    have eP : lowP os (callS os s x) (R ++ [x]) d = lowP os s (x :: R) d := by
      unfold lowP
      rw [ek]
      exact List.map_congr_left fun k hk => same k (.inr hk)
    have xl : x ∉ lowP os s (x :: R) d := fun m => no (inG_iff.mpr (.inr m))
    have eN : lowN os (callS os s x) (R ++ [x]) d = lowN os s (x :: R) d := by
      unfold lowN
      rw [eP, List.filter_append, List.filter_cons, List.filter_cons, if_neg (by rw [decide_eq_true_eq]; exact xl), if_neg (by rw [decide_eq_true_eq]; exact xl), List.filter_nil, List.append_nil]
    unfold lowE
    rw [eN]
    refine List.map_congr_left fun z hz => ?_
    obtain ⟨k, hk, rfl⟩ := mem_lowP.mp (lowN_mem.mp hz).2
    have := nm_sub r.cs (hle hk)
    rw [same k (.inr hk)] at this
    rw [this, nm_sub c (hle hk)]
  rcases mv with ⟨p0, ex⟩ | ⟨p0, m1, m2, m3⟩
  · have no : ¬ InG s (okd0 os s (x :: R) d) d x := fun g => by
      rcases inG_iff.mp g with w | w
      · exact nc w
      · obtain ⟨k, hk, e⟩ := mem_lowP.mp w
        have := nm_inj c (hle hk) pl (by rw [e, pn])
        have := (mem_ok0.mp hk).1
        omega
    rw [if_neg fun w => no (inB_iff.mp w)]
    exact stay (fun k _ => by rw [ex]) no
  · have mp := fl.2 p0
    have ul := off_lt c.off p0 pl
    generalize hp : s.idxOf x = p at *
    generalize hu : os.getD (p - 1) 0 = u at *
    by_cases du : d = u
    · subst du
      have g : InG s (okd0 os s (x :: R) d) d x := ⟨p, .inr mp, pn⟩
      rw [if_pos (inB_iff.mpr g)]
      have no : nmAt s d ∉ lowP os s (x :: R) d := fun m => by have := (low_lt c h hd m).2.1; omega
      have eP : ∀ z, z ∈ lowP os (callS os s x) (R ++ [x]) d ↔ (z ≠ x ∧ z ∈ lowP os s (x :: R) d) ∨ z = nmAt s d := fun z => by
        rw [mem_lowP, mem_lowP, ek]
        constructor
        · rintro ⟨k, hk, rfl⟩
          by_cases kp : k = p
          · exact .inr (by rw [kp, m1])
          · have kd : k ≠ d := (ok0_mem c hk).2.1
            rw [m3 k kp kd]
            exact .inl ⟨fun w => kp (nm_inj c (hle hk) pl (by rw [w, pn])), k, hk, rfl⟩
        · rintro (⟨h1, k, hk, rfl⟩ | rfl)
          · exact ⟨k, hk, m3 k (fun w => h1 (by rw [w, pn])) (ok0_mem c hk).2.1⟩
          · exact ⟨p, mp, m1⟩
      have hR : nmAt s d ∈ R := mem_rest (hs d hd h0).1 fun w => nc w.symm
      obtain ⟨A, B, e, nA, nB⟩ := split_at (List.nodup_cons.mp c.ond).2 hR
      have out : ∀ z ∈ B, z ∉ lowP os s (x :: R) d := fun z hz m => by
        have := (low_lt c h hd m).2.1
        obtain ⟨i, hi⟩ := List.getElem?_of_mem hz
        have lt := (List.getElem?_eq_some_iff.mp hi).1
        have e1 : (x :: R).idxOf z = A.length + (i + 1) + 1 := idx_at c.ond (by rw [e, List.getElem?_cons_succ, List.getElem?_append_right (by omega), Nat.add_sub_cancel_left, List.getElem?_cons_succ]; exact hi)
        have e2 : (x :: R).idxOf (nmAt s d) = A.length + 1 := idx_at c.ond (by rw [e, List.getElem?_cons_succ, List.getElem?_append_right (Nat.le_refl _), Nat.sub_self]; rfl)
        omega
      have xl : x ∈ lowP os s (x :: R) d := mem_lowP.mpr ⟨p, mp, pn⟩
      have fA : ∀ z ∈ A, decide (z ∈ lowP os (callS os s x) (R ++ [x]) d) = decide (z ∈ lowP os s (x :: R) d) := fun z hz => decide_eq_decide.mpr ((eP z).trans ⟨fun w => w.elim (·.2) fun w => absurd (w ▸ hz) nA, fun w => .inl ⟨fun v => xR (by rw [e, ← v]; exact List.mem_append_left _ hz), w⟩⟩)
      have l1 : lowN os s (x :: R) d = x :: (A.filter fun n => decide (n ∈ lowP os s (x :: R) d)) := by
        unfold lowN
        rw [List.filter_cons, if_pos (by rw [decide_eq_true_eq]; exact xl), e, List.filter_append, List.filter_cons, if_neg (by rw [decide_eq_true_eq, ← e]; exact no), filter_none (l := B) fun z hz => decide_eq_false (by rw [← e]; exact out z hz), List.append_nil]
      have l2 : lowN os (callS os s x) (R ++ [x]) d = (A.filter fun n => decide (n ∈ lowP os s (x :: R) d)) ++ [nmAt s d] := by
        have fx : decide (x ∈ lowP os (callS os s x) (R ++ [x]) d) = false := decide_eq_false fun w => ((eP x).mp w).elim (fun w => w.1 rfl) nc
        have fB : B.filter (fun n => decide (n ∈ lowP os (callS os s x) (R ++ [x]) d)) = [] := filter_none fun z hz => decide_eq_false fun w => ((eP z).mp w).elim (fun w => out z hz w.2) fun w => nB (w ▸ hz)
        show (R ++ [x]).filter (fun n => decide (n ∈ lowP os (callS os s x) (R ++ [x]) d)) = _
        rw [List.filter_append, List.filter_cons, fx, if_neg (by decide), List.filter_nil, List.append_nil]
        conv => lhs; arg 2; rw [e]
        rw [List.filter_append, List.filter_cons, if_pos (by rw [decide_eq_true_eq]; exact (eP _).mpr (.inr rfl)), fB, filter_same fA]
      unfold lowE
      rw [l1, l2, List.map_append, List.map_cons]
      show _ = List.map s.idxOf _ ++ [s.idxOf x]
      congr 1
      · refine List.map_congr_left fun z hz => ?_
        rw [List.mem_filter, decide_eq_true_eq] at hz
        obtain ⟨k, hk, rfl⟩ := mem_lowP.mp hz.2
        have kp : k ≠ p := fun w => xR (by rw [e, ← pn, ← w]; exact List.mem_append_left _ hz.1)
        have := nm_sub r.cs (hle hk)
        rw [m3 k kp (ok0_mem c hk).2.1] at this
        rw [this, nm_sub c (hle hk)]
      · have := nm_sub r.cs pl
        rw [m1] at this
        rw [this, hp]
        rfl
    · have same : ∀ k, (k = d ∨ k ∈ okd0 os s (x :: R) d) → nmAt (callS os s x) k = nmAt s k := fun k hk => by
        have uno : op0 os s (x :: R) u = false := by
          rw [op0_eq c.off (by omega)]
          have u0 : okd0 os s (x :: R) u ≠ [] := fun w => by rw [w] at mp; cases mp
          have : (okd0 os s (x :: R) u).isEmpty = false := by simpa using u0
          rw [this, Bool.and_false]
        rcases hk with hk | hk
        · refine m3 k (fun w => ?_) (by rw [hk]; exact du)
          rw [← hk, w] at h0
          exact h0 fl.1
        · have e3 := mem_ok0.mp hk
          refine m3 k (fun w => ?_) fun w => ?_
          · rw [w, hu] at e3
            exact du e3.2.2.1.symm
          · rw [w, uno] at e3
            cases e3.2.2.2
      have no : ¬ InG s (okd0 os s (x :: R) d) d x := fun g => by
        rcases inG_iff.mp g with w | w
        · exact nc w
        · obtain ⟨k, hk, e⟩ := mem_lowP.mp w
          have kp := nm_inj c (hle hk) pl (by rw [e, pn])
          have := (mem_ok0.mp hk).2.2.1
          rw [kp, hu] at this
          exact du this.symm
      rw [if_neg fun w => no (inB_iff.mp w)]
      exact stay same no
theorem inB_of {s' o' : List Str} (h : ∀ w, InG s' (okd0 os s' o' d) d w ↔ InG s (okd0 os s o d) d w) (w : Str) : inB os s' o' d w = inB os s o d w := by
  rw [Bool.eq_iff_iff, inB_iff, inB_iff]
  exact h w
theorem Rot.inB {s' o' : List Str} (r : Rot os s o s' o') (hd : d ≤ os.length) (h0 : okd0 os s o d ≠ []) (w : Str) : inB os s' o' d w = inB os s o d w :=
  inB_of (fun w => by rw [okd_cal r.cal]; exact r.grp d hd h0 w) w
theorem lowE_calls : ∀ {A B s : List Str}, Case os s (A ++ B) → stF os s (A ++ B) 0 → d ≤ os.length → okd0 os s (A ++ B) d ≠ [] → lowE os (callsS os s A) (B ++ A) d = rotI (A.countP (inB os s (A ++ B) d)) (lowE os s (A ++ B) d)
  | [], B, s, c, h, hd, h0 => by rw [List.append_nil]; rfl
  | x :: A, B, s, c, h, hd, h0 => by
    have r := rot (R := A ++ B) c h
    have e1 : A ++ B ++ [x] = A ++ (B ++ [x]) := List.append_assoc _ _ _
    have e2 : B ++ [x] ++ A = B ++ x :: A := by rw [List.append_assoc]; rfl
    have l1 := lowE_call (R := A ++ B) c h hd h0
    have ib := fun w => r.inB hd h0 w
    rw [e1] at r l1
    have k0 : okd0 os (callS os s x) (A ++ (B ++ [x])) d ≠ [] := by rw [okd_cal r.cal]; exact h0
    have ih := lowE_calls (A := A) (B := B ++ [x]) r.cs r.st hd k0
    rw [e2] at ih
    show lowE os (callsS os (callS os s x) A) (B ++ x :: A) d = _
    rw [ih, l1]
    have ec : A.countP (inB os (callS os s x) (A ++ (B ++ [x])) d) = A.countP (inB os s (x :: A ++ B) d) := List.countP_congr fun w _ => by
      have := ib w
      rw [e1] at this
      rw [this]
      exact Iff.rfl
    rw [ec, List.countP_cons]
    show rotI _ (if inB os s (x :: A ++ B) d x = true then rot1 (lowE os s (x :: A ++ B) d) else lowE os s (x :: A ++ B) d) = _
    by_cases g : inB os s (x :: A ++ B) d x = true
    · rw [if_pos g, if_pos g, ← rotI]
    · rw [if_neg g, if_neg g, Nat.add_zero]
theorem cnt_grp (c : Case os s o) (h : stF os s o 0) (hd : d ≤ os.length) (h0 : okd0 os s o d ≠ []) : o.countP (inB os s o d) = (lowE os s o d).length + 1 := by
  rw [List.countP_eq_length_filter]
  show (o.filter fun n => decide (n ∈ (d :: okd0 os s o d).map (nmAt s))).length = _
  rw [grp_names c h hd h0, List.length_append, lowE, List.length_map]
  rfl
theorem lowE_day (c : Case os s o) (h : stF os s o 0) (hd : d ≤ os.length) (h0 : okd0 os s o d ≠ []) : lowE os (callsS os s o) o d = rot1 (lowE os s o d) := by
  have e := lowE_calls (A := o) (B := []) (s := s) (d := d) (by rw [List.append_nil]; exact c) (by rw [List.append_nil]; exact h) hd (by rw [List.append_nil]; exact h0)
  rw [List.append_nil, List.nil_append, cnt_grp c h hd h0, rotI_add, rotI_self] at e
  exact e
theorem lowE_days (c : Case os s o) (h : stF os s o 0) (hd : d ≤ os.length) (h0 : okd0 os s o d ≠ []) : ∀ k, lowE os (daysS os o k s) o d = rotI k (lowE os s o d)
  | 0 => rfl
  | k + 1 => by
    have r := rot_days c h k
    rw [days_succ, lowE_day r.cs r.st hd (by rw [okd_cal r.cal]; exact h0), lowE_days c h hd h0 k, show k + 1 = k + 1 from rfl, rotI_add]
    rfl
/-- the names of a group stay -/
theorem grp_stay {s' : List Str} (r : Rot os s o s' o) (hd : d ≤ os.length) (h0 : okd0 os s o d ≠ []) : (o.filter fun n => decide (n ∈ (d :: okd0 os s' o d).map (nmAt s'))) = o.filter fun n => decide (n ∈ (d :: okd0 os s o d).map (nmAt s)) :=
  List.filter_congr fun z _ => r.inB hd h0 z
theorem low_stay {s' : List Str} (c : Case os s o) (h : stF os s o 0) (r : Rot os s o s' o) (hd : d ≤ os.length) (h0 : okd0 os s o d ≠ []) : lowN os s' o d = lowN os s o d ∧ nmAt s' d = nmAt s d := by
  have e := grp_stay r hd h0
  rw [grp_names r.cs r.st hd (by rw [okd_cal r.cal]; exact h0), grp_names c h hd h0] at e
  exact ⟨(List.append_inj' e rfl).1, by have := (List.append_inj' e rfl).2; simpa using this⟩
/-- where everybody is, days later -/
theorem turn_low (c : Case os s o) (h : stF os s o 0) (hd : d ≤ os.length) (h0 : okd0 os s o d ≠ []) (k : Nat) {i : Nat} {z w : Str} (hz : (lowN os s o d)[i]? = some z) (hw : (lowN os s o d)[(i + k) % (lowN os s o d).length]? = some w) : (daysS os o k s).idxOf z = s.idxOf w := by
  have r := rot_days c h k
  have hl : i < (lowN os s o d).length := (List.getElem?_eq_some_iff.mp hz).1
  have e := lowE_days c h hd h0 k
  have e2 : lowE os (daysS os o k s) o d = (lowN os s o d).map (daysS os o k s).idxOf := by
    unfold lowE
    rw [(low_stay c h r hd h0).1]
  have l1 : (lowE os s o d).length = (lowN os s o d).length := by unfold lowE; rw [List.length_map]
  have g1 : (rotI k (lowE os s o d))[i]? = some ((daysS os o k s).idxOf z) := by rw [← e, e2, List.getElem?_map, hz]; rfl
  rw [rotI_get (by rw [l1]; exact hl), l1] at g1
  unfold lowE at g1
  rw [List.getElem?_map, hw] at g1
  exact (Option.some.inj g1).symm
theorem turn_center (c : Case os s o) (h : stF os s o 0) (hd : d ≤ os.length) (h0 : okd0 os s o d ≠ []) (k : Nat) : nmAt (daysS os o k s) d = nmAt s d := (low_stay c h (rot_days c h k) hd h0).2
theorem turn_rest (c : Case os s o) (h : stF os s o 0) {k : Nat} (hk : k ≤ os.length) (h0 : okd0 os s o k = []) (h1 : op0 os s o k = false ∨ k = 0) (n : Nat) : nmAt (daysS os o n s) k = nmAt s k := (rot_days c h n).rest k hk h0 h1
end
end Ds
end

section
set_option Elab.async false
set_option linter.all false
set_option maxRecDepth 100000
set_option maxHeartbeats 1000000
open PySem PySem.Spec PyProof.Rows L2
namespace Ds
/-! ### carry_out -/
def rowS (os : List Nat) (ss : List Str) (s : Str) : PyData :=
  .tuple [.str s, .int (ss.idxOf s : Nat), if 0 < ss.idxOf s then .str (nmAt ss (os.getD (ss.idxOf s - 1) 0)) else .none]
def rowsS (os : List Nat) : List Str → List Str → List PyData
  | _, [] => []
  | ss, s :: names => rowS os ss s :: rowsS os (callS os ss s) names
def q_co1 : SS := sSet 6 (sLixV 3 (sVar 5))
def q_co2 : SS := sSet 7 (sK .none)
def q_co3 : SS := sSet 8 (sBin gIx (sVar 0) (sBin gSub_ (sVar 6) (sK (.int 1))))
def q_co4 : SS := sSet 7 (sIxV 3 (sVar 8))
def q_co5 : SS := sSetIx 3 (sVar 8) (sVar 5)
def q_co6 : SS := sSetIx 3 (sVar 6) (sVar 7)
def q_co7 : SS := sIf (sTst (sBin gGt (sVar 6) (sK (.int 0)))) (sSeq q_co3 (sSeq q_co4 (sSeq q_co5 q_co6))) sNx
def q_co8 : SS := sDrop (sAppend 4 (sTup (sCons (sVar 5) (sCons (sVar 6) (sCons (sVar 7) sNil)))))
def q_co : SS := sSeq q_co1 (sSeq q_co2 (sSeq q_co7 q_co8))
theorem c_co_eq : c_carry_out = sSeq (sSetNew 3 (sListN (sCons (sVar 1) sNil))) (sSeq (sSetNew 4 (sLst sNil)) (sSeq (sFor (sISq (sVar 2)) (gNm 5) q_co) (sFrz 4 (sRet (sTup (sCons (sRd lTup (sLVar 3)) (sCons (sVar 4) sNil))))))) := rfl
theorem t_co1 {l : List PyData} {x d : PyData} {s0 s1 s2 s4 x6 x7 x8 : Sl} (e : gLIx l x = some d) (b6 : bare (some x6) = true) : q_co1 [s0, s1, s2, .own l, s4, .val x, x6, x7, x8] = .nx [s0, s1, s2, .own l, s4, .val x, .val d, x7, x8] := by
  simp [q_co1, e, noio_bare b6]
theorem t_co2 {s0 s1 s2 s3 s4 x5 x6 x7 x8 : Sl} (b7 : bare (some x7) = true) : q_co2 [s0, s1, s2, s3, s4, x5, x6, x7, x8] = .nx [s0, s1, s2, s3, s4, x5, x6, .val .none, x8] := by
  simp [q_co2, noio_bare b7]
theorem t_co3 {o : List PyData} {d u : Int} {s1 s2 s3 s4 x5 x7 x8 : Sl} (e : atI o (d - 1) = some (.int u)) (b8 : bare (some x8) = true) : q_co3 [.val (.tuple o), s1, s2, s3, s4, x5, .val (.int d), x7, x8] = .nx [.val (.tuple o), s1, s2, s3, s4, x5, .val (.int d), x7, .val (.int u)] := by
  simp [q_co3, e, noio_bare b8]
theorem t_co4 {l : List PyData} {u : Int} {p : PyData} {s0 s1 s2 s4 x5 x6 : Sl} {z : PyData} (e : atI l u = some p) : q_co4 [s0, s1, s2, .own l, s4, x5, x6, .val z, .val (.int u)] = .nx [s0, s1, s2, .own l, s4, x5, x6, .val p, .val (.int u)] := by
  simp [q_co4, e]
theorem t_co5 {l m : List PyData} {u x : PyData} {s0 s1 s2 s4 x6 x7 : Sl} (e : setI l u x = some m) : q_co5 [s0, s1, s2, .own l, s4, .val x, x6, x7, .val u] = .nx [s0, s1, s2, .own m, s4, .val x, x6, x7, .val u] := by
  simp [q_co5, e]
theorem t_co6 {l m : List PyData} {d p : PyData} {s0 s1 s2 s4 x5 x8 : Sl} (e : setI l d p = some m) : q_co6 [s0, s1, s2, .own l, s4, x5, .val d, .val p, x8] = .nx [s0, s1, s2, .own m, s4, x5, .val d, .val p, x8] := by
  simp [q_co6, e]
theorem t_co8 {l : List PyData} {x d p : PyData} {s0 s1 s2 s3 x8 : Sl} (h : l.length < 16777216) : q_co8 [s0, s1, s2, s3, .own l, .val x, .val d, .val p, x8] = .nx [s0, s1, s2, s3, .own (l ++ [.tuple [x, d, p]]), .val x, .val d, .val p, x8] := by
  simp [q_co8, sizeLine, h]
theorem t_gt {d : Int} {s0 s1 s2 s3 s4 s5 x7 x8 : Sl} : sTst (sBin gGt (sVar 6) (sK (.int 0))) [s0, s1, s2, s3, s4, s5, .val (.int d), x7, x8] = .ok (decide (0 < d)) [s0, s1, s2, s3, s4, s5, .val (.int d), x7, x8] := by
  simp
theorem t_for {x : PyData} {s0 s1 s2 s3 s4 x5 x6 x7 x8 : Sl} (b5 : bare (some x5) = true) : gNm 5 x [s0, s1, s2, s3, s4, x5, x6, x7, x8] = .nx [s0, s1, s2, s3, s4, .val x, x6, x7, x8] := by
  simp [b5]
section
variable {os : List Nat} {ss ord : List Str}
theorem co_step (c : Case os ss ord) {s : Str} (h : s ∈ ss) {l : List PyData} (hl : l.length < 16777216) {s1 s2 x6 x7 x8 : Sl} (b6 : bare (some x6) = true) (b7 : bare (some x7) = true) (b8 : bare (some x8) = true) : ∃ y6 y7 y8, bare (some y6) = true ∧ bare (some y7) = true ∧ bare (some y8) = true ∧ q_co [vO os, s1, s2, .own (sts ss), .own l, .val (.str s), x6, x7, x8] = .nx [vO os, s1, s2, .own (sts (callS os ss s)), .own (l ++ [rowS os ss s]), .val (.str s), y6, y7, y8] := by
  have hlen := c.len
  have li := idx_lt h
  unfold q_co
  rw [r_sSeq, t_co1 (g_lix h) b6, sq_nx, r_sSeq, t_co2 b7, sq_nx, r_sSeq, q_co7, r_sIf, t_gt, stt_ok]
  by_cases h0 : 0 < ss.idxOf s
  · have u := off_at c.off (d := ss.idxOf s) h0 (by omega)
    have lu : os.getD (ss.idxOf s - 1) 0 < ss.length := by omega
    have a2 := sts_at (ss := ss) lu
    have t1 := setI_sts (l := ss) (s := s) lu
    have t2 := setI_sts (l := ss.set (os.getD (ss.idxOf s - 1) 0) s) (i := ss.idxOf s) (s := nmAt ss (os.getD (ss.idxOf s - 1) 0)) (by rw [List.length_set]; exact li)
    have ec : callS os ss s = (ss.set (os.getD (ss.idxOf s - 1) 0) s).set (ss.idxOf s) (nmAt ss (os.getD (ss.idxOf s - 1) 0)) := by
      unfold callS
      rw [if_pos h0, List.set_comm _ _ (by omega)]
    have er : rowS os ss s = .tuple [.str s, .int (ss.idxOf s : Nat), .str (nmAt ss (os.getD (ss.idxOf s - 1) 0))] := by
      unfold rowS; rw [if_pos h0]
    refine ⟨.val (.int (ss.idxOf s : Nat)), .val (.str (nmAt ss (os.getD (ss.idxOf s - 1) 0))), .val (.int (os.getD (ss.idxOf s - 1) 0 : Nat)), rfl, rfl, rfl, ?_⟩
    rw [decide_eq_true (by omega), if_pos rfl, r_sSeq, t_co3 u.1 b8, sq_nx, r_sSeq, t_co4 a2, sq_nx, r_sSeq, t_co5 t1, sq_nx, t_co6 t2, sq_nx, t_co8 hl, ec, er]
  · have ec : callS os ss s = ss := if_neg h0
    have er : rowS os ss s = .tuple [.str s, .int (ss.idxOf s : Nat), .none] := by
      unfold rowS; rw [if_neg h0]
    refine ⟨.val (.int (ss.idxOf s : Nat)), .val .none, x8, rfl, rfl, b8, ?_⟩
    rw [decide_eq_false (by omega), if_neg (by decide)]
    show RS.sq (.nx _) q_co8 = _
    rw [sq_nx, t_co8 hl, ec, er]
theorem co_loop {s1 s2 : Sl} : ∀ {names ss : List Str} {l : List PyData} {x5 x6 x7 x8 : Sl}, Case os ss ord → (∀ s ∈ names, s ∈ ss) → l.length + names.length < 16777216 → bare (some x5) = true → bare (some x6) = true → bare (some x7) = true → bare (some x8) = true → ∃ y5 y6 y7 y8, loopL (gNm 5) q_co (sts names) [vO os, s1, s2, .own (sts ss), .own l, x5, x6, x7, x8] = .nx [vO os, s1, s2, .own (sts (callsS os ss names)), .own (l ++ rowsS os ss names), y5, y6, y7, y8]
  | [], ss, l, x5, x6, x7, x8, _, _, _, _, _, _, _ => ⟨x5, x6, x7, x8, by show _ = RS.nx [_, _, _, _, .own (l ++ []), _, _, _, _]; rw [List.append_nil]; rfl⟩
  | s :: names, ss, l, x5, x6, x7, x8, c, h, hl, b5, b6, b7, b8 => by
    rw [List.length_cons] at hl
    obtain ⟨y6, y7, y8, h6, h7, h8, e⟩ := co_step c (h s List.mem_cons_self) (l := l) (by omega) (s1 := s1) (s2 := s2) b6 b7 b8
    obtain ⟨c1, m1⟩ := c.call (h s List.mem_cons_self)
    obtain ⟨z5, z6, z7, z8, e2⟩ := co_loop (names := names) (s1 := s1) (s2 := s2) (l := l ++ [rowS os ss s]) (x5 := .val (.str s)) c1 (fun z hz => (m1 z).mpr (h z (List.mem_cons_of_mem _ hz))) (by rw [List.length_append, List.length_singleton]; omega) rfl h6 h7 h8
    refine ⟨z5, z6, z7, z8, ?_⟩
    show loopL (gNm 5) q_co (.str s :: sts names) _ = _
    rw [loopL, t_for b5]
    show (match q_co [vO os, s1, s2, .own (sts ss), .own l, .val (.str s), x6, x7, x8] with | .nx S2 => loopL (gNm 5) q_co (sts names) S2 | .ct S2 => loopL (gNm 5) q_co (sts names) S2 | .bk S2 => .nx S2 | r => r) = _
    rw [e]
    show loopL (gNm 5) q_co (sts names) _ = _
    rw [e2, List.append_assoc]
    rfl
theorem t_coA {l : List PyData} {s0 s2 : Sl} : sSetNew 3 (sListN (sCons (sVar 1) sNil)) [s0, .val (.tuple l), s2, .nil, .nil, .nil, .nil, .nil, .nil] = .nx [s0, .val (.tuple l), s2, .own l, .nil, .nil, .nil, .nil, .nil] := by simp
theorem t_coB {s0 s1 s2 s3 : Sl} : sSetNew 4 (sLst sNil) [s0, s1, s2, s3, .nil, .nil, .nil, .nil, .nil] = .nx [s0, s1, s2, s3, .own [], .nil, .nil, .nil, .nil] := by simp [sizeLine]
theorem t_coC {l m : List PyData} {s0 s1 s2 s5 s6 s7 s8 : Sl} : sFrz 4 (sRet (sTup (sCons (sRd lTup (sLVar 3)) (sCons (sVar 4) sNil)))) [s0, s1, s2, .own l, .own m, s5, s6, s7, s8] = .rt (.val (.tuple [.tuple l, .list m])) [s0, s1, s2, .own l, .val (.list m), s5, s6, s7, s8] := by
  simp [lTup, sizeLine]
theorem carry_ok (c : Case os ss ord) {names : List Str} (h : ∀ s ∈ names, s ∈ ss) (hn : names.length ≤ 1000000) {N : PyData} (hN : asLT N = some (sts names)) : ∃ T, m_carry_out [vO os, vS ss, .val N] = .ok (.val (.tuple [.tuple (sts (callsS os ss names)), .list (rowsS os ss names)])) T := by
  obtain ⟨y5, y6, y7, y8, e⟩ := co_loop (s1 := vS ss) (s2 := .val N) (l := []) (x5 := .nil) (x6 := .nil) (x7 := .nil) (x8 := .nil) c h (by simp; omega) rfl rfl rfl rfl
  refine ⟨[vO os, vS ss, .val N, .own (sts (callsS os ss names)), .val (.list (rowsS os ss names)), y5, y6, y7, y8], ?_⟩
  rw [m_carry_out, r_mB]
  show (c_carry_out [vO os, vS ss, .val N, .nil, .nil, .nil, .nil, .nil, .nil]).fin = _
  have s3 : sISq (sVar 2) [vO os, vS ss, .val N, .own (sts ss), .own [], .nil, .nil, .nil, .nil] = .ok (sts names) [vO os, vS ss, .val N, .own (sts ss), .own [], .nil, .nil, .nil, .nil] := by
    rw [r_sISq]
    show R.opt (asLT N) _ = _
    rw [hN]
    rfl
  rw [c_co_eq, r_sSeq, t_coA, sq_nx, r_sSeq, t_coB, sq_nx, r_sSeq, r_sFor, s3, stt_ok, e, sq_nx, List.nil_append, t_coC]
  rfl
/-! ### settle -/
/-- k is the settling day -/
structure SDay (os : List Nat) (s ord : List Str) (k : Nat) : Prop where
  le : k ≤ os.length
  yes : settledB os (daysS os ord k s) ord = true
  no : ∀ j, j < k → settledB os (daysS os ord j s) ord = false
theorem sday_ex (c : Case os ss ord) : ∃ k, SDay os ss ord k := by
  have key : ∀ n, (∃ k, k ≤ n ∧ settledB os (daysS os ord k ss) ord = true ∧ ∀ j, j < k → settledB os (daysS os ord j ss) ord = false) ∨ ∀ j, j ≤ n → settledB os (daysS os ord j ss) ord = false := by
    intro n
    induction n with
    | zero =>
      cases z : settledB os (daysS os ord 0 ss) ord with
      | true => exact .inl ⟨0, Nat.le_refl _, z, fun j h => by omega⟩
      | false => exact .inr fun j h => by rw [show j = 0 by omega]; exact z
    | succ n ih =>
      rcases ih with ⟨k, a, b, d⟩ | ih
      · exact .inl ⟨k, by omega, b, d⟩
      · cases z : settledB os (daysS os ord (n + 1) ss) ord with
        | true => exact .inl ⟨n + 1, Nat.le_refl _, z, fun j h => ih j (by omega)⟩
        | false =>
          refine .inr fun j h => ?_
          by_cases e : j = n + 1
          · rw [e]; exact z
          · exact ih j (by omega)
  rcases key os.length with ⟨k, a, b, d⟩ | h
  · exact ⟨k, a, b, d⟩
  · have := h os.length (Nat.le_refl _)
    rw [settles c] at this
    cases this
def q_se1 : STt := sNot (sTst (sCallV m_is_settled (sGv (sVar 0) (sGv (sVar 4) (sGv (sVar 2) sG0)))))
def q_se2 : SS := sAsg (gTp (gNC (gNm 4) (gNC (gNm 5) gN0))) (sCallV m_carry_out (sGv (sVar 0) (sGv (sVar 4) (sGv (sVar 2) sG0))))
def q_se3 : SS := sAug (gII (fun _ _ => true) fun i j => i + j) 3 (sK (.int 1))
theorem c_se_eq : c_settle = sSeq (sSet 3 (sK (.int 0))) (sSeq (sSet 4 (sVar 1)) (sSeq (loopW q_se1 (sSeq q_se2 q_se3) 60) (sRet (sTup (sCons (sVar 3) (sCons (sVar 4) sNil)))))) := rfl
theorem t_se1 {M : Mf} {o a r : PyData} {b : Bool} {T : En} {s1 s3 s5 : Sl} (e : M [.val o, .val a, .val r] = .ok (.val (.bool b)) T) : sNot (sTst (sCallV M (sGv (sVar 0) (sGv (sVar 4) (sGv (sVar 2) sG0))))) [.val o, s1, .val r, s3, .val a, s5] = .ok (!b) [.val o, s1, .val r, s3, .val a, s5] := by
  simp [e]
theorem t_se2 {M : Mf} {o a r x y : PyData} {T : En} {s1 s3 s5 : Sl} (e : M [.val o, .val a, .val r] = .ok (.val (.tuple [x, y])) T) (b5 : bare (some s5) = true) : sAsg (gTp (gNC (gNm 4) (gNC (gNm 5) gN0))) (sCallV M (sGv (sVar 0) (sGv (sVar 4) (sGv (sVar 2) sG0)))) [.val o, s1, .val r, s3, .val a, s5] = .nx [.val o, s1, .val r, s3, .val x, .val y] := by
  simp [sAsg, e, R.st, gTp, gNC, b5]
theorem t_se3 {i : Int} {s0 s1 s2 s4 s5 : Sl} : q_se3 [s0, s1, s2, .val (.int i), s4, s5] = .nx [s0, s1, s2, .val (.int (i + 1)), s4, s5] := by
  simp [q_se3, gII]
theorem se_loop {s1 : Sl} : ∀ {k : Nat} {ss : List Str} {n : Nat} {i : Int} {x5 : Sl}, Case os ss ord → settledB os (daysS os ord k ss) ord = true → (∀ j, j < k → settledB os (daysS os ord j ss) ord = false) → k < n → bare (some x5) = true → ∃ y5, loopW q_se1 (sSeq q_se2 q_se3) n [vO os, s1, vS ord, .val (.int i), vS ss, x5] = .nx [vO os, s1, vS ord, .val (.int (i + k)), vS (daysS os ord k ss), y5]
  | 0, ss, n + 1, i, x5, c, h1, h2, hn, b5 => by
    obtain ⟨T, e⟩ := settled_ok c
    have h1' : settledB os ss ord = true := h1
    rw [h1'] at e
    refine ⟨x5, ?_⟩
    rw [loopW]
    have := t_se1 (s1 := s1) (s3 := .val (.int i)) (s5 := x5) e
    rw [show q_se1 _ = _ from this]
    show RS.nx _ = _
    rw [show i + ((0 : Nat) : Int) = i by omega]
    rfl
  | k + 1, ss, n + 1, i, x5, c, h1, h2, hn, b5 => by
    obtain ⟨T, e⟩ := settled_ok c
    have h0 := h2 0 (by omega)
    rw [show daysS os ord 0 ss = ss from rfl] at h0
    rw [h0] at e
    obtain ⟨T2, e2⟩ := carry_ok c (names := ord) c.osub (by have := c.osmall; omega) (N := .tuple (sts ord)) rfl
    obtain ⟨y5, e3⟩ := se_loop (s1 := s1) (k := k) (ss := callsS os ss ord) (n := n) (i := i + 1) (x5 := .val (.list (rowsS os ss ord))) c.day h1 (fun j hj => h2 (j + 1) (by omega)) (by omega) rfl
    refine ⟨y5, ?_⟩
    rw [loopW]
    have t1 := t_se1 (s1 := s1) (s3 := .val (.int i)) (s5 := x5) e
    have t2 := t_se2 (s1 := s1) (s3 := .val (.int i)) (s5 := x5) e2 b5
    rw [show q_se1 _ = _ from t1]
    show (match (sSeq q_se2 q_se3) [vO os, s1, vS ord, .val (.int i), vS ss, x5] with | .nx S2 => loopW q_se1 (sSeq q_se2 q_se3) n S2 | .ct S2 => loopW q_se1 (sSeq q_se2 q_se3) n S2 | .bk S2 => .nx S2 | r => r) = _
    rw [r_sSeq, show q_se2 _ = _ from t2, sq_nx, t_se3]
    show loopW q_se1 (sSeq q_se2 q_se3) n _ = _
    rw [e3, show i + 1 + (k : Int) = i + ((k + 1 : Nat) : Int) by omega]
    rfl
theorem t_seA {s0 s1 s2 : Sl} : sSet 3 (sK (.int 0)) [s0, s1, s2, .nil, .nil, .nil] = .nx [s0, s1, s2, .val (.int 0), .nil, .nil] := by simp
theorem t_seB {a : PyData} {s0 s2 s3 : Sl} : sSet 4 (sVar 1) [s0, .val a, s2, s3, .nil, .nil] = .nx [s0, .val a, s2, s3, .val a, .nil] := by simp
theorem t_seC {a b : PyData} {s0 s1 s2 s5 : Sl} : sRet (sTup (sCons (sVar 3) (sCons (sVar 4) sNil))) [s0, s1, s2, .val a, .val b, s5] = .rt (.val (.tuple [a, b])) [s0, s1, s2, .val a, .val b, s5] := by simp [sizeLine]
theorem settle_ok (c : Case os ss ord) {k : Nat} (d : SDay os ss ord k) : ∃ T, m_settle [vO os, vS ss, vS ord] = .ok (.val (.tuple [.int (k : Nat), .tuple (sts (daysS os ord k ss))])) T := by
  have h39 := c.off.1
  obtain ⟨y5, e⟩ := se_loop (s1 := vS ss) (n := 60) (i := 0) (x5 := .nil) c d.yes d.no (by have := d.le; omega) rfl
  refine ⟨[vO os, vS ss, vS ord, .val (.int (k : Nat)), vS (daysS os ord k ss), y5], ?_⟩
  rw [m_settle, r_mB]
  show (c_settle [vO os, vS ss, vS ord, .nil, .nil, .nil]).fin = _
  rw [c_se_eq, r_sSeq, t_seA, sq_nx, r_sSeq, t_seB, sq_nx, r_sSeq, e, sq_nx, t_seC, show (0 : Int) + (k : Int) = (k : Int) by omega]
  rfl
theorem t_sd {M N : Mf} {o a r x y z : PyData} {T U : En} (e1 : M [.val o, .val a, .val r] = .ok (.val z) U) (e2 : N [.val o, .val a, .val r] = .ok (.val (.tuple [x, y])) T) : (sSeq (sDrop (sCallV M (sGv (sVar 0) (sGv (sVar 1) (sGv (sVar 2) sG0))))) (sSeq (sAsg (gTp (gNC (gNm 3) (gNC (gNm 4) gN0))) (sCallV N (sGv (sVar 0) (sGv (sVar 1) (sGv (sVar 2) sG0))))) (sRet (sVar 3)))) [.val o, .val a, .val r, .nil, .nil] = .rt (.val x) [.val o, .val a, .val r, .val x, .val y] := by
  simp [sAsg, e1, e2, R.st, gTp, gNC]
theorem t_sd2 {M N : Mf} {o a r x y z : PyData} {T U : En} (e1 : M [.val o, .val a, .val r] = .ok (.val z) U) (e2 : N [.val o, .val a, .val r] = .ok (.val (.tuple [x, y])) T) : (sSeq (sDrop (sCallV M (sGv (sVar 0) (sGv (sVar 1) (sGv (sVar 2) sG0))))) (sSeq (sAsg (gTp (gNC (gNm 3) (gNC (gNm 4) gN0))) (sCallV N (sGv (sVar 0) (sGv (sVar 1) (sGv (sVar 2) sG0))))) (sRet (sVar 4)))) [.val o, .val a, .val r, .nil, .nil] = .rt (.val y) [.val o, .val a, .val r, .val x, .val y] := by
  simp [sAsg, e1, e2, R.st, gTp, gNC]
theorem sday_ok (c : Case os ss ord) {k : Nat} (d : SDay os ss ord k) : ∃ T, m_settling_day [vO os, vS ss, vS ord] = .ok (.val (.int (k : Nat))) T := by
  obtain ⟨T1, e1⟩ := need_ord c
  obtain ⟨T2, e2⟩ := settle_ok c d
  refine ⟨[vO os, vS ss, vS ord, .val (.int (k : Nat)), vS (daysS os ord k ss)], ?_⟩
  · rw [m_settling_day, r_mB]
    show (c_settling_day [vO os, vS ss, vS ord, .nil, .nil]).fin = _
    rw [show c_settling_day _ = _ from t_sd e1 e2]
    rfl
theorem settd_ok (c : Case os ss ord) {k : Nat} (d : SDay os ss ord k) : ∃ T, m_settled [vO os, vS ss, vS ord] = .ok (.val (.tuple (sts (daysS os ord k ss)))) T := by
  obtain ⟨T1, e1⟩ := need_ord c
  obtain ⟨T2, e2⟩ := settle_ok c d
  refine ⟨[vO os, vS ss, vS ord, .val (.int (k : Nat)), vS (daysS os ord k ss)], ?_⟩
  · rw [m_settled, r_mB]
    show (c_settled [vO os, vS ss, vS ord, .nil, .nil]).fin = _
    rw [show c_settled _ = _ from t_sd2 e1 e2]
    rfl
end
end Ds
end

section
set_option linter.all false
set_option Elab.async false
set_option maxRecDepth 100000
open PySem PySem.Spec PyProof.Rows L2
namespace Ds
def c_groups_in : SS :=
  (sSeq (sSetNew 3 (sLst sNil))
  (sSeq (sFor (sIEnL (sCons (sCallV m_open_below (sGv (sVar 0) (sGv (sVar 1) (sGv (sVar 2) sG0)))) sNil)) (gTp (gNC (gNm 4) (gNC (gNm 5) gN0)))
    (sIf (sTst (sBin gGt (sRd lLen (sLVar 5)) (sK (.int 0))))
      (sSeq (sSet 6 (sNE (sLc (sIL (sNE (sLst (sCons (sVar 4) (sStarA (sVar 5) sNil))))) (gNm 7) sYes (sBin gIx (sVar 1) (sVar 7)) [7])))
      (sDrop (sAppend 3 (sTup (sCons (sVar 4) (sCons (sVar 5) (sCons (sNE (sLc (sISq (sVar 2)) (gNm 8) (sTst (sBin (gInT false) (sVar 8) (sVar 6))) (sVar 8) [8])) sNil)))))))
      sNx))
  (sRetOwn 3)))
def m_groups_in : Mf := mB 9 c_groups_in
def c_groups_of : SS :=
  (sRet (sNE (sCallN m_groups_in (sGv (sVar 0) (sGv (sCallV m_settled (sGv (sVar 0) (sGv (sVar 1) (sGv (sVar 2) sG0)))) (sGv (sVar 2) sG0))))))
def m_groups_of : Mf := mB 3 c_groups_of
end Ds
end

section
set_option Elab.async false
set_option linter.all false
set_option maxRecDepth 100000
set_option maxHeartbeats 1000000
open PySem PySem.Spec PyProof.Rows L2
namespace Ds
/-! ### the groups of a state -/
def namesG (os : List Nat) (s ord : List Str) (d : Nat) : List Str := ord.filter fun n => decide (n ∈ (d :: okd0 os s ord d).map (nmAt s))
def grpD (os : List Nat) (s ord : List Str) (d : Nat) : PyData := .tuple [.int (d : Nat), .list (nts (okd0 os s ord d)), .list (sts (namesG os s ord d))]
def grpI (os : List Nat) (s ord : List Str) : Nat → List PyData
  | 0 => []
  | i + 1 => if okd0 os s ord i = [] then grpI os s ord i else grpI os s ord i ++ [grpD os s ord i]
def grpsD (os : List Nat) (s ord : List Str) : List PyData := grpI os s ord (os.length + 1)
def q_gi1 : SS := sSet 6 (sNE (sLc (sIL (sNE (sLst (sCons (sVar 4) (sStarA (sVar 5) sNil))))) (gNm 7) sYes (sBin gIx (sVar 1) (sVar 7)) [7]))
def q_gi2 : SS := sDrop (sAppend 3 (sTup (sCons (sVar 4) (sCons (sVar 5) (sCons (sNE (sLc (sISq (sVar 2)) (gNm 8) (sTst (sBin (gInT false) (sVar 8) (sVar 6))) (sVar 8) [8])) sNil)))))
def q_gi : SS := sIf (sTst (sBin gGt (sRd lLen (sLVar 5)) (sK (.int 0)))) (sSeq q_gi1 q_gi2) sNx
theorem c_gi_eq : c_groups_in = sSeq (sSetNew 3 (sLst sNil)) (sSeq (sFor (sIEnL (sCons (sCallV m_open_below (sGv (sVar 0) (sGv (sVar 1) (sGv (sVar 2) sG0)))) sNil)) (gTp (gNC (gNm 4) (gNC (gNm 5) gN0))) q_gi) (sRetOwn 3)) := rfl
section
variable {os : List Nat} {s ord : List Str}
theorem t_gi1 (c : Case os s ord) {d : Nat} {U : List Nat} (hd : d < s.length) (hU : ∀ e ∈ U, e < s.length) (hn : U.length ≤ 40) {s0 s2 s3 x6 : Sl} (b6 : noio (some x6) = true) : q_gi1 [s0, vS s, s2, s3, .val (.int (d : Nat)), .val (.list (nts U)), x6, .nil, .nil] = .nx [s0, vS s, s2, s3, .val (.int (d : Nat)), .val (.list (nts U)), .val (.list (sts ((d :: U).map (nmAt s)))), .nil, .nil] := by
  have lc : lcL (gNm 7) sYes (sBin gIx (sVar 1) (sVar 7)) [7] (nts (d :: U)) [s0, vS s, s2, s3, .val (.int (d : Nat)), .val (.list (nts U)), x6, .nil, .nil] = .ok (sts ((d :: U).map (nmAt s))) [s0, vS s, s2, s3, .val (.int (d : Nat)), .val (.list (nts U)), x6, .nil, .nil] := by
    rw [lc_mapF (f := fun z => match z with | .int k => .str (nmAt s k.toNat) | _ => .none) fun z hz => ?_]
    · congr 1
      unfold nts sts
      rw [List.map_map, List.map_map]
      rfl
    · obtain ⟨e, he, rfl⟩ := List.mem_map.mp hz
      have h1 : e < s.length := by
        rcases List.mem_cons.mp he with q | q
        · rw [q]; exact hd
        · exact hU e q
      have sa := sts_at h1
      generalize nts U = L at *
      refine ⟨[s0, vS s, s2, s3, .val (.int (d : Nat)), .val (.list L), x6, .val (.int (e : Nat)), .nil], [s0, vS s, s2, s3, .val (.int (d : Nat)), .val (.list L), x6, .val (.int (e : Nat)), .nil], by simp, by simp [sa], by simp [wipeS]⟩
  have e1 : nts (d :: U) = .int (d : Nat) :: nts U := rfl
  have l1 : (nts U).length ≤ 40 := by rw [nts_len]; exact hn
  have l2 : (nts U).length + 1 ≤ 16777216 := by omega
  have l3 : (nts U).length + 1 < 16777216 := by omega
  rw [e1] at lc
  generalize nts U = L at *
  generalize sts ((d :: U).map (nmAt s)) = Z at *
  simp [q_gi1, seqOf, wipeS, lc, unwipe, sizeLine, l2, l3, b6]
theorem t_gi2 (hn : ord.length ≤ 1000) {F : List PyData} (hF : F.length < 16777216) {Ps : List Str} {d u : PyData} {s0 s1 : Sl} : q_gi2 [s0, s1, vS ord, .own F, .val d, .val u, .val (.list (sts Ps)), .nil, .nil] = .nx [s0, s1, vS ord, .own (F ++ [.tuple [d, u, .list (sts (ord.filter fun n => decide (n ∈ Ps)))]]), .val d, .val u, .val (.list (sts Ps)), .nil, .nil] := by
  have lc : lcL (gNm 8) (sTst (sBin (gInT false) (sVar 8) (sVar 6))) (sVar 8) [8] (sts ord) [s0, s1, vS ord, .own F, .val d, .val u, .val (.list (sts Ps)), .nil, .nil] = .ok (sts (ord.filter fun n => decide (n ∈ Ps))) [s0, s1, vS ord, .own F, .val d, .val u, .val (.list (sts Ps)), .nil, .nil] := by
    rw [lc_filtF (c := fun z => match z with | .str n => decide (n ∈ Ps) | _ => false) (f := id) fun z hz => ?_]
    · congr 1
      unfold sts
      rw [List.map_id, List.filter_map]
      congr 1
    · obtain ⟨n, _, rfl⟩ := List.mem_map.mp hz
      have g := g_inL (s := n) (xs := Ps)
      generalize sts Ps = Q at *
      refine ⟨[s0, s1, vS ord, .own F, .val d, .val u, .val (.list Q), .nil, .val (.str n)], [s0, s1, vS ord, .own F, .val d, .val u, .val (.list Q), .nil, .val (.str n)], by simp, by simp [g], by simp [wipeS], fun _ => ⟨[s0, s1, vS ord, .own F, .val d, .val u, .val (.list Q), .nil, .val (.str n)], by simp, by simp [wipeS]⟩⟩
  have l1 : (sts ord).length < 16777216 := by rw [sts_len]; omega
  generalize sts (ord.filter fun n => decide (n ∈ Ps)) = Z at *
  generalize sts Ps = Q at *
  simp [q_gi2, wipeS, lc, unwipe, sizeLine, l1, hF]
theorem grpI_len : ∀ i, (grpI os s ord i).length ≤ i
  | 0 => Nat.le_refl _
  | i + 1 => by
    have := grpI_len i
    show (if okd0 os s ord i = [] then grpI os s ord i else grpI os s ord i ++ [grpD os s ord i]).length ≤ _
    split
    · omega
    · rw [List.length_append, List.length_singleton]; omega
theorem gi_step (c : Case os s ord) {i : Nat} (hi : i < os.length + 1) {x6 : Sl} (b6 : noio (some x6) = true) : ∃ y6, noio (some y6) = true ∧ q_gi [vO os, vS s, vS ord, .own (grpI os s ord i), .val (.int (i : Nat)), .val (.list (nts (okd0 os s ord i))), x6, .nil, .nil] = .nx [vO os, vS s, vS ord, .own (grpI os s ord (i + 1)), .val (.int (i : Nat)), .val (.list (nts (okd0 os s ord i))), y6, .nil, .nil] := by
  have hl := c.len
  have h39 := c.off.1
  have gl := grpI_len (os := os) (s := s) (ord := ord) i
  have ol := c.osmall
  by_cases h : okd0 os s ord i = []
  · refine ⟨x6, b6, ?_⟩
    have e : grpI os s ord (i + 1) = grpI os s ord i := by
      show (if okd0 os s ord i = [] then grpI os s ord i else _) = _
      rw [if_pos h]
    rw [e, h]
    simp [q_gi, lLen, nts]
  · have e : grpI os s ord (i + 1) = grpI os s ord i ++ [grpD os s ord i] := by
      show (if okd0 os s ord i = [] then grpI os s ord i else _) = _
      rw [if_neg h]
    have hO := okd_small c (d := i)
    have u1 := t_gi1 c (d := i) (U := okd0 os s ord i) (by omega) hO.1 hO.2 (s0 := vO os) (s2 := vS ord) (s3 := .own (grpI os s ord i)) b6
    have u2 := t_gi2 (ord := ord) (by omega) (F := grpI os s ord i) (by omega) (Ps := (i :: okd0 os s ord i).map (nmAt s)) (d := .int (i : Nat)) (u := .list (nts (okd0 os s ord i))) (s0 := vO os) (s1 := vS s)
    refine ⟨.val (.list (sts ((i :: okd0 os s ord i).map (nmAt s)))), rfl, ?_⟩
    rw [e]
    have hp : 0 < (nts (okd0 os s ord i)).length := by rw [nts_len]; exact List.length_pos_iff.mpr h
    have t0 : sTst (sBin gGt (sRd lLen (sLVar 5)) (sK (.int 0))) [vO os, vS s, vS ord, .own (grpI os s ord i), .val (.int (i : Nat)), .val (.list (nts (okd0 os s ord i))), x6, .nil, .nil] = .ok true [vO os, vS s, vS ord, .own (grpI os s ord i), .val (.int (i : Nat)), .val (.list (nts (okd0 os s ord i))), x6, .nil, .nil] := by
      generalize nts (okd0 os s ord i) = L at *
      have hp' : (0 : Int) < L.length := by omega
      simp [lLen, hp, hp']
    rw [q_gi, r_sIf, t0, stt_ok, if_pos rfl, r_sSeq, u1, sq_nx, u2]
    rfl
theorem groups_in_ok (c : Case os s ord) : ∃ T, m_groups_in [vO os, vS s, vS ord] = .ok (.own (grpsD os s ord)) T := by
  obtain ⟨T1, e1⟩ := open_ok c
  have h39 := c.off.1
  have hb : (enumD ((rowsT os s ord 0).map .list)).length = os.length + 1 := by rw [enumD_len, List.length_map, rowsT_len]
  obtain ⟨S', hS, x4, x5, x6, b6, rfl⟩ := loop_inv (g := gTp (gNC (gNm 4) (gNC (gNm 5) gN0))) (b := q_gi) (ds := enumD ((rowsT os s ord 0).map .list)) (P := fun i S => ∃ (x4 x5 : PyData) (x6 : Sl), noio (some x6) = true ∧ S = [vO os, vS s, vS ord, .own (grpI os s ord i), (if i = 0 then .nil else .val x4), (if i = 0 then .nil else .val x5), x6, .nil, .nil]) (S := [vO os, vS s, vS ord, .own [], .nil, .nil, .nil, .nil, .nil]) ⟨.none, .none, .nil, rfl, rfl⟩ fun i d S hd hS => by
    obtain ⟨x4, x5, x6, b6, rfl⟩ := hS
    obtain ⟨hi, rfl⟩ := enum_rows hd
    obtain ⟨y6, c6, u⟩ := gi_step c hi b6
    refine ⟨[vO os, vS s, vS ord, .own (grpI os s ord i), .val (.int (i : Nat)), .val (.list (nts (okd0 os s ord i))), x6, .nil, .nil], _, ?_, u, .int (i : Nat), .list (nts (okd0 os s ord i)), y6, c6, by rw [if_neg (Nat.succ_ne_zero i), if_neg (Nat.succ_ne_zero i)]⟩
    show gTp (gNC (gNm 4) (gNC (gNm 5) gN0)) (.tuple [.int (i : Nat), .list (nts (okd0 os s ord i))]) _ = _
    generalize nts (okd0 os s ord i) = L
    by_cases h0 : i = 0
    · simp [gTp, gNC, h0]
    · simp [gTp, gNC, h0]
  rw [hb, if_neg (Nat.succ_ne_zero _), if_neg (Nat.succ_ne_zero _)] at hS
  have l1 : ((rowsT os s ord 0).map PyData.list).length < 16777216 := by rw [List.length_map, rowsT_len]; omega
  refine ⟨[vO os, vS s, vS ord, .own (grpsD os s ord), .val x4, .val x5, x6, .nil, .nil], ?_⟩
  generalize (rowsT os s ord 0).map PyData.list = L at *
  rw [m_groups_in, r_mB]
  show (c_groups_in [vO os, vS s, vS ord, .nil, .nil, .nil, .nil, .nil, .nil]).fin = _
  rw [c_gi_eq, r_sSeq, show sSetNew 3 (sLst sNil) [vO os, vS s, vS ord, .nil, .nil, .nil, .nil, .nil, .nil] = .nx [vO os, vS s, vS ord, .own [], .nil, .nil, .nil, .nil, .nil] from by simp [sizeLine], sq_nx, r_sSeq, r_sFor, show sIEnL (sCons (sCallV m_open_below (sGv (sVar 0) (sGv (sVar 1) (sGv (sVar 2) sG0)))) sNil) [vO os, vS s, vS ord, .own [], .nil, .nil, .nil, .nil, .nil] = .ok (enumD L) [vO os, vS s, vS ord, .own [], .nil, .nil, .nil, .nil, .nil] from by simp [e1], stt_ok, hS, sq_nx]
  rfl
theorem t_go {M N : Mf} {o a r x : PyData} {L : List PyData} {T U : En} (e1 : M [.val o, .val a, .val r] = .ok (.val x) T) (e2 : N [.val o, .val x, .val r] = .ok (.own L) U) : sRet (sNE (sCallN N (sGv (sVar 0) (sGv (sCallV M (sGv (sVar 0) (sGv (sVar 1) (sGv (sVar 2) sG0)))) (sGv (sVar 2) sG0))))) [.val o, .val a, .val r] = .rt (.val (.list L)) [.val o, .val a, .val r] := by
  simp [e1, e2]
theorem groups_of_ok (c : Case os s ord) {k : Nat} (d : SDay os s ord k) : ∃ T, m_groups_of [vO os, vS s, vS ord] = .ok (.val (.list (grpsD os (daysS os ord k s) ord))) T := by
  obtain ⟨T, e1⟩ := settd_ok c d
  obtain ⟨U, e2⟩ := groups_in_ok (c.days k)
  refine ⟨[vO os, vS s, vS ord], ?_⟩
  rw [m_groups_of, r_mB]
  show (c_groups_of [vO os, vS s, vS ord]).fin = _
  rw [show c_groups_of _ = _ from t_go e1 e2]
  rfl
end
end Ds
end

section
set_option Elab.async false
set_option linter.all false
set_option maxRecDepth 100000
set_option maxHeartbeats 1000000
open PySem PySem.Spec PyProof.Rows L2
namespace Ds
/-! ### depths -/
def depL (os : List Nat) : List Nat := os.foldl (fun acc u => acc ++ [acc.getD u 0 + 1]) [0]
def dep (os : List Nat) (k : Nat) : Nat := (depL os).getD k 0
theorem depL_snoc {os : List Nat} {u : Nat} : depL (os ++ [u]) = depL os ++ [(depL os).getD u 0 + 1] := by
  unfold depL
  rw [List.foldl_append]
  rfl
theorem depL_len : ∀ (n : Nat) (os : List Nat), os.length = n → (depL os).length = n + 1
  | 0, os, h => by rw [List.length_eq_zero_iff.mp h]; rfl
  | n + 1, os, h => by
    obtain ⟨i, u, rfl⟩ : ∃ i u, os = i ++ [u] := ⟨os.dropLast, os.getLast (fun w => by rw [w] at h; cases h), (List.dropLast_concat_getLast _).symm⟩
    rw [List.length_append, List.length_singleton] at h
    rw [depL_snoc, List.length_append, depL_len n i (by omega)]
    rfl
theorem getD_app {l : List Nat} {v k : Nat} (h : k < l.length) : (l ++ [v]).getD k 0 = l.getD k 0 := by
  simp [List.getD, List.getElem?_append_left h]
theorem dep_at : ∀ (n : Nat) (os : List Nat), os.length = n → (∀ (i x : Nat), os[i]? = some x → x ≤ i) → ∀ k, 0 < k → k ≤ n → dep os k = dep os (os.getD (k - 1) 0) + 1
  | 0, os, h, _, k, k0, k1 => by omega
  | n + 1, os, h, ho, k, k0, k1 => by
    obtain ⟨i, u, rfl⟩ : ∃ i u, os = i ++ [u] := ⟨os.dropLast, os.getLast (fun w => by rw [w] at h; cases h), (List.dropLast_concat_getLast _).symm⟩
    rw [List.length_append, List.length_singleton] at h
    have hi : i.length = n := by omega
    have hl := depL_len n i hi
    have hu : u ≤ n := by
      have := ho i.length u (by rw [List.getElem?_append_right (Nat.le_refl _), Nat.sub_self]; rfl)
      omega
    have ho' : ∀ (j x : Nat), i[j]? = some x → x ≤ j := fun j x e => ho j x (by rw [List.getElem?_append_left (List.getElem?_eq_some_iff.mp e).1]; exact e)
    by_cases hk : k = n + 1
    · subst hk
      have e1 : (i ++ [u]).getD (n + 1 - 1) 0 = u := by rw [Nat.add_sub_cancel, ← hi]; simp [List.getD]
      unfold dep
      rw [e1, depL_snoc, getD_app (l := depL i) (k := u) (by omega)]
      have e3 : (depL i ++ [(depL i).getD u 0 + 1])[n + 1]? = some ((depL i).getD u 0 + 1) := by rw [← hl, List.getElem?_append_right (Nat.le_refl _), Nat.sub_self]; rfl
      rw [List.getD_eq_getElem?_getD, e3]
      rfl
    · have ih := dep_at n i hi ho' k k0 (by omega)
      have e1 : (i ++ [u]).getD (k - 1) 0 = i.getD (k - 1) 0 := getD_app (by omega)
      have lt : i.getD (k - 1) 0 < n + 1 := by
        have e : i[k - 1]? = some (i.getD (k - 1) 0) := by simp [List.getD, List.getElem?_eq_getElem (show k - 1 < i.length by omega)]
        have := ho' _ _ e
        omega
      unfold dep at ih ⊢
      rw [e1, depL_snoc, getD_app (by omega), getD_app (by omega), ih]
section
variable {os : List Nat} {s o R s' o' : List Str} {x y z : Str} {d k : Nat}
theorem Off.dep (h : Off os) {k : Nat} (h0 : 0 < k) (h1 : k ≤ os.length) : Ds.dep os k = Ds.dep os (os.getD (k - 1) 0) + 1 := dep_at os.length os rfl h.2 k h0 h1
/-! ### whose group -/
theorem inB_desk (c : Case os s o) (hd : d ≤ os.length) : inB os s o d x = true ↔ ∃ k, (k = d ∨ k ∈ okd0 os s o d) ∧ nmAt s k = x := inB_iff
theorem one_group {e : Nat} (c : Case os s o) (hd : d ≤ os.length) (he : e ≤ os.length) (d0 : okd0 os s o d ≠ []) (e0 : okd0 os s o e ≠ []) (h1 : inB os s o d x = true) (h2 : inB os s o e x = true) : d = e := by
  obtain ⟨k, hk, rfl⟩ := (inB_desk c hd).mp h1
  obtain ⟨j, hj, ej⟩ := (inB_desk c he).mp h2
  have kle : k ≤ os.length := hk.elim (fun w => by rw [w]; exact hd) fun w => (ok0_mem c w).1
  have jle : j ≤ os.length := hj.elim (fun w => by rw [w]; exact he) fun w => (ok0_mem c w).1
  have kj := nm_inj c jle kle ej
  subst kj
  have no : ∀ {a b : Nat}, a ≤ os.length → okd0 os s o a ≠ [] → a ∈ okd0 os s o b → False := fun ha h m => by
    have := (op0_ok c.off ha (mem_ok0.mp m).2.2.2).2
    exact h this
  rcases hk with hk | hk
  · rcases hj with hj | hj
    · omega
    · subst hk
      exact (no hd d0 hj).elim
  · rcases hj with hj | hj
    · subst hj
      exact (no he e0 hk).elim
    · have a := (mem_ok0.mp hk).2.2.1
      have b := (mem_ok0.mp hj).2.2.1
      omega
def cenO (os : List Nat) (s o : List Str) (x : Str) : Option Nat := (List.range (os.length + 1)).find? fun d => !(okd0 os s o d).isEmpty && inB os s o d x
theorem cen_iff (c : Case os s o) : cenO os s o x = some d ↔ d ≤ os.length ∧ okd0 os s o d ≠ [] ∧ inB os s o d x = true := by
  constructor
  · intro h
    have m := List.mem_of_find?_eq_some h
    have p := List.find?_some h
    rw [Bool.and_eq_true] at p
    exact ⟨by have := List.mem_range.mp m; omega, by simpa using p.1, p.2⟩
  · rintro ⟨h1, h2, h3⟩
    cases q : cenO os s o x with
    | none =>
      have := List.find?_eq_none.mp q d (List.mem_range.mpr (by omega))
      simp [h2, h3] at this
    | some e =>
      have m := List.mem_of_find?_eq_some q
      have p := List.find?_some q
      rw [Bool.and_eq_true] at p
      rw [one_group c (by have := List.mem_range.mp m; omega) h1 (by simpa using p.1) h2 p.2 h3]
theorem find_congr {α : Type} {p q : α → Bool} : ∀ {l : List α}, (∀ a ∈ l, p a = q a) → l.find? p = l.find? q
  | [], _ => rfl
  | a :: l, h => by
    rw [List.find?_cons, List.find?_cons, h a List.mem_cons_self, find_congr fun b hb => h b (List.mem_cons_of_mem _ hb)]
theorem Rot.cen (r : Rot os s o s' o') (z : Str) : cenO os s' o' z = cenO os s o z := by
  refine find_congr fun d hd => ?_
  have hd := List.mem_range.mp hd
  rw [okd_cal r.cal]
  by_cases h0 : okd0 os s o d = []
  · rw [h0]; rfl
  · rw [r.inB (by omega) h0]
theorem cen_first (c : Case os s (x :: R)) (h : stF os s (x :: R) 0) : (s.idxOf x = 0 ∧ cenO os s (x :: R) x = none) ∨ (0 < s.idxOf x ∧ cenO os s (x :: R) x = some (os.getD (s.idxOf x - 1) 0)) := by
  have xo : x ∈ x :: R := List.mem_cons_self
  obtain ⟨pl, pn, _⟩ := call_at c (c.osub x xo)
  have fl := first_low c h
  by_cases p0 : s.idxOf x = 0
  · refine .inl ⟨p0, ?_⟩
    cases q : cenO os s (x :: R) x with
    | none => rfl
    | some e =>
      obtain ⟨h1, h2, h3⟩ := (cen_iff c).mp q
      obtain ⟨k, hk, ek⟩ := (inB_desk c h1).mp h3
      have kle : k ≤ os.length := hk.elim (fun w => by rw [w]; exact h1) fun w => (ok0_mem c w).1
      have kp := nm_inj c kle pl (by rw [ek, pn])
      rcases hk with hk | hk
      · rw [← kp, hk] at fl
        exact absurd fl.1 h2
      · have := (mem_ok0.mp hk).1
        omega
  · have u := off_lt c.off (by omega) pl
    have m := fl.2 (by omega)
    exact .inr ⟨by omega, (cen_iff c).mpr ⟨by omega, fun w => (by rw [w] at m; cases m), (inB_desk c (by omega)).mpr ⟨_, .inr m, pn⟩⟩⟩
/-! ### what a day costs -/
def cst (os : List Nat) (s o : List Str) (x : Str) : Nat := match cenO os s o x with
  | some d => dep os d + 1
  | none => 0
theorem dep0 : dep os 0 = 0 := by
  have : ∀ (l acc : List Nat), 0 < acc.length → (l.foldl (fun acc u => acc ++ [acc.getD u 0 + 1]) acc).getD 0 0 = acc.getD 0 0 := by
    intro l
    induction l with
    | nil => intro acc _; rfl
    | cons u l ih =>
      intro acc h
      rw [List.foldl_cons, ih _ (by simp), getD_app h]
  exact this os [0] (by decide)
theorem cst_first (c : Case os s (x :: R)) (h : stF os s (x :: R) 0) : dep os (s.idxOf x) = cst os s (x :: R) x := by
  have xo : x ∈ x :: R := List.mem_cons_self
  obtain ⟨pl, pn, _⟩ := call_at c (c.osub x xo)
  unfold cst
  rcases cen_first c h with ⟨h1, h2⟩ | ⟨h1, h2⟩
  · rw [h2, h1, dep0]
  · rw [h2, c.off.dep h1 pl]
def costS (os : List Nat) : List Str → List Str → Nat
  | _, [] => 0
  | s, x :: xs => dep os (s.idxOf x) + costS os (callS os s x) xs
theorem cost_rot : ∀ {A B s : List Str}, Case os s (A ++ B) → stF os s (A ++ B) 0 → costS os s A = (A.map (cst os s (A ++ B))).sum
  | [], B, s, _, _ => rfl
  | x :: A, B, s, c, h => by
    have r := rot (R := A ++ B) c h
    have e1 : A ++ B ++ [x] = A ++ (B ++ [x]) := List.append_assoc _ _ _
    have cx := cst_first (R := A ++ B) c h
    have cc := fun z => r.cen z
    rw [e1] at r cc
    show dep os (s.idxOf x) + costS os (callS os s x) A = _
    rw [cost_rot r.cs r.st, List.map_cons, List.sum_cons, cx]
    congr 2
    refine List.map_congr_left fun z _ => ?_
    unfold cst
    rw [cc z]
    rfl
theorem cost_day (c : Case os s o) (h : stF os s o 0) : costS os s o = (o.map (cst os s o)).sum := by
  have := cost_rot (A := o) (B := []) (s := s) (by rw [List.append_nil]; exact c) (by rw [List.append_nil]; exact h)
  rw [List.append_nil] at this
  exact this
theorem cost_same (c : Case os s o) (h : stF os s o 0) (r : Rot os s o s' o) : costS os s' o = costS os s o := by
  rw [cost_day c h, cost_day r.cs r.st]
  congr 1
  refine List.map_congr_left fun z _ => ?_
  unfold cst
  rw [r.cen]
/-! ### the passes of a day -/
/-- the calls that pass somebody who is called later -/
def pasC (os : List Nat) : List Str → List Str → Nat
  | _, [] => 0
  | s, x :: xs => (if 0 < s.idxOf x ∧ nmAt s (os.getD (s.idxOf x - 1) 0) ∈ xs then 1 else 0) + pasC os (callS os s x) xs
/-- the first of its group -/
def fstB (os : List Nat) (s o A : List Str) (x : Str) : Bool := match cenO os s o x with
  | some d => A.all fun y => !inB os s o d y
  | none => false
def fstN (os : List Nat) (s o : List Str) : List Str → List Str → Nat
  | _, [] => 0
  | A, x :: B => (if fstB os s o A x = true then 1 else 0) + fstN os s o (A ++ [x]) B
theorem pas_one {A B : List Str} (c : Case os s (x :: B ++ A)) (h : stF os s (x :: B ++ A) 0) : (0 < s.idxOf x ∧ nmAt s (os.getD (s.idxOf x - 1) 0) ∈ B) ↔ fstB os s (x :: B ++ A) A x = true := by
  have xo : x ∈ x :: (B ++ A) := List.mem_cons_self
  have xs : x ∈ s := c.osub x xo
  obtain ⟨pl, pn, _⟩ := call_at c xs
  have fl := first_low (R := B ++ A) c h
  unfold fstB
  rcases cen_first (R := B ++ A) c h with ⟨h1, h2⟩ | ⟨h1, h2⟩
  · rw [show x :: B ++ A = x :: (B ++ A) from rfl, h2]
    exact ⟨fun w => by omega, fun w => by cases w⟩
  · rw [show x :: B ++ A = x :: (B ++ A) from rfl, h2]
    have m := fl.2 h1
    have ul := off_lt c.off h1 pl
    generalize hu : os.getD (s.idxOf x - 1) 0 = u at *
    have ule : u ≤ os.length := by omega
    have u0 : okd0 os s (x :: (B ++ A)) u ≠ [] := fun w => by rw [w] at m; cases m
    have hs := (stF_iff c).mp h u ule u0
    have nd : (x :: (B ++ A)).Nodup := c.ond
    have Px : nmAt s u ≠ x := fun w => by
      have := nm_inj c ule pl (by rw [w, pn])
      omega
    have iP : inB os s (x :: (B ++ A)) u (nmAt s u) = true := (inB_desk c ule).mpr ⟨u, .inl rfl, rfl⟩
    have le : ∀ y, inB os s (x :: (B ++ A)) u y = true → (x :: (B ++ A)).idxOf y ≤ (x :: (B ++ A)).idxOf (nmAt s u) := fun y hy => by
      obtain ⟨k, hk, rfl⟩ := (inB_desk c ule).mp hy
      rcases hk with hk | hk
      · rw [hk]; exact Nat.le_refl _
      · exact Nat.le_of_lt (hs.2 k hk)
    have ixB : ∀ y ∈ B, (x :: (B ++ A)).idxOf y < B.length + 1 := fun y hy => by
      obtain ⟨i, hi⟩ := List.getElem?_of_mem hy
      have lt := (List.getElem?_eq_some_iff.mp hi).1
      have := idx_at nd (i := i + 1) (y := y) (by show (x :: (B ++ A))[i + 1]? = _; rw [List.getElem?_cons_succ, List.getElem?_append_left lt]; exact hi)
      omega
    have ixA : ∀ y ∈ A, B.length + 1 ≤ (x :: (B ++ A)).idxOf y := fun y hy => by
      obtain ⟨i, hi⟩ := List.getElem?_of_mem hy
      have := idx_at nd (i := B.length + i + 1) (y := y) (by show (x :: (B ++ A))[B.length + i + 1]? = _; rw [List.getElem?_cons_succ, List.getElem?_append_right (by omega), Nat.add_sub_cancel_left]; exact hi)
      omega
    constructor
    · rintro ⟨_, hB⟩
      rw [List.all_eq_true]
      intro y hy
      cases q : inB os s (x :: (B ++ A)) u y with
      | false => rfl
      | true =>
        have := le y q
        have := ixA y hy
        have := ixB _ hB
        omega
    · intro hA
      rw [List.all_eq_true] at hA
      refine ⟨h1, ?_⟩
      have mem := (List.mem_cons.mp hs.1).resolve_left Px
      rcases List.mem_append.mp mem with w | w
      · exact w
      · have := hA _ w
        rw [iP] at this
        cases this
theorem fstB_rot (r : Rot os s o s' o') (c : Case os s o) {A : List Str} (z : Str) : fstB os s' o' A z = fstB os s o A z := by
  unfold fstB
  rw [r.cen z]
  cases q : cenO os s o z with
  | none => rfl
  | some d =>
    obtain ⟨h1, h2, _⟩ := (cen_iff c).mp q
    show (A.all fun y => !inB os s' o' d y) = A.all fun y => !inB os s o d y
    congr 1
    funext y
    rw [r.inB h1 h2]
theorem pas_rot {s0 o0 : List Str} (c0 : Case os s0 o0) : ∀ {B A s : List Str}, Case os s (B ++ A) → stF os s (B ++ A) 0 → Rot os s0 o0 s (B ++ A) → pasC os s B = fstN os s0 o0 A B
  | [], A, s, _, _, _ => rfl
  | x :: B, A, s, c, h, r0 => by
    have r := rot (R := B ++ A) c h
    have e1 : B ++ A ++ [x] = B ++ (A ++ [x]) := List.append_assoc _ _ _
    rw [e1] at r
    show (if 0 < s.idxOf x ∧ nmAt s (os.getD (s.idxOf x - 1) 0) ∈ B then 1 else 0) + pasC os (callS os s x) B = (if fstB os s0 o0 A x = true then 1 else 0) + fstN os s0 o0 (A ++ [x]) B
    have ih := pas_rot c0 (B := B) (A := A ++ [x]) r.cs r.st (r0.trans r)
    have p1 := pas_one c h
    rw [fstB_rot r0 c0 x] at p1
    rw [ih]
    congr 1
    by_cases q : fstB os s0 o0 A x = true
    · rw [if_pos (p1.mpr q), if_pos q]
    · rw [if_neg fun w => q (p1.mp w), if_neg q]
/-- the centers -/
def cens (os : List Nat) (s o : List Str) : List Nat := (List.range (os.length + 1)).filter fun d => !(okd0 os s o d).isEmpty
theorem mem_cens : d ∈ cens os s o ↔ d ≤ os.length ∧ okd0 os s o d ≠ [] := by
  unfold cens
  rw [List.mem_filter, List.mem_range]
  constructor
  · rintro ⟨h1, h2⟩; exact ⟨by omega, by simpa using h2⟩
  · rintro ⟨h1, h2⟩; exact ⟨by omega, by simpa using h2⟩
theorem grps_cens : grpsD os s o = (cens os s o).map (grpD os s o) := by
  have : ∀ i, grpI os s o i = ((List.range i).filter fun d => !(okd0 os s o d).isEmpty).map (grpD os s o) := by
    intro i
    induction i with
    | zero => rfl
    | succ i ih =>
      show (if okd0 os s o i = [] then grpI os s o i else grpI os s o i ++ [grpD os s o i]) = _
      rw [List.range_succ, List.filter_append, List.map_append, ih]
      by_cases q : okd0 os s o i = []
      · rw [if_pos q, List.filter_cons, q]
        simp
      · rw [if_neg q, List.filter_cons, if_pos (by simpa using q)]
        rfl
  exact this _
/-- those who are first, as a list -/
def fstL (os : List Nat) (s o : List Str) : List Str → List Str → List Str
  | _, [] => []
  | A, x :: B => if fstB os s o A x = true then x :: fstL os s o (A ++ [x]) B else fstL os s o (A ++ [x]) B
theorem fstL_len : ∀ {B A : List Str}, (fstL os s o A B).length = fstN os s o A B
  | [], _ => rfl
  | x :: B, A => by
    show (if fstB os s o A x = true then x :: fstL os s o (A ++ [x]) B else fstL os s o (A ++ [x]) B).length = (if fstB os s o A x = true then 1 else 0) + fstN os s o (A ++ [x]) B
    by_cases q : fstB os s o A x = true
    · rw [if_pos q, if_pos q, List.length_cons, fstL_len]; omega
    · rw [if_neg q, if_neg q, fstL_len]; omega
theorem fstL_mem : ∀ {B A : List Str}, x ∈ fstL os s o A B ↔ ∃ C D, B = C ++ x :: D ∧ fstB os s o (A ++ C) x = true
  | [], A => ⟨fun h => (by cases h), fun ⟨C, D, e, _⟩ => (by cases C <;> cases e)⟩
  | y :: B, A => by
    show x ∈ (if fstB os s o A y = true then y :: fstL os s o (A ++ [y]) B else fstL os s o (A ++ [y]) B) ↔ _
    have ih := fstL_mem (B := B) (A := A ++ [y])
    constructor
    · intro h
      by_cases q : fstB os s o A y = true
      · rw [if_pos q] at h
        rcases List.mem_cons.mp h with h | h
        · exact ⟨[], B, by rw [h]; rfl, by rw [List.append_nil, h]; exact q⟩
        · obtain ⟨C, D, e, f⟩ := ih.mp h
          exact ⟨y :: C, D, by rw [e]; rfl, by rw [show A ++ y :: C = A ++ [y] ++ C by simp]; exact f⟩
      · rw [if_neg q] at h
        obtain ⟨C, D, e, f⟩ := ih.mp h
        exact ⟨y :: C, D, by rw [e]; rfl, by rw [show A ++ y :: C = A ++ [y] ++ C by simp]; exact f⟩
    · rintro ⟨C, D, e, f⟩
      match C, e, f with
      | [], e, f =>
        cases e
        rw [List.append_nil] at f
        rw [if_pos f]
        exact List.mem_cons_self
      | c :: C, e, f =>
        cases e
        have m := ih.mpr ⟨C, D, rfl, by rw [show A ++ [y] ++ C = A ++ y :: C by simp]; exact f⟩
        split
        · exact List.mem_cons_of_mem _ m
        · exact m
theorem fstL_sub : ∀ {B A : List Str}, (fstL os s o A B).Sublist B
  | [], _ => .slnil
  | x :: B, A => by
    show (if fstB os s o A x = true then x :: fstL os s o (A ++ [x]) B else fstL os s o (A ++ [x]) B).Sublist (x :: B)
    split
    · exact fstL_sub.cons₂ x
    · exact fstL_sub.cons x
theorem first_of {p : Str → Bool} : ∀ {l : List Str}, (∃ y ∈ l, p y = true) → ∃ A y B, l = A ++ y :: B ∧ p y = true ∧ ∀ z ∈ A, p z = false
  | [], ⟨y, h, _⟩ => by cases h
  | a :: l, ⟨y, h, hp⟩ => by
    cases q : p a with
    | true => exact ⟨[], a, l, rfl, q, fun z hz => by cases hz⟩
    | false =>
      have : y ∈ l := (List.mem_cons.mp h).resolve_left fun w => by rw [w, q] at hp; cases hp
      obtain ⟨A, z, B, e, h1, h2⟩ := first_of ⟨y, this, hp⟩
      exact ⟨a :: A, z, B, by rw [e]; rfl, h1, fun w hw => (List.mem_cons.mp hw).elim (fun v => by rw [v]; exact q) (h2 w)⟩
/-- as many passes as groups -/
theorem pas_groups (c : Case os s o) (h : stF os s o 0) : pasC os s o = (cens os s o).length := by
  have h1 := pas_rot c (B := o) (A := []) (s := s) (by rw [List.append_nil]; exact c) (by rw [List.append_nil]; exact h) (by rw [List.append_nil]; exact Rot.refl c h)
  rw [h1, ← fstL_len]
  -- each center's first person
  have ex : ∀ d ∈ cens os s o, ∃ x, x ∈ fstL os s o [] o ∧ cenO os s o x = some d := fun d hd => by
    obtain ⟨d1, d2⟩ := mem_cens.mp hd
    have hs := (stF_iff c).mp h d d1 d2
    obtain ⟨A, y, B, e, p1, p2⟩ := first_of (p := inB os s o d) (l := o) ⟨nmAt s d, hs.1, (inB_desk c d1).mpr ⟨d, .inl rfl, rfl⟩⟩
    have cy : cenO os s o y = some d := (cen_iff c).mpr ⟨d1, d2, p1⟩
    refine ⟨y, fstL_mem.mpr ⟨A, B, e, ?_⟩, cy⟩
    unfold fstB
    rw [cy, List.nil_append]
    exact List.all_eq_true.mpr fun z hz => by rw [p2 z hz]; rfl
  have back : ∀ x ∈ fstL os s o [] o, ∃ d ∈ cens os s o, cenO os s o x = some d := fun x hx => by
    obtain ⟨C, D, _, f⟩ := fstL_mem.mp hx
    unfold fstB at f
    cases q : cenO os s o x with
    | none => rw [q] at f; cases f
    | some d => exact ⟨d, mem_cens.mpr ⟨((cen_iff c).mp q).1, ((cen_iff c).mp q).2.1⟩, rfl⟩
  have uniq : ∀ x ∈ fstL os s o [] o, ∀ y ∈ fstL os s o [] o, cenO os s o x = cenO os s o y → x = y := fun x hx y hy e => by
    obtain ⟨C, D, e1, f1⟩ := fstL_mem.mp hx
    obtain ⟨C', D', e2, f2⟩ := fstL_mem.mp hy
    unfold fstB at f1 f2
    cases q : cenO os s o x with
    | none => rw [q] at f1; cases f1
    | some d =>
      have qy := e.symm.trans q
      rw [q, List.nil_append] at f1
      rw [qy, List.nil_append] at f2
      rw [List.all_eq_true] at f1 f2
      have ix := ((cen_iff c).mp q).2.2
      have iy := ((cen_iff c).mp qy).2.2
      have nx : x ∉ C' := fun w => by have := f2 x w; rw [ix] at this; cases this
      have ny : y ∉ C := fun w => by have := f1 y w; rw [iy] at this; cases this
      have E : C ++ x :: D = C' ++ y :: D' := e1.symm.trans e2
      rcases List.append_eq_append_iff.mp E with ⟨t, t1, t2⟩ | ⟨t, t1, t2⟩
      · cases t with
        | nil => rw [List.nil_append] at t2; exact (List.cons.inj t2).1
        | cons a t =>
          rw [List.cons_append] at t2
          have := (List.cons.inj t2).1
          exact absurd (by rw [t1, this]; simp) nx
      · cases t with
        | nil => rw [List.nil_append] at t2; exact (List.cons.inj t2).1.symm
        | cons a t =>
          rw [List.cons_append] at t2
          have := (List.cons.inj t2).1
          exact absurd (by rw [t1, this]; simp) ny
  have nd : (fstL os s o [] o).Nodup := c.ond.sublist fstL_sub
  have nd2 : ((fstL os s o [] o).map fun x => (cenO os s o x).getD 0).Nodup := by
    refine List.Pairwise.map _ (R := fun a b => a ∈ fstL os s o [] o ∧ b ∈ fstL os s o [] o ∧ a ≠ b) (fun a b hab e => ?_) (List.Pairwise.imp_of_mem (fun ha hb hab => ⟨ha, hb, hab⟩) nd)
    obtain ⟨d1, _, g1⟩ := back a hab.1
    obtain ⟨d2, _, g2⟩ := back b hab.2.1
    rw [g1, g2] at e
    exact hab.2.2 (uniq a hab.1 b hab.2.1 (by rw [g1, g2]; exact congrArg some e))
  have nc : (cens os s o).Nodup := List.nodup_range.sublist List.filter_sublist
  have pm : ((fstL os s o [] o).map fun x => (cenO os s o x).getD 0).Perm (cens os s o) := (List.perm_ext_iff_of_nodup nd2 nc).mpr fun d => by
    rw [List.mem_map]
    constructor
    · rintro ⟨x, hx, rfl⟩
      obtain ⟨d, hd, g⟩ := back x hx
      rw [g]
      exact hd
    · intro hd
      obtain ⟨x, hx, g⟩ := ex d hd
      exact ⟨x, hx, by rw [g]; rfl⟩
  have := pm.length_eq
  rw [List.length_map] at this
  exact this
end
end Ds
end

section
set_option Elab.async false
set_option linter.all false
set_option maxRecDepth 100000
set_option maxHeartbeats 1000000
open PySem PySem.Spec PyProof.Rows L2
namespace Ds
/-! ### the groups of an office: everybody is called -/
def T1 : Nat → Bool := fun _ => true
abbrev ok1 (os : List Nat) (d : Nat) : List Nat := okd os T1 0 d
abbrev sup (os : List Nat) (d : Nat) : Nat := os.getD (d - 1) 0
def cenL (os : List Nat) : List Nat := (List.range (os.length + 1)).filter fun d => !(ok1 os d).isEmpty
section
variable {os : List Nat} {left cs : List Nat} {d e last : Nat}
theorem op1 (h : Off os) (he : e ≤ os.length) : op os T1 e = true ↔ ok1 os e = [] := by
  rw [op_okd h he]
  simp [T1]
theorem mem_ok1 : e ∈ ok1 os d ↔ 0 < e ∧ e ≤ os.length ∧ sup os e = d ∧ op os T1 e = true := mem_okd
theorem sup_lt (h : Off os) (h1 : 0 < e) (h2 : e ≤ os.length) : sup os e < e := off_lt h h1 h2
theorem asc_ext : ∀ {l m : List Nat}, l.Pairwise (· < ·) → m.Pairwise (· < ·) → (∀ x, x ∈ l ↔ x ∈ m) → l = m
  | [], [], _, _, _ => rfl
  | [], y :: m, _, _, h => absurd ((h y).mpr List.mem_cons_self) (by simp)
  | x :: l, [], _, _, h => absurd ((h x).mp List.mem_cons_self) (by simp)
  | x :: l, y :: m, h1, h2, h => by
    obtain ⟨a1, a2⟩ := List.pairwise_cons.mp h1
    obtain ⟨b1, b2⟩ := List.pairwise_cons.mp h2
    have e : x = y := by
      rcases List.mem_cons.mp ((h x).mp List.mem_cons_self) with q | q
      · exact q
      · rcases List.mem_cons.mp ((h y).mpr List.mem_cons_self) with r | r
        · exact r.symm
        · have := a1 y r
          have := b1 x q
          omega
    subst e
    rw [asc_ext a2 b2 fun z => ?_]
    constructor
    · intro hz
      rcases List.mem_cons.mp ((h z).mp (List.mem_cons_of_mem _ hz)) with q | q
      · have := a1 z hz
        omega
      · exact q
    · intro hz
      rcases List.mem_cons.mp ((h z).mpr (List.mem_cons_of_mem _ hz)) with q | q
      · have := b1 z hz
        omega
      · exact q
/-- what stands while groups are removed -/
structure RI (os left cs : List Nat) : Prop where
  asc : left.Pairwise (· < ·)
  le : ∀ d ∈ left, d ≤ os.length
  out : ∀ d, d ≤ os.length → d ∉ left → d ∈ cs ∨ (0 < d ∧ sup os d ∈ cs ∧ op os T1 d = true)
  cin : ∀ d ∈ cs, d ≤ os.length ∧ d ∉ left ∧ (∀ e ∈ ok1 os d, e ∉ left) ∧ ok1 os d ≠ []
  nd : cs.Nodup
theorem RI.start : RI os (List.range (os.length + 1)) [] where
  asc := List.pairwise_lt_range
  le := fun d h => by have := List.mem_range.mp h; omega
  out := fun d h n => absurd (List.mem_range.mpr (by omega)) n
  cin := fun d h => by cases h
  nd := .nil
theorem RI.open (h : Off os) (r : RI os left cs) (he : e ∈ left) (hk : ∀ x ∈ kids os e, x ∉ left) : op os T1 e = true := by
  have le := r.le e he
  rw [op_eq h le]
  rw [Bool.and_eq_true]
  refine ⟨rfl, List.all_eq_true.mpr fun c hc => ?_⟩
  obtain ⟨m1, m2, m3⟩ := mem_kids.mp hc
  rcases r.out c m2 (hk c hc) with z | ⟨z1, z2, z3⟩
  · have := (r.cin c z).2.2.2
    cases q : op os T1 c with
    | false => rfl
    | true => exact absurd ((op1 h m2).mp q) this
  · rw [show sup os c = e from m3] at z2
    exact absurd he (r.cin e z2).2.1
/-- the deepest desk that is left -/
structure Deep (os left : List Nat) (last : Nat) : Prop where
  mem : last ∈ left
  max : ∀ d ∈ left, dep os d ≤ dep os last
theorem dep_kid (h : Off os) {x : Nat} (hx : x ∈ kids os e) : dep os x = dep os e + 1 := by
  obtain ⟨m1, m2, m3⟩ := mem_kids.mp hx
  rw [h.dep m1 m2]
  rw [show os.getD (x - 1) 0 = e from m3]
theorem RI.deep_open (h : Off os) (r : RI os left cs) (p : Deep os left last) (he : e ∈ left) (hd : dep os e = dep os last) : op os T1 e = true := r.open h he fun x hx hl => by
  have := dep_kid h hx
  have := p.max x hl
  omega
theorem RI.pos (h : Off os) (r : RI os left cs) (p : Deep os left last) (h2 : 1 < left.length) : 0 < last := by
  rcases Nat.eq_zero_or_pos last with z | z
  · exfalso
    subst z
    have d0 : ∀ d ∈ left, d = 0 := fun d hd => by
      rcases Nat.eq_zero_or_pos d with w | w
      · exact w
      · have e1 := h.dep w (r.le d hd)
        have e2 := p.max d hd
        have e3 : dep os 0 = 0 := by
          by_cases q : dep os 0 = 0
          · exact q
          · have e4 := depL_len os.length os rfl
            unfold dep depL at q
            exact absurd (by
              have : ∀ (l acc : List Nat), 0 < acc.length → (l.foldl (fun acc u => acc ++ [acc.getD u 0 + 1]) acc).getD 0 0 = acc.getD 0 0 := by
                intro l
                induction l with
                | nil => intro acc _; rfl
                | cons u l ih =>
                  intro acc ha
                  rw [List.foldl_cons, ih _ (by simp), getD_app ha]
              rw [this os [0] (by decide)]
              rfl) q
        omega
    match left, h2, r.asc, d0 with
    | a :: b :: l, _, asc, d0 =>
      have := (List.pairwise_cons.mp asc).1 b (by simp)
      have := d0 a (by simp)
      have := d0 b (by simp)
      omega
  · exact z
theorem RI.up_in (h : Off os) (r : RI os left cs) (p : Deep os left last) (h0 : 0 < last) : last ∈ ok1 os (sup os last) ∧ sup os last ∈ left := by
  have le := r.le last p.mem
  have m : last ∈ ok1 os (sup os last) := mem_ok1.mpr ⟨h0, le, rfl, r.deep_open h p p.mem rfl⟩
  refine ⟨m, Classical.byContradiction fun n => ?_⟩
  have ul : sup os last ≤ os.length := by have := sup_lt h h0 le; omega
  rcases r.out _ ul n with z | ⟨z1, z2, z3⟩
  · exact (r.cin _ z).2.2.1 last m p.mem
  · rw [(op1 h ul).mp z3] at m
    cases m
theorem RI.under (h : Off os) (r : RI os left cs) (p : Deep os left last) (h0 : 0 < last) : (left.filter fun d => decide (0 < d) && decide (sup os d = sup os last)) = ok1 os (sup os last) := by
  have le := r.le last p.mem
  have ul := (r.up_in h p h0).2
  refine asc_ext (r.asc.filter _) okd_sorted fun e => ?_
  rw [List.mem_filter, mem_ok1, Bool.and_eq_true, decide_eq_true_eq, decide_eq_true_eq]
  constructor
  · rintro ⟨h1, h2, h3⟩
    refine ⟨h2, r.le e h1, h3, r.deep_open h p h1 ?_⟩
    rw [h.dep h2 (r.le e h1), h.dep h0 le]
    exact congrArg (dep os · + 1) h3
  · rintro ⟨h1, h2, h3, h4⟩
    refine ⟨Classical.byContradiction fun n => ?_, h1, h3⟩
    rcases r.out e h2 n with z | ⟨z1, z2, z3⟩
    · exact (r.cin e z).2.2.2 ((op1 h h2).mp h4)
    · rw [h3] at z2
      exact (r.cin _ z2).2.1 ul
theorem RI.step (h : Off os) (r : RI os left cs) (p : Deep os left last) (h0 : 0 < last) : RI os (left.filter fun d => !decide (d = sup os last) && !decide (d ∈ ok1 os (sup os last))) (cs ++ [sup os last]) ∧ (left.filter fun d => !decide (d = sup os last) && !decide (d ∈ ok1 os (sup os last))).length < left.length := by
  have le := r.le last p.mem
  obtain ⟨um, ul⟩ := r.up_in h p h0
  have ule := r.le _ ul
  have mf : ∀ d, d ∈ (left.filter fun d => !decide (d = sup os last) && !decide (d ∈ ok1 os (sup os last))) ↔ d ∈ left ∧ d ≠ sup os last ∧ d ∉ ok1 os (sup os last) := fun d => by
    rw [List.mem_filter]
    simp
  refine ⟨⟨r.asc.filter _, fun d hd => r.le d ((mf d).mp hd).1, fun d hd n => ?_, fun d hd => ?_, ?_⟩, ?_⟩
  · by_cases hl : d ∈ left
    · by_cases e1 : d = sup os last
      · exact .inl (by rw [e1]; simp)
      · by_cases e2 : d ∈ ok1 os (sup os last)
        · obtain ⟨k1, k2, k3, k4⟩ := mem_ok1.mp e2
          exact .inr ⟨k1, by rw [k3]; simp, k4⟩
        · exact absurd ((mf d).mpr ⟨hl, e1, e2⟩) n
    · rcases r.out d hd hl with z | ⟨z1, z2, z3⟩
      · exact .inl (List.mem_append_left _ z)
      · exact .inr ⟨z1, List.mem_append_left _ z2, z3⟩
  · rcases List.mem_append.mp hd with z | z
    · obtain ⟨c1, c2, c3, c4⟩ := r.cin d z
      exact ⟨c1, fun w => c2 ((mf d).mp w).1, fun e he w => c3 e he ((mf e).mp w).1, c4⟩
    · have e : d = sup os last := by simpa using z
      subst e
      exact ⟨ule, fun w => ((mf _).mp w).2.1 rfl, fun e he w => ((mf e).mp w).2.2 he, fun w => by rw [w] at um; cases um⟩
  · refine List.nodup_append.mpr ⟨r.nd, by simp, fun a ha b hb => ?_⟩
    have e : b = sup os last := by simpa using hb
    subst e
    exact fun z => (r.cin a ha).2.1 (by rw [z]; exact ul)
  · refine List.length_filter_lt_length_iff_exists.mpr ⟨sup os last, ul, by simp⟩
/-- nobody is left, or one -/
theorem RI.done (h : Off os) (r : RI os left cs) (h1 : left.length ≤ 1) : cs.Perm (cenL os) ∧ (left = [0] ↔ ok1 os 0 = []) := by
  have full : ∀ d, d ≤ os.length → ok1 os d ≠ [] → d ∈ cs := fun d hd hne => by
    by_cases hl : d ∈ left
    · exfalso
      obtain ⟨e, he⟩ := List.exists_mem_of_ne_nil _ hne
      obtain ⟨k1, k2, k3, k4⟩ := mem_ok1.mp he
      have hlt := sup_lt h k1 k2
      have one : left = [d] := by
        match left, h1, hl with
        | [a], _, hl => rw [show d = a by simpa using hl]
      by_cases el : e ∈ left
      · rw [one] at el
        have : e = d := by simpa using el
        omega
      · rcases r.out e k2 el with z | ⟨z1, z2, z3⟩
        · exact (r.cin e z).2.2.2 ((op1 h k2).mp k4)
        · rw [k3] at z2
          exact (r.cin d z2).2.1 hl
    · rcases r.out d hd hl with z | ⟨z1, z2, z3⟩
      · exact z
      · exact absurd ((op1 h hd).mp z3) hne
  refine ⟨(List.perm_ext_iff_of_nodup r.nd (List.Pairwise.filter _ List.nodup_range)).mpr fun d => ?_, ?_⟩
  · rw [List.mem_filter, List.mem_range]
    constructor
    · intro hd
      obtain ⟨c1, _, _, c4⟩ := r.cin d hd
      exact ⟨by omega, by simpa using c4⟩
    · rintro ⟨h1, h2⟩
      exact full d (by omega) (by simpa using h2)
  · constructor
    · intro e
      apply Classical.byContradiction
      intro n
      have := (r.cin 0 (full 0 (Nat.zero_le _) n)).2.1
      rw [e] at this
      exact this (by simp)
    · intro e
      have m0 : 0 ∈ left := Classical.byContradiction fun n => by
        rcases r.out 0 (Nat.zero_le _) n with z | ⟨z1, _⟩
        · exact (r.cin 0 z).2.2.2 e
        · omega
      match left, h1, m0 with
      | [a], _, m0 => rw [show 0 = a by simpa using m0]
theorem cenL_asc : (cenL os).Pairwise (· < ·) := List.Pairwise.filter _ List.pairwise_lt_range
theorem mem_cenL : d ∈ cenL os ↔ d ≤ os.length ∧ ok1 os d ≠ [] := by
  unfold cenL
  rw [List.mem_filter, List.mem_range]
  simp
  omega
end
end Ds
end

section
set_option Elab.async false
set_option linter.all false
set_option maxRecDepth 100000
set_option maxHeartbeats 1000000
open PySem PySem.Spec PyProof.Rows L2
namespace Ds
/-! ### what several laws need: shown values -/
section
variable {os : List Nat} {ss ord : List Str}
theorem stat_fit {d : Nat} : Fit 0 10 (.str (stat os ss ord d)) := by
  have f : ∀ x : Str, x.cps.toList.all (fun c => decide (c < 16 ^ 8)) = true → x.cps.size ≤ 10 → Fit 0 10 (.str x) := fun x h1 h2 => fit_str (fun c hc => of_decide_eq_true (List.all_eq_true.mp h1 c hc)) h2
  unfold stat
  split
  · exact f _ (by decide +kernel) (by decide +kernel)
  · split
    · exact f _ (by decide +kernel) (by decide +kernel)
    · split
      · exact f _ (by decide +kernel) (by decide +kernel)
      · exact f _ (by decide +kernel) (by decide +kernel)
theorem stats_len : (stats os ss ord).length = os.length + 1 := by simp [stats, desks]
theorem stats_ok (h : Off os) : okR (.list (sts (stats os ss ord))) := by
  refine (fit_list (k := 0) (w := 10) (n := 40) (fun d hd => ?_) ?_).okR
  · obtain ⟨x, hx, rfl⟩ := List.mem_map.mp hd
    unfold stats at hx
    obtain ⟨i, _, rfl⟩ := List.mem_map.mp hx
    exact stat_fit
  · rw [sts_len, stats_len]
    have := h.1
    omega
theorem ok_bool {b : Bool} : okR (.bool b) := fit_bool.okR (by decide) (by decide)
theorem lRepr_ok {ds : List PyData} (h : okR (.list ds)) : lRepr ds = some (.str (PyData.list ds).shown) := by
  unfold lRepr
  rw [if_pos h]
theorem nm_fit {s : Str} (h : Nm s) : Fit 0 8 (.str s) := fit_str (fun c hc => Nat.lt_of_le_of_lt (h.2.2 c hc).2 (by decide)) h.2.1
theorem sts_fit {l : List Str} (h : ∀ s ∈ l, Nm s) (hn : l.length ≤ 40) : Fit 1 400 (.tuple (sts l)) := by
  refine (fit_tup (k := 0) (w := 8) (n := 40) (fun d hd => ?_) (by rw [sts_len]; exact hn)).mono (by decide) (by decide)
  obtain ⟨x, hx, rfl⟩ := List.mem_map.mp hd
  exact nm_fit (h x hx)
theorem sts_fitL {l : List Str} (h : ∀ s ∈ l, Nm s) (hn : l.length ≤ 41) : Fit 1 400 (.list (sts l)) := by
  refine (fit_list (k := 0) (w := 8) (n := 41) (fun d hd => ?_) (by rw [sts_len]; exact hn)).mono (by decide) (by decide)
  obtain ⟨x, hx, rfl⟩ := List.mem_map.mp hd
  exact nm_fit (h x hx)
theorem nat_fit {n : Nat} (h : n < 1000000) : Fit 0 100 (.int (n : Nat)) := fit_int (by rw [Int.natAbs_natCast]; exact Nat.lt_trans h (by decide))
theorem nts_fitT {l : List Nat} (h : ∀ x ∈ l, x < 1000000) (hn : l.length ≤ 40) : Fit 1 5000 (.tuple (nts l)) := by
  refine (fit_tup (k := 0) (w := 100) (n := 40) (fun d hd => ?_) (by rw [nts_len]; exact hn)).mono (by decide) (by decide)
  obtain ⟨x, hx, rfl⟩ := List.mem_map.mp hd
  exact nat_fit (h x hx)
theorem nts_fitL {l : List Nat} (h : ∀ x ∈ l, x < 1000000) (hn : l.length ≤ 40) : Fit 1 5000 (.list (nts l)) := by
  refine (fit_list (k := 0) (w := 100) (n := 40) (fun d hd => ?_) (by rw [nts_len]; exact hn)).mono (by decide) (by decide)
  obtain ⟨x, hx, rfl⟩ := List.mem_map.mp hd
  exact nat_fit (h x hx)
theorem Off.small {os : List Nat} (h : Off os) : ∀ x ∈ os, x < 1000000 := fun x hx => by
  obtain ⟨i, hi⟩ := List.getElem?_of_mem hx
  have h1 := h.2 i x hi
  have h2 := (List.getElem?_eq_some_iff.mp hi).1
  have := h.1
  omega
theorem Case.fit3 (c : Case os ss ord) : okR (.list [.tuple (nts os), .tuple (sts ss), .tuple (sts ord)]) := by
  have h1 := nts_fitT c.off.small (by have := c.off.1; omega)
  have h2 := sts_fit c.nm c.small
  have h3 := sts_fit (fun s hs => c.nm s (c.osub s hs)) c.osmall
  refine (fit_list (k := 1) (w := 5000) (n := 3) (fun d hd => ?_) (by simp)).okR
  simp only [List.mem_cons, List.not_mem_nil, or_false] at hd
  rcases hd with rfl | rfl | rfl
  · exact h1
  · exact h2.mono (Nat.le_refl _) (by decide)
  · exact h3.mono (Nat.le_refl _) (by decide)
theorem Case.fit_state (c : Case os ss ord) {k : Nat} (hk : k < 1000000) : okR (.list [.int (k : Nat), .tuple (sts ss)]) ∧ okR (.list [.tuple (sts ss), .int (k : Nat)]) := by
  have h2 := (sts_fit c.nm c.small).mono (Nat.le_refl 1) (show 400 ≤ 5000 by decide)
  have h1 : Fit 1 5000 (.int (k : Nat)) := (nat_fit hk).mono (by decide) (by decide)
  constructor
  · refine (fit_list (k := 1) (w := 5000) (n := 3) (fun d hd => ?_) (by simp)).okR
    simp only [List.mem_cons, List.not_mem_nil, or_false] at hd
    rcases hd with rfl | rfl
    · exact h1
    · exact h2
  · refine (fit_list (k := 1) (w := 5000) (n := 3) (fun d hd => ?_) (by simp)).okR
    simp only [List.mem_cons, List.not_mem_nil, or_false] at hd
    rcases hd with rfl | rfl
    · exact h2
    · exact h1
theorem rng_two {S : En} : sRng1 (sCons (sK (.int 2)) sNil) S = .ok [.int 0, .int 1] S := by
  rw [rng1_run (S1 := S) (ds := [.int 2]) (by simp) (rng1_ok (by decide) (by decide))]
  rfl
theorem loop_two {g : GT} {b : SS} {d e : PyData} {S S1 S2 S3 S4 : En} (h1 : g d S = .nx S1) (h2 : b S1 = .nx S2) (h3 : g e S2 = .nx S3) (h4 : b S3 = .nx S4) : loopL g b [d, e] S = .nx S4 := by
  rw [loopL, h1]
  show (match b S1 with | .nx S2 => loopL g b [e] S2 | .ct S2 => loopL g b [e] S2 | .bk S2 => .nx S2 | r => r) = _
  rw [h2]
  show loopL g b [e] S2 = _
  rw [loopL, h3]
  show (match b S3 with | .nx S2 => loopL g b [] S2 | .ct S2 => loopL g b [] S2 | .bk S2 => .nx S2 | r => r) = _
  rw [h4]
  rfl
theorem g_uns (c : Case os ss ord) : gInT true (.str (Str.ofString "unsettled")) (.list (sts (stats os ss ord))) = some (.bool (settledB os ss ord)) := by
  have hm := settled_stat c
  show (if flatD (.str (Str.ofString "unsettled")) = true ∧ (sts (stats os ss ord)).all flatD = true then some (PyData.bool (if true = true then !inD (.str (Str.ofString "unsettled")) (sts (stats os ss ord)) else inD (.str (Str.ofString "unsettled")) (sts (stats os ss ord)))) else none) = _
  rw [if_pos ⟨rfl, flat_sts⟩, inD_sts, if_pos rfl]
  have e : (!decide (Str.ofString "unsettled" ∈ stats os ss ord)) = settledB os ss ord := by
    cases q : settledB os ss ord with
    | false => rw [decide_eq_true (hm.mpr q)]; rfl
    | true => rw [decide_eq_false fun z => by rw [hm.mp z] at q; cases q]; rfl
  rw [e]
end
/-! ### the laws' common ends -/
theorem cutD_mem {ds : List PyData} {lo hi : Option Int} {x : PyData} (h : x ∈ cutD ds lo hi) : x ∈ ds := List.mem_of_mem_drop (List.mem_of_mem_take h)
theorem cutD_len {ds : List PyData} {lo hi : Option Int} : (cutD ds lo hi).length ≤ ds.length := by unfold cutD; simp; omega
@[simp] theorem g_cutL {ds : List PyData} {lo hi : Option Int} : gCut (.list ds) lo hi = some (.list (cutD ds lo hi)) := rfl
theorem g_addL {xs ys : List PyData} (h : xs.length + ys.length ≤ 16777216) : gAdd (.list xs) (.list ys) = some (.list (xs ++ ys)) := by
  show (if xs.length + ys.length ≤ sizeLine then some (PyData.list (xs ++ ys)) else none) = _
  rw [if_pos (by rw [sizeLine_eq]; exact h)]
theorem cell_z {ns : List Int} {i : Nat} {z : PyData} {k : Int} (hz : (cutD (ns.map PyData.int) none (some k) ++ [.int 0])[i]? = some z) : ∃ c : Int, z = .int c := by
  have hm := List.mem_of_getElem? hz
  rw [List.mem_append, List.mem_singleton] at hm
  rcases hm with hm | rfl
  · have := cutD_mem hm
    rw [List.mem_map] at this
    obtain ⟨c, _, e⟩ := this
    exact ⟨c, e.symm⟩
  · exact ⟨0, rfl⟩
theorem t_cells {L : List PyData} {k : Int} {S : En} (h0 : L.length ≤ 63) (h : val? S[0]? = some (.list L)) : (sIL (sBin gAdd (sCut (sVar 0) sP0 (sP1 (sK (.int k)))) (sNE (sLst (sCons (sK (.int 0)) sNil))))) S = .ok (cutD L none (some k) ++ [.int 0]) S := by
  have hlen : (cutD L none (some k)).length ≤ 63 := Nat.le_trans cutD_len h0
  have qa : gAdd (.list (cutD L none (some k))) (.list [.int 0]) = some (.list (cutD L none (some k) ++ [.int 0])) := g_addL (by rw [List.length_singleton]; omega)
  simp [h, qa, sizeLine]
theorem pick3 {r a b c : Int} (r0 : 0 ≤ r) (r1 : r < 3) (a0 : 0 < a) (a1 : a ≤ 40) (b0 : 0 < b) (b1 : b ≤ 40) (c0 : 0 < c) (c1 : c ≤ 40) : ∃ m : Int, 0 < m ∧ m ≤ 40 ∧ atI [PyData.int a, .int b, .int c] r = some (.int m) := by
  rw [atI_nn r0]
  have : r = 0 ∨ r = 1 ∨ r = 2 := by omega
  rcases this with q | q | q <;> subst q
  · exact ⟨a, a0, a1, rfl⟩
  · exact ⟨b, b0, b1, rfl⟩
  · exact ⟨c, c0, c1, rfl⟩
theorem let_nm {s : Str} (h : (decide (1 ≤ s.length) && decide (s.length ≤ 8) && s.cps.toList.all fun c => decide (97 ≤ c) && decide (c ≤ 122)) = true) : Nm s := by
  simp only [Bool.and_eq_true, decide_eq_true_eq, List.all_eq_true] at h
  exact ⟨h.1.1, h.1.2, h.2⟩
/-- a small case, by its look -/
def caseB (os : List Nat) (ss ord : List Str) : Bool := decide (os.length ≤ 39) && (List.range os.length).all (fun i => decide (os.getD i 0 ≤ i)) && decide (ss.length = os.length + 1) && decide ss.Nodup && (ss.all fun s => decide (1 ≤ s.length) && decide (s.length ≤ 8) && s.cps.toList.all fun c => decide (97 ≤ c) && decide (c ≤ 122)) && decide ord.Nodup && ord.all fun s => decide (s ∈ ss)
theorem caseB_ok {os : List Nat} {ss ord : List Str} (h : caseB os ss ord = true) : Case os ss ord := by
  simp only [caseB, Bool.and_eq_true, decide_eq_true_eq] at h
  obtain ⟨⟨⟨⟨⟨⟨h1, h2⟩, h3⟩, h4⟩, h5⟩, h6⟩, h7⟩ := h
  refine ⟨⟨h1, fun i x e => ?_⟩, h3, h4, fun s hs => let_nm (List.all_eq_true.mp h5 s hs), h6, fun s hs => of_decide_eq_true (List.all_eq_true.mp h7 s hs)⟩
  have := of_decide_eq_true (List.all_eq_true.mp h2 i (List.mem_range.mpr (List.getElem?_eq_some_iff.mp e).1))
  rw [List.getD_eq_getElem?_getD, e] at this
  exact this
/-- one turn's office, seating, order -/
theorem made {k : Nat} {bag : List PyData} (hb : Sg k bag) (hk : k < 500000) {m : Int} (m0 : 0 < m) (m1 : m ≤ 40) : ∃ os ss ord bag2 bag3 bag4 T2 T3 T4, Case os ss ord ∧ Sg (k + 300) bag4 ∧ (os.length : Int) < m ∧ m__law_office [.io bag, .val (.int m)] = .ok (.val (.tuple (nts os))) (.io bag2 :: T2) ∧ m__law_names [.io bag2, .val (.int ((os.length + 1 : Nat) : Int))] = .ok (vS ss) (.io bag3 :: T3) ∧ m__law_called [.io bag3, vS ss] = .ok (vS ord) (.io bag4 :: T4) := by
  obtain ⟨os, bag2, T2, b1, b2, b3, e2⟩ := law_off m0 m1 (by omega) hb
  obtain ⟨ss, bag3, T3, c1, c2, c3, c4, e3⟩ := law_names (n := os.length + 1) b2 (by omega) (by have := b1.1; omega)
  obtain ⟨ord, bag4, T4, d1, d2, d3, e4⟩ := law_called (ss := ss) c4 (by have := b1.1; omega) (by have := b1.1; omega) c2
  exact ⟨os, ss, ord, bag2, bag3, bag4, T2, T3, T4, ⟨b1, c1, c2, c3, d1, d2⟩, d3.mono (by have := b1.1; omega), b3, e2, e3, e4⟩
end Ds
end

section
set_option Elab.async false
set_option linter.all false
set_option maxRecDepth 100000
set_option maxHeartbeats 1000000
open PySem PySem.Spec PyProof.Rows L2
namespace Ds
/-! ### the program's functions of groups, at an office -/
def GD1 (os : List Nat) (d : Nat) : PyData := .tuple [.int (d : Nat), .list (nts (ok1 os d))]
def GDs (os : List Nat) : List PyData := (cenL os).map (GD1 os)
def rows1 (os : List Nat) : List PyData := (rowsC os T1 0).map .list
section
variable {os : List Nat}
theorem cals1 : cals os T1 = List.replicate (os.length + 1) (PyData.bool true) := by
  unfold cals
  apply List.ext_getElem?
  intro i
  rw [List.getElem?_map]
  by_cases hi : i < os.length + 1
  · rw [List.getElem?_range hi, List.getElem?_replicate, if_pos hi]; rfl
  · rw [List.getElem?_eq_none (by rw [List.length_range]; omega), List.getElem?_replicate, if_neg hi]; rfl
theorem repN_run {s1 : SN} {s2 : SE} {S S1 S2 : En} {d : PyData} {k : Int} {n : Nat} (h1 : s1 S = .ok [d] S1) (h2 : s2 S1 = .ok (.int k) S2) (hk : k = (n : Nat)) (hn : n ≤ 1000000) : sRepN s1 s2 S = .ok (List.replicate n d) S2 := by
  subst hk
  have b1 : -(2 ^ 63) ≤ (n : Int) ∧ (n : Int) < 2 ^ 63 ∧ [d].length * (n : Int).toNat ≤ sizeLine := by rw [sizeLine_eq, List.length_singleton]; omega
  rw [r_sRepN, h1, bnd_ok, h2, noEx_ok, bnd_ok]
  show (if -(2 ^ 63) ≤ (n : Int) ∧ (n : Int) < 2 ^ 63 ∧ [d].length * (n : Int).toNat ≤ sizeLine then _ else _) = _
  rw [if_pos b1, Int.toNat_natCast, flat_rep]
theorem t_lw0 {O : List PyData} {n : Nat} (hk : (O.length : Int) + 1 = (n : Nat)) (hn : n ≤ 1000000) : sRepN (sLst (sCons (sK (.bool true)) sNil)) (sBin gAdd (sCallB gLen (sCons (sVar 0) sNil)) (sK (.int 1))) [.val (.tuple O)] = .ok (List.replicate n (.bool true)) [.val (.tuple O)] :=
  repN_run (S1 := [.val (.tuple O)]) (k := (O.length : Int) + 1) (by simp [sizeLine]) (by simp) hk hn
theorem t_lw {M : Mf} {O Z L : List PyData} {T : En} {s : SN} (hs : s [.val (.tuple O)] = .ok Z [.val (.tuple O)]) (e : M [.val (.tuple O), .val (.list Z)] = .ok (.val (.list L)) T) : sRet (sCallV M (sGv (sVar 0) (sGv (sNE s) sG0))) [.val (.tuple O)] = .rt (.val (.list L)) [.val (.tuple O)] := by
  simp [hs, e]
theorem lower_ok (h : Off os) : ∃ T, m_lower_desks [vO os] = .ok (.val (.list (rows1 os))) T := by
  obtain ⟨T, e⟩ := opend_ok (cal := T1) h
  have h39 := h.1
  rw [cals1] at e
  refine ⟨[vO os], ?_⟩
  rw [m_lower_desks, r_mB]
  show (c_lower_desks [vO os]).fin = _
  rw [show c_lower_desks _ = _ from t_lw (t_lw0 (n := os.length + 1) (by rw [nts_len]; omega) (by omega)) e]
  rfl
theorem enum1 : enumD (rows1 os) = (List.range (os.length + 1)).map fun d => GD1 os d := by
  apply List.ext_getElem?
  intro i
  have hl : (enumD (rows1 os)).length = os.length + 1 := by rw [enumD_len]; unfold rows1; rw [List.length_map, rowsC_len]
  rw [List.getElem?_map]
  by_cases hi : i < os.length + 1
  · rw [List.getElem?_range hi]
    obtain ⟨z, hz⟩ : ∃ z, (enumD (rows1 os))[i]? = some z := ⟨_, List.getElem?_eq_getElem (by omega)⟩
    obtain ⟨x, hx, rfl⟩ := enumD_get hz
    unfold rows1 at hx
    rw [List.getElem?_map, rowsC_get (by omega)] at hx
    cases hx
    exact hz
  · rw [List.getElem?_eq_none (by omega), List.getElem?_eq_none (by rw [List.length_range]; omega)]
    rfl
theorem gds_eq : ((((List.range (os.length + 1)).map fun d => GD1 os d).filter fun z => match z with | .tuple [_, .list l] => !l.isEmpty | _ => false).map id) = GDs os := by
  rw [List.map_id, List.filter_map]
  unfold GDs cenL
  refine congrArg (List.map (GD1 os)) (List.filter_congr fun d _ => ?_)
  show (!(nts (ok1 os d)).isEmpty) = _
  unfold nts
  rw [List.isEmpty_map]
theorem t_gr0 {M : Mf} {o : PyData} {T : En} (e : M [.val o] = .ok (.val .none) T) : sDrop (sCallV M (sGv (sVar 0) sG0)) [.val o, .nil, .nil] = .nx [.val o, .nil, .nil] := by simp [e]
theorem t_gr1 {M : Mf} {o : PyData} {L Z : List PyData} {T : En} {g : GT} {t : STt} {s : SE} (e : M [.val o] = .ok (.val (.list L)) T) (hl : (enumD L).length < 16777216) (lc : lcL g t s [1, 2] (enumD L) [.val o, .nil, .nil] = .ok Z [.val o, .nil, .nil]) :
    sRetNew (sLc (sIEnL (sCons (sCallV M (sGv (sVar 0) sG0)) sNil)) g t s [1, 2]) [.val o, .nil, .nil] = .rt (.own Z) [.val o, .nil, .nil] := by
  generalize hE : enumD L = E at *
  simp [e, hE, wipeS, lc, unwipe, sizeLine, hl]
theorem groups_ok (h : Off os) : ∃ T, m_groups [vO os] = .ok (.own (GDs os)) T := by
  obtain ⟨T, e⟩ := lower_ok h
  obtain ⟨T0, e0⟩ := need_off h
  have h39 := h.1
  have lc : lcL (gTp (gNC (gNm 1) (gNC (gNm 2) gN0))) (sTst (sBin gGt (sRd lLen (sLVar 2)) (sK (.int 0)))) (sTup (sCons (sVar 1) (sCons (sVar 2) sNil))) [1, 2] (enumD (rows1 os)) [vO os, .nil, .nil] = .ok (GDs os) [vO os, .nil, .nil] := by
    rw [enum1, lc_filtF (c := fun z => match z with | .tuple [_, .list l] => !l.isEmpty | _ => false) (f := id) fun z hz => ?_]
    · rw [gds_eq]
    · obtain ⟨d, _, rfl⟩ := List.mem_map.mp hz
      unfold GD1
      generalize nts (ok1 os d) = L
      refine ⟨[vO os, .val (.int (d : Nat)), .val (.list L)], [vO os, .val (.int (d : Nat)), .val (.list L)], by simp [gTp, gNC], ?_, by simp [wipeS], fun _ => ⟨[vO os, .val (.int (d : Nat)), .val (.list L)], by simp [sizeLine], by simp [wipeS]⟩⟩
      cases L with
      | nil => simp [lLen]
      | cons x l =>
        have : (0 : Int) < (l.length : Int) + 1 := by omega
        simp [lLen, this]
  refine ⟨[vO os, .nil, .nil], ?_⟩
  rw [m_groups, r_mB]
  show (c_groups [vO os, .nil, .nil]).fin = _
  have u := t_gr1 (M := m_lower_desks) e (by rw [enum1, List.length_map, List.length_range]; omega) lc
  show (sSeq (sDrop (sCallV m_need_office (sGv (sVar 0) sG0))) (sRetNew (sLc (sIEnL (sCons (sCallV m_lower_desks (sGv (sVar 0) sG0)) sNil)) (gTp (gNC (gNm 1) (gNC (gNm 2) gN0))) (sTst (sBin gGt (sRd lLen (sLVar 2)) (sK (.int 0)))) (sTup (sCons (sVar 1) (sCons (sVar 2) sNil))) [1, 2])) [vO os, .nil, .nil]).fin = _
  rw [r_sSeq, show sDrop (sCallV m_need_office (sGv (sVar 0) sG0)) _ = _ from t_gr0 e0, sq_nx, u]
  rfl
theorem t_al0 {M : Mf} {o : PyData} {T : En} (e : M [.val o] = .ok (.val .none) T) : sDrop (sCallV M (sGv (sVar 0) sG0)) [.val o] = .nx [.val o] := by simp [e]
theorem t_al {M : Mf} {o : PyData} {L l : List PyData} {T : En} (e : M [.val o] = .ok (.val (.list L)) T) (h0 : atI L 0 = some (.list l)) : sRet (sBin gEq (sRd lLen (sEL (sBin gIx (sCallV M (sGv (sVar 0) sG0)) (sK (.int 0))))) (sK (.int 0))) [.val o] = .rt (.val (.bool l.isEmpty)) [.val o] := by
  cases l with
  | nil => simp [e, h0, lLen]
  | cons x l =>
    have : ¬ ((l.length : Int) + 1 = 0) := by omega
    simp [e, h0, lLen, this]
theorem alone_ok (h : Off os) : ∃ T, m_is_alone [vO os] = .ok (.val (.bool (ok1 os 0).isEmpty)) T := by
  obtain ⟨T, e⟩ := lower_ok h
  obtain ⟨T0, e0⟩ := need_off h
  have h0 : atI (rows1 os) 0 = some (.list (nts (ok1 os 0))) := by
    rw [atI_nn (by omega)]
    unfold rows1
    rw [List.getElem?_map]
    show ((rowsC os T1 0)[0]?).map PyData.list = _
    rw [rowsC_get (Nat.zero_le _)]
    rfl
  refine ⟨[vO os], ?_⟩
  rw [m_is_alone, r_mB]
  show (sSeq (sDrop (sCallV m_need_office (sGv (sVar 0) sG0))) (sRet (sBin gEq (sRd lLen (sEL (sBin gIx (sCallV m_lower_desks (sGv (sVar 0) sG0)) (sK (.int 0))))) (sK (.int 0)))) [vO os]).fin = _
  rw [r_sSeq, t_al0 e0, sq_nx, t_al e h0]
  show R.ok (Sl.val (.bool (nts (ok1 os 0)).isEmpty)) _ = _
  unfold nts
  rw [List.isEmpty_map]
  rfl
end
end Ds
end

section
set_option Elab.async false
set_option linter.all false
set_option maxRecDepth 100000
set_option maxHeartbeats 1000000
open PySem PySem.Spec PyProof.Rows L2
namespace Ds
/-! ### _law_removed -/
theorem flat_nts {u : List Nat} : (nts u).all flatD = true := by
  rw [List.all_eq_true]
  intro d hd
  obtain ⟨s, _, rfl⟩ := List.mem_map.mp hd
  rfl
theorem inD_nts {s : Nat} {u : List Nat} : inD (.int (s : Nat)) (nts u) = decide (s ∈ u) := by
  rw [Bool.eq_iff_iff]
  simp only [inD, List.any_eq_true, decide_eq_true_eq]
  constructor
  · rintro ⟨d, h1, h2⟩
    obtain ⟨x, h3, rfl⟩ := List.mem_map.mp h1
    have h2' : ((x : Nat) : Int) = (s : Nat) := by simpa [PyData.eqv] using h2
    have : x = s := by omega
    rw [← this]; exact h3
  · intro h
    exact ⟨.int (s : Nat), List.mem_map.mpr ⟨s, h, rfl⟩, by simp [PyData.eqv]⟩
theorem g_ninN {s : Nat} {u : List Nat} : gInT true (.int (s : Nat)) (.list (nts u)) = some (.bool (!decide (s ∈ u))) := by
  show (if flatD (.int (s : Nat)) = true ∧ (nts u).all flatD = true then some (PyData.bool (if true = true then !inD (.int (s : Nat)) (nts u) else inD (.int (s : Nat)) (nts u))) else none) = _
  rw [if_pos ⟨rfl, flat_nts⟩, inD_nts]
  rfl
theorem eqv_nts : ∀ {u v : List Nat}, PyData.eqv (.list (nts u)) (.list (nts v)) = decide (u = v)
  | [], [] => rfl
  | [], y :: v => by simp [nts, PyData.eqv, PyData.eqvAll]
  | x :: u, [] => by simp [nts, PyData.eqv, PyData.eqvAll]
  | x :: u, y :: v => by
    have ih := eqv_nts (u := u) (v := v)
    rw [PyData.eqv] at ih
    rw [nts_cons, nts_cons, PyData.eqv, PyData.eqvAll, ih, PyData.eqv]
    by_cases e : x = y
    · subst e; simp
    · have : ¬ ((x : Nat) : Int) = (y : Nat) := by omega
      simp [e, this]
theorem g_eqN {u v : List Nat} : gEq (.list (nts u)) (.list (nts v)) = some (.bool (decide (u = v))) := by
  show (if okEq (.list (nts u)) = true ∧ okEq (.list (nts v)) = true then some (PyData.bool (PyData.eqv (.list (nts u)) (.list (nts v)))) else none) = _
  rw [if_pos ⟨okEq_nts, okEq_nts⟩, eqv_nts]

def q_rm1 : SS := sDrop (sAppend 3 (sBin gAdd (sIxV 3 (sVar 1)) (sK (.int 1))))
def q_rmt : STt := sTst (sBin gGt (sRd lLen (sLVar 2)) (sK (.int 1)))
def q_rl : SN := sLc (sIL (sVar 2)) (gNm 8) sYes (sTup (sCons (sIxV 3 (sVar 8)) (sCons (sVar 8) sNil))) [8]
def q_rb1 : SS := sSet 5 (sBin gIx (sBin gIx (sNE (sSrtP (sCons (sNE q_rl) sNil))) (sNeg (sK (.int 1)))) (sK (.int 1)))
def q_rb2 : SS := sSet 6 (sBin gIx (sVar 0) (sBin gSub_ (sVar 5) (sK (.int 1))))
def q_rb3 : SS := sSet 7 (sNE (sLc (sIL (sVar 2)) (gNm 8) (sAnd (sTst (sBin gGt (sVar 8) (sK (.int 0)))) (sTst (sBin gEq (sBin gIx (sVar 0) (sBin gSub_ (sVar 8) (sK (.int 1)))) (sVar 6)))) (sVar 8) [8]))
def q_rb4 : SS := sDrop (sAppend 4 (sTup (sCons (sVar 6) (sCons (sVar 7) sNil))))
def q_rb5 : SS := sSet 2 (sNE (sLc (sIL (sVar 2)) (gNm 8) (sAnd (sTst (sBin gNe (sVar 8) (sVar 6))) (sTst (sBin (gInT true) (sVar 8) (sVar 7)))) (sVar 8) [8]))
def q_rmb : SS := sSeq q_rb1 (sSeq q_rb2 (sSeq q_rb3 (sSeq q_rb4 q_rb5)))
def q_rme : SS := sRet (sTup (sCons (sNE (sSrtX (sCons (sVar 4) sNil))) (sCons (sBin gEq (sVar 2) (sNE (sLst (sCons (sK (.int 0)) sNil)))) sNil)))
def q_rm0 : SS := sPar3N 2 3 4 (sNE (sLstRg (sBin gAdd (sCallB gLen (sCons (sVar 0) sNil)) (sK (.int 1))))) (sLst (sCons (sK (.int 0)) sNil)) (sLst sNil)
theorem c_rm_eq : c__law_removed = sSeq q_rm0 (sSeq (sFor (sISq (sVar 0)) (gNm 1) q_rm1) (sSeq (loopW q_rmt q_rmb 45) (sFrz 4 q_rme))) := rfl
@[simp] theorem r_sSrtP' {sr : SN} {S : En} : sSrtP sr S = ((sr S).bnd fun ds S1 => R.opt (srtOf ds) S1) := rfl
theorem lstRg_run {sa : SE} {S S1 : En} {k : Int} {n : Nat} (h : sa S = .ok (.int k) S1) (hk : k = (n : Nat)) (hn : n ≤ 1000000) : sLstRg sa S = .ok (nts (List.range n)) S1 := by
  subst hk
  rw [r_sLstRg, h, bnd_ok]
  show (if 0 ≤ (n : Int) ∧ (n : Int) ≤ 16777216 then R.ok (rng 0 (n : Int)) S1 else .no) = _
  rw [if_pos (by omega), show (0 : Int) = ((0 : Nat) : Int) from rfl, rng_nat (Nat.zero_le _), Nat.sub_zero, List.range_eq_range']
section
variable {os : List Nat}
theorem t_rm0 {O L : List PyData} {s : SN} (hs : s [.val (.tuple O), .nil, .nil, .nil, .nil, .nil, .nil, .nil, .nil] = .ok L [.val (.tuple O), .nil, .nil, .nil, .nil, .nil, .nil, .nil, .nil]) : sPar3N 2 3 4 (sNE s) (sLst (sCons (sK (.int 0)) sNil)) (sLst sNil) [.val (.tuple O), .nil, .nil, .nil, .nil, .nil, .nil, .nil, .nil] = .nx [.val (.tuple O), .nil, .val (.list L), .own [.int 0], .own [], .nil, .nil, .nil, .nil] := by
  simp [hs, sizeLine]
theorem t_rm1 {L : List PyData} {u : Int} {v : Int} {s0 s2 s4 s5 s6 s7 s8 : Sl} (e : atI L u = some (.int v)) (hL : L.length < 16777216) : q_rm1 [s0, .val (.int u), s2, .own L, s4, s5, s6, s7, s8] = .nx [s0, .val (.int u), s2, .own (L ++ [.int (v + 1)]), s4, s5, s6, s7, s8] := by
  simp [q_rm1, e, sizeLine, hL]
theorem nts_atN {l : List Nat} {k : Nat} (h : k < l.length) : atI (nts l) (k : Nat) = some (.int ((l.getD k 0 : Nat) : Int)) := by
  rw [atI_nn (by omega), Int.toNat_natCast, nts_get, List.getElem?_eq_getElem h]
  simp [List.getD, List.getElem?_eq_getElem h]
theorem deep_ok (h : Off os) {s2 s4 : Sl} : ∃ x1, bare (some x1) = true ∧ loopL (gNm 1) q_rm1 (nts os) [vO os, .nil, s2, .own [.int 0], s4, .nil, .nil, .nil, .nil] = .nx [vO os, x1, s2, .own (nts (depL os)), s4, .nil, .nil, .nil, .nil] := by
  have h39 := h.1
  obtain ⟨S', el, x1, b1, rfl⟩ := loop_inv (g := gNm 1) (b := q_rm1) (ds := nts os) (P := fun i S => ∃ x1, bare (some x1) = true ∧ S = [vO os, x1, s2, .own (nts (depL (os.take i))), s4, .nil, .nil, .nil, .nil]) (S := [vO os, .nil, s2, .own [.int 0], s4, .nil, .nil, .nil, .nil]) ⟨.nil, rfl, rfl⟩ fun i z S hz hS => by
    obtain ⟨x1, b1, rfl⟩ := hS
    rw [nts_get] at hz
    cases q : os[i]? with
    | none => rw [q] at hz; cases hz
    | some u =>
      rw [q] at hz
      cases hz
      have li := (List.getElem?_eq_some_iff.mp q).1
      have uq := h.2 i u q
      have tl : (os.take i).length = i := by rw [List.length_take]; omega
      have dl := depL_len i (os.take i) tl
      have tk : os.take (i + 1) = os.take i ++ [u] := by
        rw [List.take_succ_eq_append_getElem li]
        rw [List.getElem?_eq_getElem li] at q
        rw [Option.some.inj q]
      refine ⟨[vO os, .val (.int (u : Nat)), s2, .own (nts (depL (os.take i))), s4, .nil, .nil, .nil, .nil], _, by simp [b1], t_rm1 (nts_atN (k := u) (by omega)) (by rw [nts_len]; omega), .val (.int (u : Nat)), rfl, ?_⟩
      rw [tk, depL_snoc]
      have : nts (depL (os.take i) ++ [(depL (os.take i)).getD u 0 + 1]) = nts (depL (os.take i)) ++ [.int ((((depL (os.take i)).getD u 0 : Nat) : Int) + 1)] := by
        unfold nts
        rw [List.map_append]
        rfl
      rw [this]
  refine ⟨x1, b1, ?_⟩
  rw [el, nts_len, List.take_length]
theorem t_rmt {L : List PyData} {b : Bool} {s0 s1 s3 s4 s5 s6 s7 s8 : Sl} (hb : decide (1 < L.length) = b) : q_rmt [s0, s1, .val (.list L), s3, s4, s5, s6, s7, s8] = .ok b [s0, s1, .val (.list L), s3, s4, s5, s6, s7, s8] := by
  subst hb
  have : decide ((1 : Int) < (L.length : Int)) = decide (1 < L.length) := by
    rw [decide_eq_decide]; omega
  simp [q_rmt, lLen, this]
def prL (os left : List Nat) : List (Int × Int) := left.map fun d => (((dep os d : Nat) : Int), ((d : Nat) : Int))
theorem t_rb1 {S : En} {P Z : List PyData} {x y : PyData} (e : q_rl S = .ok P S) (hz : srtOf [.list P] = some Z) (g1 : gIx (.list Z) (.int (-1)) = some x) (g2 : gIx x (.int 1) = some y) (h5 : noio S[5]? = true) : q_rb1 S = .nx (S.set 5 (.val y)) := by
  simp [q_rb1, e, hz, g1, g2, h5]
theorem rl_ok {left : List Nat} (hl : ∀ d ∈ left, d ≤ os.length) (hn : left.length ≤ 1000) {s0 s1 s4 s5 s6 s7 : Sl} : q_rl [s0, s1, .val (.list (nts left)), .own (nts (depL os)), s4, s5, s6, s7, .nil] = .ok ((prL os left).map mkP) [s0, s1, .val (.list (nts left)), .own (nts (depL os)), s4, s5, s6, s7, .nil] := by
  have dl := depL_len os.length os rfl
  have lc : lcL (gNm 8) sYes (sTup (sCons (sIxV 3 (sVar 8)) (sCons (sVar 8) sNil))) [8] (nts left) [s0, s1, .val (.list (nts left)), .own (nts (depL os)), s4, s5, s6, s7, .nil] = .ok ((prL os left).map mkP) [s0, s1, .val (.list (nts left)), .own (nts (depL os)), s4, s5, s6, s7, .nil] := by
    have em : (prL os left).map mkP = (nts left).map fun z => match z with | .int k => .tuple [.int ((dep os k.toNat : Nat) : Int), .int k] | _ => .none := by
      unfold prL nts
      rw [List.map_map, List.map_map]
      rfl
    rw [em]
    refine lc_mapF fun z hz => ?_
    obtain ⟨d, hd, rfl⟩ := List.mem_map.mp hz
    have a := nts_atN (l := depL os) (k := d) (by have := hl d hd; omega)
    have e2 : (depL os).getD d 0 = dep os d := rfl
    rw [e2] at a
    generalize nts (depL os) = D at *
    generalize nts left = L at *
    refine ⟨[s0, s1, .val (.list L), .own D, s4, s5, s6, s7, .val (.int (d : Nat))], [s0, s1, .val (.list L), .own D, s4, s5, s6, s7, .val (.int (d : Nat))], by simp, by simp [a, sizeLine], by simp [wipeS]⟩
  have l1 : (nts left).length < 16777216 := by rw [nts_len]; omega
  generalize nts (depL os) = D at *
  generalize nts left = L at *
  generalize (prL os left).map mkP = Z at *
  simp [q_rl, wipeS, lc, unwipe, sizeLine, l1]
theorem prL_last {left : List Nat} (hne : left ≠ []) : ∃ last i, srtP (prL os left) = i ++ [(((dep os last : Nat) : Int), ((last : Nat) : Int))] ∧ Deep os left last := by
  have hp : srtP (prL os left) ≠ [] := fun q => by
    have := (srtP_perm (prL os left)).length_eq
    rw [q] at this
    unfold prL at this
    rw [List.length_nil, List.length_map] at this
    exact hne (List.length_eq_zero_iff.mp this.symm)
  have ez := (List.dropLast_concat_getLast hp).symm
  obtain ⟨z, hz⟩ : ∃ z, z = (srtP (prL os left)).getLast hp := ⟨_, rfl⟩
  rw [← hz] at ez
  have hm : z ∈ prL os left := (srtP_perm _).mem_iff.mp (by rw [ez]; simp)
  obtain ⟨last, hl, rfl⟩ := List.mem_map.mp hm
  refine ⟨last, (srtP (prL os left)).dropLast, ez, hl, fun d hd => ?_⟩
  have hd' : (((dep os d : Nat) : Int), ((d : Nat) : Int)) ∈ srtP (prL os left) := (srtP_perm _).mem_iff.mpr (List.mem_map.mpr ⟨d, hd, rfl⟩)
  have pw := srtP_sorted (prL os left)
  rw [ez] at pw hd'
  rcases List.mem_append.mp hd' with m | m
  · have := leP_iff.mp ((List.pairwise_append.mp pw).2.2 _ m (((dep os last : Nat) : Int), ((last : Nat) : Int)) (by simp))
    simp only [] at this
    omega
  · have : (((dep os d : Nat) : Int), ((d : Nat) : Int)) = (((dep os last : Nat) : Int), ((last : Nat) : Int)) := by simpa using m
    have := congrArg Prod.fst this
    simp only [] at this
    omega
theorem t_rb2 {O : List PyData} {k : Int} {u : PyData} {s1 s2 s3 s4 s6 s7 s8 : Sl} (e : gIx (.tuple O) (.int (k - 1)) = some u) (h : noio (some s6) = true) : q_rb2 [.val (.tuple O), s1, s2, s3, s4, .val (.int k), s6, s7, s8] = .nx [.val (.tuple O), s1, s2, s3, s4, .val (.int k), .val u, s7, s8] := by
  simp [q_rb2, e, h]
theorem rb3_ok (h : Off os) {left : List Nat} {up : Nat} (hl : ∀ d ∈ left, d ≤ os.length) (hn : left.length ≤ 1000) {s1 s3 s4 s5 s7 : Sl} (b7 : noio (some s7) = true) : q_rb3 [vO os, s1, .val (.list (nts left)), s3, s4, s5, .val (.int (up : Nat)), s7, .nil] = .nx [vO os, s1, .val (.list (nts left)), s3, s4, s5, .val (.int (up : Nat)), .val (.list (nts (left.filter fun d => decide (0 < d) && decide (sup os d = up)))), .nil] := by
  have lc : lcL (gNm 8) (sAnd (sTst (sBin gGt (sVar 8) (sK (.int 0)))) (sTst (sBin gEq (sBin gIx (sVar 0) (sBin gSub_ (sVar 8) (sK (.int 1)))) (sVar 6)))) (sVar 8) [8] (nts left) [vO os, s1, .val (.list (nts left)), s3, s4, s5, .val (.int (up : Nat)), s7, .nil] = .ok (nts (left.filter fun d => decide (0 < d) && decide (sup os d = up))) [vO os, s1, .val (.list (nts left)), s3, s4, s5, .val (.int (up : Nat)), s7, .nil] := by
    have em : nts (left.filter fun d => decide (0 < d) && decide (sup os d = up)) = ((nts left).filter fun z => match z with | .int k => decide (0 < k.toNat) && decide (sup os k.toNat = up) | _ => false).map id := by
      unfold nts
      rw [List.map_id, List.filter_map]
      rfl
    rw [em]
    refine lc_filtF fun z hz => ?_
    obtain ⟨d, hd, rfl⟩ := List.mem_map.mp hz
    generalize nts left = L at *
    refine ⟨[vO os, s1, .val (.list L), s3, s4, s5, .val (.int (up : Nat)), s7, .val (.int (d : Nat))], [vO os, s1, .val (.list L), s3, s4, s5, .val (.int (up : Nat)), s7, .val (.int (d : Nat))], by simp, ?_, by simp [wipeS], fun _ => ⟨[vO os, s1, .val (.list L), s3, s4, s5, .val (.int (up : Nat)), s7, .val (.int (d : Nat))], by simp, by simp [wipeS]⟩⟩
    simp only [Int.toNat_natCast]
    by_cases d0 : 0 < d
    · have u := (off_at h (d := d) (by omega) (hl d hd)).1
      have d0' : (0 : Int) < (d : Nat) := by omega
      rw [decide_eq_true d0]
      show _ = R.ok (true && decide (os.getD (d - 1) 0 = up)) _
      obtain ⟨w, ew⟩ : ∃ w, w = os.getD (d - 1) 0 := ⟨_, rfl⟩
      rw [← ew] at u ⊢
      have ee : decide (((w : Nat) : Int) = (up : Nat)) = decide (w = up) := by rw [decide_eq_decide]; omega
      simp [d0, d0', u, ee]
    · have d0' : d = 0 := by omega
      subst d0'
      simp
  have l1 : (nts left).length < 16777216 := by rw [nts_len]; omega
  generalize nts (left.filter fun d => decide (0 < d) && decide (sup os d = up)) = Z at *
  generalize nts left = L at *
  simp [q_rb3, wipeS, lc, unwipe, sizeLine, l1, b7]
theorem t_rb4 {F : List PyData} {u v : PyData} {s0 s1 s2 s3 s5 s8 : Sl} (hF : F.length < 16777216) : q_rb4 [s0, s1, s2, s3, .own F, s5, .val u, .val v, s8] = .nx [s0, s1, s2, s3, .own (F ++ [.tuple [u, v]]), s5, .val u, .val v, s8] := by
  simp [q_rb4, sizeLine, hF]
theorem rb5_ok {left U : List Nat} {up : Nat} (hn : left.length ≤ 1000) {s0 s1 s3 s4 s5 : Sl} : q_rb5 [s0, s1, .val (.list (nts left)), s3, s4, s5, .val (.int (up : Nat)), .val (.list (nts U)), .nil] = .nx [s0, s1, .val (.list (nts (left.filter fun d => !decide (d = up) && !decide (d ∈ U)))), s3, s4, s5, .val (.int (up : Nat)), .val (.list (nts U)), .nil] := by
  have lc : lcL (gNm 8) (sAnd (sTst (sBin gNe (sVar 8) (sVar 6))) (sTst (sBin (gInT true) (sVar 8) (sVar 7)))) (sVar 8) [8] (nts left) [s0, s1, .val (.list (nts left)), s3, s4, s5, .val (.int (up : Nat)), .val (.list (nts U)), .nil] = .ok (nts (left.filter fun d => !decide (d = up) && !decide (d ∈ U))) [s0, s1, .val (.list (nts left)), s3, s4, s5, .val (.int (up : Nat)), .val (.list (nts U)), .nil] := by
    have em : nts (left.filter fun d => !decide (d = up) && !decide (d ∈ U)) = ((nts left).filter fun z => match z with | .int k => !decide (k.toNat = up) && !decide (k.toNat ∈ U) | _ => false).map id := by
      unfold nts
      rw [List.map_id, List.filter_map]
      rfl
    rw [em]
    refine lc_filtF fun z hz => ?_
    obtain ⟨d, hd, rfl⟩ := List.mem_map.mp hz
    have g := g_ninN (s := d) (u := U)
    generalize nts left = L at *
    generalize nts U = V at *
    refine ⟨[s0, s1, .val (.list L), s3, s4, s5, .val (.int (up : Nat)), .val (.list V), .val (.int (d : Nat))], [s0, s1, .val (.list L), s3, s4, s5, .val (.int (up : Nat)), .val (.list V), .val (.int (d : Nat))], by simp, ?_, by simp [wipeS], fun _ => ⟨[s0, s1, .val (.list L), s3, s4, s5, .val (.int (up : Nat)), .val (.list V), .val (.int (d : Nat))], by simp, by simp [wipeS]⟩⟩
    simp only [Int.toNat_natCast]
    by_cases e : d = up
    · subst e
      simp
    · have e' : ¬ ((d : Nat) : Int) = (up : Nat) := by omega
      simp [e, e', g]
  have l1 : (nts left).length < 16777216 := by rw [nts_len]; omega
  generalize nts (left.filter fun d => !decide (d = up) && !decide (d ∈ U)) = Z at *
  generalize nts left = L at *
  generalize nts U = V at *
  simp [q_rb5, wipeS, lc, unwipe, sizeLine, l1]

theorem t_rme {F Z L : List PyData} {b : Bool} {s0 s1 s3 s5 s6 s7 s8 : Sl} (hz : srtOfX [.list F] = some Z) (g : gEq (.list L) (.list [.int 0]) = some (.bool b)) : q_rme [s0, s1, .val (.list L), s3, .val (.list F), s5, s6, s7, s8] = .rt (.val (.tuple [.list Z, .bool b])) [s0, s1, .val (.list L), s3, .val (.list F), s5, s6, s7, s8] := by
  simp [q_rme, hz, g, sizeLine]
theorem t_rmeO {F Z L : List PyData} {b : Bool} {s0 s1 s3 s5 s6 s7 s8 : Sl} (hz : srtOfX [.list F] = some Z) (g : gEq (.list L) (.list [.int 0]) = some (.bool b)) : sFrz 4 q_rme [s0, s1, .val (.list L), s3, .own F, s5, s6, s7, s8] = .rt (.val (.tuple [.list Z, .bool b])) [s0, s1, .val (.list L), s3, .val (.list F), s5, s6, s7, s8] := t_rme hz g
/-- the loop -/
theorem rm_loop (h : Off os) {s1 : Sl} : ∀ (n : Nat) {left cs : List Nat} {x5 x6 x7 : Sl}, RI os left cs → left.length < n → n ≤ 1000 → cs.length + left.length ≤ 1000 → noio (some x5) = true → noio (some x6) = true → noio (some x7) = true →
    ∃ left' cs' y5 y6 y7, RI os left' cs' ∧ left'.length ≤ 1 ∧ loopW q_rmt q_rmb n [vO os, s1, .val (.list (nts left)), .own (nts (depL os)), .own (cs.map (GD1 os)), x5, x6, x7, .nil] = .nx [vO os, s1, .val (.list (nts left')), .own (nts (depL os)), .own (cs'.map (GD1 os)), y5, y6, y7, .nil]
  | 0, _, _, _, _, _, _, hn, _, _, _, _, _ => absurd hn (by omega)
  | n + 1, left, cs, x5, x6, x7, r, hn, hm, hc, b5, b6, b7 => by
    have h39 := h.1
    rw [loopW]
    by_cases h1 : 1 < left.length
    · obtain ⟨last, i, ez, dp⟩ := prL_last (os := os) (left := left) (fun w => by rw [w] at h1; simp at h1)
      have h0 := r.pos h dp h1
      have ll := r.le last dp.mem
      obtain ⟨um, ul⟩ := r.up_in h dp h0
      obtain ⟨rs, rl⟩ := r.step h dp h0
      have hle : ∀ d ∈ left, d ≤ os.length := r.le
      have e0 : q_rmt [vO os, s1, .val (.list (nts left)), .own (nts (depL os)), .own (cs.map (GD1 os)), x5, x6, x7, .nil] = .ok true [vO os, s1, .val (.list (nts left)), .own (nts (depL os)), .own (cs.map (GD1 os)), x5, x6, x7, .nil] := t_rmt (by rw [nts_len]; exact decide_eq_true h1)
      have srt : srtOf [.list ((prL os left).map mkP)] = some ((i.map mkP) ++ [mkP (((dep os last : Nat) : Int), ((last : Nat) : Int))]) := by
        show (prs ((prL os left).map mkP)).map (fun ps => (srtP ps).map mkP) = _
        rw [prs_mk]
        show some ((srtP (prL os left)).map mkP) = _
        rw [ez, List.map_append]
        rfl
      have e1 := t_rb1 (S := [vO os, s1, .val (.list (nts left)), .own (nts (depL os)), .own (cs.map (GD1 os)), x5, x6, x7, .nil]) (y := .int ((last : Nat) : Int)) (rl_ok hle (by omega)) srt (show atI _ (-1) = _ from atI_last) rfl b5
      have gu : gIx (.tuple (nts os)) (.int ((last : Nat) - 1)) = some (.int ((sup os last : Nat) : Int)) := (off_at h (d := last) (by omega) ll).1
      have e2 := t_rb2 (s1 := s1) (s2 := .val (.list (nts left))) (s3 := .own (nts (depL os))) (s4 := .own (cs.map (GD1 os))) (s7 := x7) (s8 := .nil) gu b6
      have e3 := rb3_ok h (up := sup os last) hle (by omega) (s1 := s1) (s3 := .own (nts (depL os))) (s4 := .own (cs.map (GD1 os))) (s5 := .val (.int (last : Nat))) b7
      rw [r.under h dp h0] at e3
      have e4 := t_rb4 (F := cs.map (GD1 os)) (u := .int ((sup os last : Nat) : Int)) (v := .list (nts (ok1 os (sup os last)))) (s0 := vO os) (s1 := s1) (s2 := .val (.list (nts left))) (s3 := .own (nts (depL os))) (s5 := .val (.int (last : Nat))) (s8 := .nil) (by rw [List.length_map]; omega)
      have ef : cs.map (GD1 os) ++ [.tuple [.int ((sup os last : Nat) : Int), .list (nts (ok1 os (sup os last)))]] = (cs ++ [sup os last]).map (GD1 os) := by rw [List.map_append]; rfl
      rw [ef] at e4
      have e5 := rb5_ok (left := left) (U := ok1 os (sup os last)) (up := sup os last) (by omega) (s0 := vO os) (s1 := s1) (s3 := .own (nts (depL os))) (s4 := .own ((cs ++ [sup os last]).map (GD1 os))) (s5 := .val (.int (last : Nat)))
      have eb : q_rmb [vO os, s1, .val (.list (nts left)), .own (nts (depL os)), .own (cs.map (GD1 os)), x5, x6, x7, .nil] = .nx [vO os, s1, .val (.list (nts (left.filter fun d => !decide (d = sup os last) && !decide (d ∈ ok1 os (sup os last))))), .own (nts (depL os)), .own ((cs ++ [sup os last]).map (GD1 os)), .val (.int (last : Nat)), .val (.int ((sup os last : Nat) : Int)), .val (.list (nts (ok1 os (sup os last)))), .nil] := by
        rw [q_rmb, r_sSeq, e1, sq_nx, r_sSeq]
        rw [show [vO os, s1, .val (.list (nts left)), .own (nts (depL os)), .own (cs.map (GD1 os)), x5, x6, x7, .nil].set 5 (.val (.int ((last : Nat) : Int))) = [vO os, s1, .val (.list (nts left)), .own (nts (depL os)), .own (cs.map (GD1 os)), .val (.int ((last : Nat) : Int)), x6, x7, .nil] from rfl]
        rw [e2, sq_nx, r_sSeq, e3, sq_nx, r_sSeq, e4, sq_nx, e5]
      obtain ⟨l', c', y5, y6, y7, q1, q2, q3⟩ := rm_loop h (s1 := s1) n rs (by omega) (by omega) (by rw [List.length_append, List.length_singleton]; omega) (x5 := .val (.int (last : Nat))) (x6 := .val (.int ((sup os last : Nat) : Int))) (x7 := .val (.list (nts (ok1 os (sup os last))))) rfl rfl rfl
      refine ⟨l', c', y5, y6, y7, q1, q2, ?_⟩
      rw [e0]
      show (match q_rmb _ with | .nx S2 => loopW q_rmt q_rmb n S2 | .ct S2 => loopW q_rmt q_rmb n S2 | .bk S2 => .nx S2 | r => r) = _
      rw [eb]
      exact q3
    · refine ⟨left, cs, x5, x6, x7, r, by omega, ?_⟩
      have e0 : q_rmt [vO os, s1, .val (.list (nts left)), .own (nts (depL os)), .own (cs.map (GD1 os)), x5, x6, x7, .nil] = .ok false [vO os, s1, .val (.list (nts left)), .own (nts (depL os)), .own (cs.map (GD1 os)), x5, x6, x7, .nil] := t_rmt (by rw [nts_len]; exact decide_eq_false h1)
      rw [e0]
      rfl

theorem fst_cs {cs : List Nat} : ((cs.map fun d => (((d : Nat) : Int), PyData.list (nts (ok1 os d)))).map Prod.fst).Nodup ↔ cs.Nodup := by
  rw [List.map_map]
  show (cs.map fun d => ((d : Nat) : Int)).Nodup ↔ _
  unfold List.Nodup
  rw [List.pairwise_map]
  constructor <;> exact fun h => h.imp fun {a b} q => by omega
theorem gd_pairs {cs : List Nat} : cs.map (GD1 os) = (cs.map fun d => (((d : Nat) : Int), PyData.list (nts (ok1 os d)))).map mkX := by
  rw [List.map_map]
  rfl
theorem srt_cs {cs : List Nat} (hn : cs.Nodup) (hp : cs.Perm (cenL os)) : srtOfX [.list (cs.map (GD1 os))] = some (GDs os) := by
  have hn' := (fst_cs (os := os) (cs := cs)).mpr hn
  show (match prsX (cs.map (GD1 os)) with | some ps => if (ps.map Prod.fst).Nodup then some ((srtX ps).map mkX) else none | none => none) = _
  rw [gd_pairs, prsX_mk]
  show (if _ then _ else _) = _
  rw [if_pos hn']
  have e : ((cenL os).map fun d => (((d : Nat) : Int), PyData.list (nts (ok1 os d)))) = srtX (cs.map fun d => (((d : Nat) : Int), PyData.list (nts (ok1 os d)))) := by
    refine srtX_of hn' (hp.symm.map _) ?_
    rw [List.pairwise_map]
    refine cenL_asc.imp fun {a b} h => ?_
    show decide (((a : Nat) : Int) ≤ (b : Nat)) = true
    rw [decide_eq_true_eq]
    omega
  rw [← e, ← gd_pairs]
  rfl
theorem law_removed (h : Off os) : ∃ T, m__law_removed [vO os] = .ok (.val (.tuple [.list (GDs os), .bool (ok1 os 0).isEmpty])) T := by
  have h39 := h.1
  obtain ⟨x1, b1, e1⟩ := deep_ok h (s2 := .val (.list (nts (List.range (os.length + 1))))) (s4 := .own [])
  obtain ⟨left, cs, y5, y6, y7, r, hl, e2⟩ := rm_loop h (s1 := x1) 45 (left := List.range (os.length + 1)) (cs := []) (x5 := .nil) (x6 := .nil) (x7 := .nil) RI.start (by rw [List.length_range]; omega) (by decide) (by rw [List.length_range]; simp; omega) rfl rfl rfl
  obtain ⟨p1, p2⟩ := r.done h hl
  have g : gEq (.list (nts left)) (.list [.int 0]) = some (.bool (ok1 os 0).isEmpty) := by
    have := g_eqN (u := left) (v := [0])
    rw [show (PyData.list [.int 0]) = .list (nts [0]) from rfl, this]
    congr 2
    rw [Bool.eq_iff_iff, decide_eq_true_eq, List.isEmpty_iff]
    exact p2
  have e0 : q_rm0 [vO os, .nil, .nil, .nil, .nil, .nil, .nil, .nil, .nil] = .nx [vO os, .nil, .val (.list (nts (List.range (os.length + 1)))), .own [.int 0], .own [], .nil, .nil, .nil, .nil] :=
    t_rm0 (lstRg_run (S1 := [vO os, .nil, .nil, .nil, .nil, .nil, .nil, .nil, .nil]) (k := ((nts os).length : Int) + 1) (n := os.length + 1) (by simp) (by rw [nts_len]; omega) (by omega))
  have s2 : sISq (sVar 0) [vO os, .nil, .val (.list (nts (List.range (os.length + 1)))), .own [.int 0], .own [], .nil, .nil, .nil, .nil] = .ok (nts os) [vO os, .nil, .val (.list (nts (List.range (os.length + 1)))), .own [.int 0], .own [], .nil, .nil, .nil, .nil] := by
    generalize nts (List.range (os.length + 1)) = Z
    simp
  refine ⟨[vO os, x1, .val (.list (nts left)), .own (nts (depL os)), .val (.list (cs.map (GD1 os))), y5, y6, y7, .nil], ?_⟩
  rw [m__law_removed, r_mB]
  show (c__law_removed [vO os, .nil, .nil, .nil, .nil, .nil, .nil, .nil, .nil]).fin = _
  rw [c_rm_eq, r_sSeq, e0, sq_nx, r_sSeq, r_sFor, s2, stt_ok, e1, sq_nx, r_sSeq]
  rw [show loopW q_rmt q_rmb 45 [vO os, x1, .val (.list (nts (List.range (os.length + 1)))), .own (nts (depL os)), .own [], .nil, .nil, .nil, .nil] = _ from e2, sq_nx]
  rw [show sFrz 4 q_rme [vO os, x1, .val (.list (nts left)), .own (nts (depL os)), .own (cs.map (GD1 os)), y5, y6, y7, .nil] = _ from t_rmeO (srt_cs r.nd p1) g]
  rfl
end
end Ds
end

section
set_option Elab.async false
set_option linter.all false
set_option maxRecDepth 100000
set_option maxHeartbeats 1000000
open PySem PySem.Spec PyProof.Rows L2
namespace Ds
/-! ### groups as data: shown, new lists; the script's cells -/
theorem fit_small {n : Nat} (h : n < 1000) : Fit 0 12 (.int (n : Nat)) := by
  have l : n.log2 < 10 := by
    by_cases z : n = 0
    · rw [z]; decide
    · exact (Nat.log2_lt z).mpr (Nat.lt_trans h (by decide))
  have f := fit_int (i := (n : Nat)) (by rw [Int.natAbs_natCast]; exact Nat.lt_trans h (by decide))
  refine ⟨f.sh, f.lv, f.dp, ?_, f.nd⟩
  simp only [PyData.weight, Int.natAbs_natCast]
  split <;> omega
section
variable {os : List Nat} {s ord : List Str}
theorem grpI_mem : ∀ {i : Nat} {z : PyData}, z ∈ grpI os s ord i → ∃ d, d < i ∧ z = grpD os s ord d
  | 0, z, h => by cases h
  | i + 1, z, h => by
    change z ∈ (if okd0 os s ord i = [] then grpI os s ord i else grpI os s ord i ++ [grpD os s ord i]) at h
    split at h
    · obtain ⟨d, h1, h2⟩ := grpI_mem h
      exact ⟨d, by omega, h2⟩
    · rcases List.mem_append.mp h with h | h
      · obtain ⟨d, h1, h2⟩ := grpI_mem h
        exact ⟨d, by omega, h2⟩
      · exact ⟨i, by omega, by simpa using h⟩
theorem namesG_len {d : Nat} : (namesG os s ord d).length ≤ ord.length := List.length_filter_le _ _
theorem grpD_fit (c : Case os s ord) {d : Nat} (hd : d < 41) : Fit 2 4000 (grpD os s ord d) := by
  have hO := okd_small c (d := d)
  have hs := c.small
  have f1 : Fit 1 1000 (.list (nts (okd0 os s ord d))) := by
    refine (fit_list (k := 0) (w := 12) (n := 40) (fun z hz => ?_) (by rw [nts_len]; exact hO.2)).mono (by decide) (by decide)
    obtain ⟨x, hx, rfl⟩ := List.mem_map.mp hz
    have := hO.1 x hx
    exact fit_small (by omega)
  have f2 : Fit 1 1000 (.list (sts (namesG os s ord d))) := by
    have h1 := namesG_len (os := os) (s := s) (ord := ord) (d := d)
    have h2 := c.osmall
    have h3 : (namesG os s ord d).length ≤ 41 := Nat.le_trans h1 (Nat.le_trans h2 (by decide))
    exact (sts_fitL (fun n hn => c.nm n (c.osub n (List.mem_filter.mp hn).1)) h3).mono (by decide) (by decide)
  unfold grpD
  refine (fit_tup (k := 1) (w := 1000) (n := 3) (fun z hz => ?_) (by simp)).mono (by decide) (by decide)
  simp only [List.mem_cons, List.not_mem_nil, or_false] at hz
  rcases hz with rfl | rfl | rfl
  · exact (fit_small (by omega)).mono (by decide) (by decide)
  · exact f1
  · exact f2
theorem grpsD_len (c : Case os s ord) : (grpsD os s ord).length ≤ 40 := by
  have := grpI_len (os := os) (s := s) (ord := ord) (os.length + 1)
  have := c.off.1
  exact Nat.le_trans ‹_› (by omega)
theorem grpsD_ok (c : Case os s ord) : okR (.list (grpsD os s ord)) := by
  refine (fit_list (k := 2) (w := 4000) (n := 40) (fun z hz => ?_) (grpsD_len c)).okR
  obtain ⟨d, h1, rfl⟩ := grpI_mem hz
  have := c.off.1
  exact grpD_fit c (by omega)
theorem grpsD_wr (c : Case os s ord) : (grpsD os s ord).all (wrD 2) = true := by
  rw [List.all_eq_true]
  intro z hz
  obtain ⟨d, h1, rfl⟩ := grpI_mem hz
  have hO := okd_small c (d := d)
  have h2 := namesG_len (os := os) (s := s) (ord := ord) (d := d)
  have h3 := c.osmall
  have e1 : (nts (okd0 os s ord d)).length ≤ 1000 := by rw [nts_len]; exact Nat.le_trans hO.2 (by decide)
  have e2 : (sts (namesG os s ord d)).length ≤ 1000 := by rw [sts_len]; omega
  simp [grpD, wrD, lstsD, e1, e2]
end
theorem noL_nts : ∀ l : List Nat, noLs (nts l) = true
  | [] => rfl
  | n :: l => by
    show (noL (.int (n : Nat)) && noLs (nts l)) = true
    rw [noL_nts l]; rfl
theorem noL_sts : ∀ l : List Str, noLs (sts l) = true
  | [] => rfl
  | n :: l => by
    show (noL (.str n) && noLs (sts l)) = true
    rw [noL_sts l]; rfl
theorem noL_vO {os : List Nat} : noL (.tuple (nts os)) = true := noL_nts os
theorem noL_vS {ss : List Str} : noL (.tuple (sts ss)) = true := noL_sts ss
theorem Sg.noL {k : Nat} {bag : List PyData} (h : Sg k bag) : noLs bag = true := by
  obtain ⟨a, b, n, rfl, _⟩ := h
  rfl
@[simp] theorem g_cutSc {ds : List PyData} {lo hi : Option Int} : gCut (.dict [(.bool true, .list ds)]) lo hi = some (.list (cutD ds lo hi)) := rfl
theorem t_cellsS {L : List PyData} {k : Int} {S : En} (h0 : L.length ≤ 63) (h : val? S[0]? = some (.dict [(.bool true, .list L)])) : (sIL (sBin gAdd (sCut (sVar 0) sP0 (sP1 (sK (.int k)))) (sNE (sLst (sCons (sK (.int 0)) sNil))))) S = .ok (cutD L none (some k) ++ [.int 0]) S := by
  have hlen : (cutD L none (some k)).length ≤ 63 := Nat.le_trans cutD_len h0
  have qa : gAdd (.list (cutD L none (some k))) (.list [.int 0]) = some (.list (cutD L none (some k) ++ [.int 0])) := g_addL (by rw [List.length_singleton]; omega)
  simp [h, qa, sizeLine]
end Ds
end

section
set_option linter.all false
set_option Elab.async false
set_option maxRecDepth 100000
open PySem PySem.Spec PyProof.Rows L2
namespace Ds
def c__law_settle : SS :=
  (sSeq (sFor (sRng1 (sCons (sK (.int 41)) sNil)) (gNm 3)
    (sSeq (sIf (sTst (sBin (gInT true) (sK (.str (Str.ofString "unsettled"))) (sNE (sCallN m__law_statuses (sGv (sVar 0) (sGv (sVar 1) (sGv (sVar 2) sG0)))))))
      (sRet (sTup (sCons (sVar 3) (sCons (sVar 1) sNil))))
      sNx)
    (sSet 1 (sCallV m__law_day (sGv (sVar 0) (sGv (sVar 1) (sGv (sVar 2) sG0)))))))
  (sRet (sTup (sCons (sK (.int 99)) (sCons (sVar 1) sNil)))))
def m__law_settle : Mf := mB 4 c__law_settle
end Ds
end

section
set_option Elab.async false
set_option linter.all false
set_option maxRecDepth 100000
set_option maxHeartbeats 1000000
open PySem PySem.Spec PyProof.Rows L2
namespace Ds
theorem loop_nx {g : GT} {b : SS} {d : PyData} {ds : List PyData} {S S1 S2 : En} (h1 : g d S = .nx S1) (h2 : b S1 = .nx S2) : loopL g b (d :: ds) S = loopL g b ds S2 := by
  rw [loopL, h1]
  show (match b S1 with | .nx S2 => loopL g b ds S2 | .ct S2 => loopL g b ds S2 | .bk S2 => .nx S2 | r => r) = _
  rw [h2]
theorem loop_rt {g : GT} {b : SS} {d : PyData} {ds : List PyData} {S S1 S2 : En} {r : Sl} (h1 : g d S = .nx S1) (h2 : b S1 = .rt r S2) : loopL g b (d :: ds) S = .rt r S2 := by
  rw [loopL, h1]
  show (match b S1 with | .nx S2 => loopL g b ds S2 | .ct S2 => loopL g b ds S2 | .bk S2 => .nx S2 | r => r) = _
  rw [h2]
def q_ls1 : SS := sIf (sTst (sBin (gInT true) (sK (.str (Str.ofString "unsettled"))) (sNE (sCallN m__law_statuses (sGv (sVar 0) (sGv (sVar 1) (sGv (sVar 2) sG0))))))) (sRet (sTup (sCons (sVar 3) (sCons (sVar 1) sNil)))) sNx
def q_ls2 : SS := sSet 1 (sCallV m__law_day (sGv (sVar 0) (sGv (sVar 1) (sGv (sVar 2) sG0))))
theorem c_ls_eq : c__law_settle = sSeq (sFor (sRng1 (sCons (sK (.int 41)) sNil)) (gNm 3) (sSeq q_ls1 q_ls2)) (sRet (sTup (sCons (sK (.int 99)) (sCons (sVar 1) sNil)))) := rfl
theorem t_ls1 {M : Mf} {L : List PyData} {T : En} {b : Bool} {o a r d : PyData} (e : M [.val o, .val a, .val r] = .ok (.own L) T) (g : gInT true (.str (Str.ofString "unsettled")) (.list L) = some (.bool b)) :
    sIf (sTst (sBin (gInT true) (sK (.str (Str.ofString "unsettled"))) (sNE (sCallN M (sGv (sVar 0) (sGv (sVar 1) (sGv (sVar 2) sG0))))))) (sRet (sTup (sCons (sVar 3) (sCons (sVar 1) sNil)))) sNx [.val o, .val a, .val r, .val d] = if b = true then .rt (.val (.tuple [d, a])) [.val o, .val a, .val r, .val d] else .nx [.val o, .val a, .val r, .val d] := by
  cases b <;> simp [e, g, sizeLine]
theorem t_ls2 {M : Mf} {z : PyData} {T : En} {o a r : PyData} {s3 : Sl} (e : M [.val o, .val a, .val r] = .ok (.val z) T) : sSet 1 (sCallV M (sGv (sVar 0) (sGv (sVar 1) (sGv (sVar 2) sG0)))) [.val o, .val a, .val r, s3] = .nx [.val o, .val z, .val r, s3] := by
  simp [e]
theorem t_ls3 {x : PyData} {s0 s1 s2 x3 : Sl} (b : bare (some x3) = true) : gNm 3 x [s0, s1, s2, x3] = .nx [s0, s1, s2, .val x] := by
  simp [b]
section
variable {os : List Nat} {ss ord : List Str}
theorem ls_loop : ∀ {k : Nat} {ss : List Str} {n i : Nat} {x3 : Sl}, Case os ss ord → settledB os (daysS os ord k ss) ord = true → (∀ j, j < k → settledB os (daysS os ord j ss) ord = false) → k < n → bare (some x3) = true → ∃ T, loopL (gNm 3) (sSeq q_ls1 q_ls2) (nts (List.range' i n)) [vO os, vS ss, vS ord, x3] = .rt (.val (.tuple [.int ((i + k : Nat) : Int), .tuple (sts (daysS os ord k ss))])) T
  | 0, ss, n + 1, i, x3, c, h1, h2, hn, b => by
    obtain ⟨T, e⟩ := law_sta c
    have g := g_uns c
    have h1' : settledB os ss ord = true := h1
    rw [h1'] at g
    refine ⟨[vO os, vS ss, vS ord, .val (.int (i : Nat))], ?_⟩
    have t1 : (sSeq q_ls1 q_ls2) [vO os, vS ss, vS ord, .val (.int (i : Nat))] = .rt (.val (.tuple [.int (i : Nat), .tuple (sts ss)])) [vO os, vS ss, vS ord, .val (.int (i : Nat))] := by
      rw [r_sSeq, show q_ls1 _ = _ from t_ls1 e g, if_pos rfl, sq_rt]
    rw [List.range'_succ, nts_cons, loop_rt (t_ls3 b) t1]
    rfl
  | k + 1, ss, n + 1, i, x3, c, h1, h2, hn, b => by
    obtain ⟨T, e⟩ := law_sta c
    have g := g_uns c
    have h0 : settledB os ss ord = false := h2 0 (by omega)
    rw [h0] at g
    obtain ⟨T2, e2⟩ := law_day c
    obtain ⟨T3, e3⟩ := ls_loop (k := k) (ss := callsS os ss ord) (n := n) (i := i + 1) (x3 := .val (.int (i : Nat))) c.day h1 (fun j hj => h2 (j + 1) (by omega)) (by omega) rfl
    refine ⟨T3, ?_⟩
    have t1 : (sSeq q_ls1 q_ls2) [vO os, vS ss, vS ord, .val (.int (i : Nat))] = .nx [vO os, vS (callsS os ss ord), vS ord, .val (.int (i : Nat))] := by
      rw [r_sSeq, show q_ls1 _ = _ from t_ls1 e g, if_neg (by decide), sq_nx, show q_ls2 _ = _ from t_ls2 e2]
    rw [List.range'_succ, nts_cons, loop_nx (t_ls3 b) t1, e3, show i + 1 + k = i + (k + 1) by omega]
    rfl
theorem law_settle (c : Case os ss ord) {k : Nat} (d : SDay os ss ord k) : ∃ T, m__law_settle [vO os, vS ss, vS ord] = .ok (.val (.tuple [.int (k : Nat), .tuple (sts (daysS os ord k ss))])) T := by
  have h39 := c.off.1
  obtain ⟨T, e⟩ := ls_loop (n := 41) (i := 0) (x3 := .nil) c d.yes d.no (by have := d.le; omega) rfl
  refine ⟨T, ?_⟩
  have hr : sRng1 (sCons (sK (.int 41)) sNil) [vO os, vS ss, vS ord, .nil] = .ok (nts (List.range' 0 41)) [vO os, vS ss, vS ord, .nil] := by
    rw [rng1_run (S1 := [vO os, vS ss, vS ord, .nil]) (ds := [.int 41]) (by simp) (rng1_ok (by decide) (by decide))]
    rw [show rng 0 41 = nts (List.range' 0 (41 - 0)) from rng_nat (a := 0) (b := 41) (by decide)]
  rw [m__law_settle, r_mB]
  show (c__law_settle [vO os, vS ss, vS ord, .nil]).fin = _
  rw [c_ls_eq, r_sSeq, r_sFor, hr, stt_ok, e, sq_rt, Nat.zero_add]
  rfl
end
end Ds
end

section
set_option Elab.async false
set_option linter.all false
set_option maxRecDepth 100000
set_option maxHeartbeats 1000000
open PySem PySem.Spec PyProof.Rows L2
namespace Ds
def q_src : SS := sSetNew 2 (sCallN m__law_source (sGv (sVar 1) sG0))
def q_o : SS := sSet 4 (sCallV m__law_office (sGr 2 (sGv (sBin gIx (sNE (sLst (sCons (sK (.int 5)) (sCons (sK (.int 12)) (sCons (sK (.int 40)) sNil))))) (sCallV m__law_draw (sGr 2 (sGv (sK (.int 3)) sG0)))) sG0)))
def q_d : SS := sAsg (gTp (gNC (gNm 6) (gNC (gNm 7) gN0))) (sCallV m__law_removed (sGv (sVar 4) sG0))
noncomputable def q_w : SS := sWr 8 [9, 10] 1 m_groups (sGv (sVar 4) sG0) (sOr (sTst (sBin gNe (sRepr (sVar 8)) (sRepr (sVar 6)))) (sTst (sBin gNe (sRepr (sCallV m_is_alone (sGv (sVar 4) sG0))) (sRepr (sVar 7)))))
noncomputable def q_turn : SS := sSeq q_o (sSeq q_d (sFor (sRng1 (sCons (sK (.int 2)) sNil)) (gNm 5) q_w))
noncomputable def q_cell : SS := sSeq q_src (sFor (sRng1 (sCons (sK (.int 3)) sNil)) (gNm 3) q_turn)
def q_e1 : SS := sIf (sOr (sTst (sBin gNe (sNE (sCallN m_groups (sGv (sTup sNil) sG0))) (sNE (sLst sNil)))) (sTst (sBin gIsNot (sCallV m_is_alone (sGv (sTup sNil) sG0)) (sK (.bool true))))) (sRet (sK (.bool false))) sNx
def q_e2 : SE := sAndV (sBin gEq (sNE (sCallN m_groups (sGv (sTup (sCons (sK (.int 0)) (sCons (sK (.int 0)) (sCons (sK (.int 2)) sNil)))) sG0))) (sNE (sLst (sCons (sTup (sCons (sK (.int 0)) (sCons (sNE (sLst (sCons (sK (.int 1)) sNil))) sNil))) (sCons (sTup (sCons (sK (.int 2)) (sCons (sNE (sLst (sCons (sK (.int 3)) sNil))) sNil))) sNil))))) (sAndV (sBin gIs (sCallV m_is_alone (sGv (sTup (sCons (sK (.int 0)) (sCons (sK (.int 1)) sNil))) sG0)) (sK (.bool true))) (sBin gIs (sCallV m_is_alone (sGv (sTup (sCons (sK (.int 0)) (sCons (sK (.int 0)) sNil))) sG0)) (sK (.bool false))))
theorem c_law_eq : c_law = sSeq (sFor (sIL (sBin gAdd (sCut (sVar 0) sP0 (sP1 (sK (.int 8)))) (sNE (sLst (sCons (sK (.int 0)) sNil))))) (gNm 1) q_cell) (sSeq q_e1 (sRet q_e2)) := rfl
section
variable {M N : Mf} {T1 T2 : En} {o a r x y z d w : PyData} {bag bag1 bag2 : List PyData} {s0 s1 s2 s3 x2 x4 x5 x6 x7 x8 x9 x10 : Sl}
theorem t_src (e : M [.val z] = .ok (.own bag) T1) (h : noio (some x2) = true) : sSetNew 2 (sCallN M (sGv (sVar 1) sG0)) [s0, .val z, x2, s3, x4, x5, x6, x7, x8, x9, x10] = .nx [s0, .val z, .own bag, s3, x4, x5, x6, x7, x8, x9, x10] := by simp [e, h]
theorem t_o {m r1 : Int} (e1 : M [.io bag, .val (.int 3)] = .ok (.val (.int r1)) (.io bag1 :: T1)) (em : atI [PyData.int 5, .int 12, .int 40] r1 = some (.int m)) (e2 : N [.io bag1, .val (.int m)] = .ok (.val o) (.io bag2 :: T2)) (h4 : noio (some x4) = true) :
    sSet 4 (sCallV N (sGr 2 (sGv (sBin gIx (sNE (sLst (sCons (sK (.int 5)) (sCons (sK (.int 12)) (sCons (sK (.int 40)) sNil))))) (sCallV M (sGr 2 (sGv (sK (.int 3)) sG0)))) sG0))) [s0, s1, .own bag, s3, x4, x5, x6, x7, x8, x9, x10] = .nx [s0, s1, .own bag2, s3, .val o, x5, x6, x7, x8, x9, x10] := by
  simp [e1, em, e2, h4, sizeLine]
theorem t_d (e1 : M [.val o] = .ok (.val (.tuple [x, y])) T1) (h6 : bare (some x6) = true) (h7 : bare (some x7) = true) :
    sAsg (gTp (gNC (gNm 6) (gNC (gNm 7) gN0))) (sCallV M (sGv (sVar 4) sG0)) [s0, s1, s2, s3, .val o, x5, x6, x7, x8, x9, x10] = .nx [s0, s1, s2, s3, .val o, x5, .val x, .val y, x8, x9, x10] := by
  simp [sAsg, e1, R.st, gTp, gNC, h6, h7]
theorem t_ag (h : bare (some x5) = true) {s4 s6 s7 : Sl} : gNm 5 x [s0, s1, s2, s3, s4, x5, s6, s7, x8, x9, x10] = .nx [s0, s1, s2, s3, s4, .val x, s6, s7, x8, x9, x10] := by
  simp [h]
theorem t_w {L : List PyData} {c t : PyData} {b : Bool} (e : M [.val o] = .ok (.own L) T1) (e2 : N [.val o] = .ok (.val (.bool b)) T2) (no : noL o = true) (nb : noLs bag = true) (h0 : okSl s0 = true) (h8 : bare (some x8) = true) (h9 : bare (some x9) = true) (h10 : bare (some x10) = true)
    (hl : L.length ≤ 1000) (hw : L.all (wrD 1) = true) (ok : okR (.list L)) (okb : okR (.bool b)) :
    sWr 8 [9, 10] 1 M (sGv (sVar 4) sG0) (sOr (sTst (sBin gNe (sRepr (sVar 8)) (sRepr (sVar 6)))) (sTst (sBin gNe (sRepr (sCallV N (sGv (sVar 4) sG0))) (sRepr (sVar 7))))) [s0, .val c, .own bag, .val t, .val o, .val w, .val (.list L), .val (.bool b), x8, x9, x10] = .nx [s0, .val c, .own bag, .val t, .val o, .val w, .val (.list L), .val (.bool b), .nil, .nil, .nil] := by
  have bs : ∀ {z : Sl}, bare (some z) = true → okSl z = true := fun {z} h => by
    match z, h with
    | .nil, _ => rfl
    | .val _, _ => rfl
  refine sWr_nx (gs := [.v o]) (S0 := [.val o]) (by simp) (by simp) e rfl ⟨?_, ?_, hl, hw⟩ ?_
  · have v : ∀ d, okSl (.val d) = true := fun _ => rfl
    have ow : okSl (.own bag) = true := nb
    simp [okW, v, ow, h0, h8, h9, h10, bs h8, bs h9, bs h10]
  · simp [flatSl, no]
  · simp [ok, okb, e2]
end
section
variable {os : List Nat}
theorem GD1_fit (h : Off os) {d : Nat} (hd : d < 41) : Fit 2 1100 (GD1 os d) := by
  have h39 := h.1
  have f1 : Fit 1 540 (.list (nts (ok1 os d))) := by
    refine (fit_list (k := 0) (w := 12) (n := 40) (fun z hz => ?_) ?_).mono (by decide) (by decide)
    · obtain ⟨x, hx, rfl⟩ := List.mem_map.mp hz
      have := (mem_ok1.mp hx).2.1
      exact fit_small (by omega)
    · rw [nts_len]
      exact Nat.le_trans okd_len (by omega)
  unfold GD1
  refine (fit_tup (k := 1) (w := 540) (n := 2) (fun z hz => ?_) (by simp)).mono (by decide) (by decide)
  simp only [List.mem_cons, List.not_mem_nil, or_false] at hz
  rcases hz with rfl | rfl
  · exact (fit_small (by omega)).mono (by decide) (by decide)
  · exact f1
theorem GDs_len (h : Off os) : (GDs os).length ≤ 40 := by
  have h39 := h.1
  unfold GDs
  rw [List.length_map]
  have : (cenL os).length ≤ (List.range (os.length + 1)).length := List.length_filter_le _ _
  rw [List.length_range] at this
  omega
theorem GDs_mem {z : PyData} (hz : z ∈ GDs os) : ∃ d, d ≤ os.length ∧ z = GD1 os d := by
  obtain ⟨d, hd, rfl⟩ := List.mem_map.mp hz
  exact ⟨d, (mem_cenL.mp hd).1, rfl⟩
theorem GDs_ok (h : Off os) : okR (.list (GDs os)) := by
  have h39 := h.1
  refine (fit_list (k := 2) (w := 1100) (n := 40) (fun z hz => ?_) (GDs_len h)).okR
  obtain ⟨d, h1, rfl⟩ := GDs_mem hz
  exact GD1_fit h (by omega)
theorem GDs_wr (h : Off os) : (GDs os).all (wrD 1) = true := by
  have h39 := h.1
  rw [List.all_eq_true]
  intro z hz
  obtain ⟨d, h1, rfl⟩ := GDs_mem hz
  have e1 : (nts (ok1 os d)).length ≤ 1000 := by rw [nts_len]; exact Nat.le_trans okd_len (by omega)
  simp [GD1, wrD, lstsD, e1]
end
theorem turn_ok {k : Nat} {bag : List PyData} (hb : Sg k bag) (hk : k < 400000) {s0 : Sl} {c t : PyData} {x4 x5 x6 x7 x8 x9 x10 : Sl} (h0 : okSl s0 = true) (h4 : noio (some x4) = true) (h5 : bare (some x5) = true) (h6 : bare (some x6) = true) (h7 : bare (some x7) = true) (h8 : bare (some x8) = true) (h9 : bare (some x9) = true) (h10 : bare (some x10) = true) :
    ∃ bag' y4 y6 y7, Sg (k + 400) bag' ∧ noio (some y4) = true ∧ bare (some y6) = true ∧ bare (some y7) = true ∧ q_turn [s0, .val c, .own bag, .val t, x4, x5, x6, x7, x8, x9, x10] = .nx [s0, .val c, .own bag', .val t, y4, .val (.int 1), y6, y7, .nil, .nil, .nil] := by
  obtain ⟨r1, bag1, T1, a1, a2, a3, e1⟩ := draw hb (by omega) (m := 3) (by decide) (by decide)
  obtain ⟨m, m0, m1, em⟩ := pick3 a1 a2 (a := 5) (b := 12) (c := 40) (by decide) (by decide) (by decide) (by decide) (by decide) (by decide)
  obtain ⟨os, bag2, T2, b1, b2, b3, e2⟩ := law_off m0 m1 (by omega) a3
  obtain ⟨T5, e5⟩ := law_removed b1
  obtain ⟨T6, e6⟩ := groups_ok b1
  obtain ⟨T7, e7⟩ := alone_ok b1
  have h39 := b1.1
  have ok := GDs_ok b1
  have wr := GDs_wr b1
  have gl := GDs_len b1
  have nb := b2.noL
  refine ⟨bag2, vO os, .val (.list (GDs os)), .val (.bool (ok1 os 0).isEmpty), b2.mono (by omega), rfl, rfl, rfl, ?_⟩
  have w1 := fun (t' w : PyData) (z8 z9 z10 : Sl) h8 h9 h10 => t_w (M := m_groups) (N := m_is_alone) (T1 := T6) (T2 := T7) (s0 := s0) (c := c) (t := t') (w := w) (x8 := z8) (x9 := z9) (x10 := z10) e6 e7 noL_vO nb h0 h8 h9 h10 (Nat.le_trans gl (by decide)) wr ok ok_bool
  rw [q_turn, r_sSeq, show q_o _ = _ from t_o e1 em e2 h4, sq_nx, r_sSeq, show q_d _ = _ from t_d e5 h6 h7, sq_nx, r_sFor, rng_two, stt_ok]
  generalize GDs os = G at *
  refine loop_two (S1 := [s0, .val c, .own bag2, .val t, vO os, .val (.int 0), .val (.list G), .val (.bool (ok1 os 0).isEmpty), x8, x9, x10]) (t_ag h5) (w1 t (.int 0) x8 x9 x10 h8 h9 h10) (S3 := [s0, .val c, .own bag2, .val t, vO os, .val (.int 1), .val (.list G), .val (.bool (ok1 os 0).isEmpty), .nil, .nil, .nil]) (t_ag rfl) (w1 t (.int 1) .nil .nil .nil rfl rfl rfl)
theorem rng_three {S : En} : sRng1 (sCons (sK (.int 3)) sNil) S = .ok [.int 0, .int 1, .int 2] S := by
  rw [rng1_run (S1 := S) (ds := [.int 3]) (by simp) (rng1_ok (by decide) (by decide))]
  rfl
theorem cell_ok {x : Int} {s0 x2 x3 x4 x5 x6 x7 x8 x9 x10 : Sl} (h0 : okSl s0 = true) (h2 : noio (some x2) = true) (h3 : bare (some x3) = true) (h4 : noio (some x4) = true) (h5 : bare (some x5) = true) (h6 : bare (some x6) = true) (h7 : bare (some x7) = true) (h8 : bare (some x8) = true) (h9 : bare (some x9) = true) (h10 : bare (some x10) = true) :
    ∃ y2 y4 y6 y7, noio (some y2) = true ∧ noio (some y4) = true ∧ bare (some y6) = true ∧ bare (some y7) = true ∧ q_cell [s0, .val (.int x), x2, x3, x4, x5, x6, x7, x8, x9, x10] = .nx [s0, .val (.int x), y2, .val (.int 2), y4, .val (.int 1), y6, y7, .nil, .nil, .nil] := by
  obtain ⟨bag, T, hb, e⟩ := law_source x
  obtain ⟨bag1, y4, y6, y7, a0, a4, a6, a7, u1⟩ := turn_ok hb (by decide) (s0 := s0) (c := .int x) (t := .int 0) h0 h4 h5 h6 h7 h8 h9 h10
  obtain ⟨bag2, z4, z6, z7, b0, b4, b6, b7, u2⟩ := turn_ok a0 (by decide) (s0 := s0) (c := .int x) (t := .int 1) (x5 := .val (.int 1)) (x8 := .nil) (x9 := .nil) (x10 := .nil) h0 a4 rfl a6 a7 rfl rfl rfl
  obtain ⟨bag3, w4, w6, w7, c0, c4, c6, c7, u3⟩ := turn_ok b0 (by decide) (s0 := s0) (c := .int x) (t := .int 2) (x5 := .val (.int 1)) (x8 := .nil) (x9 := .nil) (x10 := .nil) h0 b4 rfl b6 b7 rfl rfl rfl
  refine ⟨.own bag3, w4, w6, w7, rfl, c4, c6, c7, ?_⟩
  rw [q_cell, r_sSeq, show q_src _ = _ from t_src e h2, sq_nx, r_sFor, rng_three, stt_ok, loop_nx (by simp [h3]) u1, loop_nx (by simp) u2, loop_nx (by simp) u3]
  rfl
theorem off0 : Off [] := ⟨by decide, fun i x h => by simp at h⟩
theorem off1 : Off [0, 0, 2] := (caseB_ok (os := [0, 0, 2]) (ss := [Str.ofString "a", Str.ofString "b", Str.ofString "c", Str.ofString "d"]) (ord := []) (by decide +kernel)).off
theorem off2 : Off [0, 1] := (caseB_ok (os := [0, 1]) (ss := [Str.ofString "a", Str.ofString "b", Str.ofString "c"]) (ord := []) (by decide +kernel)).off
theorem off3 : Off [0, 0] := (caseB_ok (os := [0, 0]) (ss := [Str.ofString "a", Str.ofString "b", Str.ofString "c"]) (ord := []) (by decide +kernel)).off
theorem x_eq0 : GDs [] = [] := by decide +kernel
theorem x_al0 : (ok1 [] 0).isEmpty = true := by decide +kernel
theorem x_eq1 : isT (gEq (.list (GDs [0, 0, 2])) (.list [.tuple [.int 0, .list [.int 1]], .tuple [.int 2, .list [.int 3]]])) = true := by decide +kernel
theorem x_al2 : (ok1 [0, 1] 0).isEmpty = true := by decide +kernel
theorem x_al3 : (ok1 [0, 0] 0).isEmpty = false := by decide +kernel
theorem t_e1 {M N : Mf} {T U : En} {S : En} (e1 : M [.val (.tuple [])] = .ok (.own []) T) (e2 : N [.val (.tuple [])] = .ok (.val (.bool true)) U) (g : gNe (.list []) (.list []) = some (.bool false)) (g2 : gIsNot (.bool true) (.bool true) = some (.bool false)) : (sIf (sOr (sTst (sBin gNe (sNE (sCallN M (sGv (sTup sNil) sG0))) (sNE (sLst sNil)))) (sTst (sBin gIsNot (sCallV N (sGv (sTup sNil) sG0)) (sK (.bool true))))) (sRet (sK (.bool false))) sNx) S = .nx S := by
  simp [e1, e2, sizeLine, g, g2]
theorem t_e2 {M N : Mf} {T U V : En} {S : En} {L : List PyData} (e1 : M [.val (.tuple [.int 0, .int 0, .int 2])] = .ok (.own L) T) (e2 : N [.val (.tuple [.int 0, .int 1])] = .ok (.val (.bool true)) U) (e3 : N [.val (.tuple [.int 0, .int 0])] = .ok (.val (.bool false)) V)
    (q : gEq (.list L) (.list [.tuple [.int 0, .list [.int 1]], .tuple [.int 2, .list [.int 3]]]) = some (.bool true)) (g1 : gIs (.bool true) (.bool true) = some (.bool true)) (g2 : gIs (.bool false) (.bool false) = some (.bool true)) :
    (sAndV (sBin gEq (sNE (sCallN M (sGv (sTup (sCons (sK (.int 0)) (sCons (sK (.int 0)) (sCons (sK (.int 2)) sNil)))) sG0))) (sNE (sLst (sCons (sTup (sCons (sK (.int 0)) (sCons (sNE (sLst (sCons (sK (.int 1)) sNil))) sNil))) (sCons (sTup (sCons (sK (.int 2)) (sCons (sNE (sLst (sCons (sK (.int 3)) sNil))) sNil))) sNil))))) (sAndV (sBin gIs (sCallV N (sGv (sTup (sCons (sK (.int 0)) (sCons (sK (.int 1)) sNil))) sG0)) (sK (.bool true))) (sBin gIs (sCallV N (sGv (sTup (sCons (sK (.int 0)) (sCons (sK (.int 0)) sNil))) sG0)) (sK (.bool false))))) S = .ok (.bool true) S := by
  simp [e1, e2, e3, q, g1, g2, sizeLine]
theorem end1 {S : En} : q_e1 S = .nx S := by
  obtain ⟨T, e⟩ := groups_ok off0
  obtain ⟨U, f⟩ := alone_ok off0
  rw [x_eq0] at e
  rw [x_al0] at f
  exact t_e1 e f rfl rfl
theorem end2 {S : En} : q_e2 S = .ok (.bool true) S := by
  obtain ⟨T, e⟩ := groups_ok off1
  obtain ⟨U, f⟩ := alone_ok off2
  obtain ⟨V, g⟩ := alone_ok off3
  rw [x_al2] at f
  rw [x_al3] at g
  exact t_e2 e f g (isT_some x_eq1) rfl rfl
theorem law_true (ns : List Int) (hn : ns.length ≤ 63) : ∃ S, m_law [.val (scrD ns)] = .ok (.val (.bool true)) S := by
  obtain ⟨S', el, y1, y2, y3, y4, y5, y6, y7, y8, y9, y10, c1, c2, c3, c4, c5, c6, c7, c8, c9, c10, rfl⟩ := loop_inv (g := gNm 1) (b := q_cell) (ds := cutD (ns.map PyData.int) none (some 8) ++ [.int 0]) (P := fun _ S => ∃ y1 y2 y3 y4 y5 y6 y7 y8 y9 y10, bare (some y1) = true ∧ noio (some y2) = true ∧ bare (some y3) = true ∧ noio (some y4) = true ∧ bare (some y5) = true ∧ bare (some y6) = true ∧ bare (some y7) = true ∧ bare (some y8) = true ∧ bare (some y9) = true ∧ bare (some y10) = true ∧ S = [.val (scrD ns), y1, y2, y3, y4, y5, y6, y7, y8, y9, y10])
    (S := [.val (scrD ns), .nil, .nil, .nil, .nil, .nil, .nil, .nil, .nil, .nil, .nil]) ⟨.nil, .nil, .nil, .nil, .nil, .nil, .nil, .nil, .nil, .nil, rfl, rfl, rfl, rfl, rfl, rfl, rfl, rfl, rfl, rfl, rfl⟩ fun i z S hz hS => by
    obtain ⟨y1, y2, y3, y4, y5, y6, y7, y8, y9, y10, c1, c2, c3, c4, c5, c6, c7, c8, c9, c10, rfl⟩ := hS
    obtain ⟨c, rfl⟩ := cell_z hz
    obtain ⟨z2, z4, z6, z7, d2, d4, d6, d7, ec⟩ := cell_ok (x := c) (s0 := .val (scrD ns)) rfl c2 c3 c4 c5 c6 c7 c8 c9 c10
    exact ⟨[.val (scrD ns), .val (.int c), y2, y3, y4, y5, y6, y7, y8, y9, y10], _, by simp [c1], ec, .val (.int c), z2, .val (.int 2), z4, .val (.int 1), z6, z7, .nil, .nil, .nil, rfl, d2, rfl, d4, rfl, d6, d7, rfl, rfl, rfl, rfl⟩
  refine ⟨[.val (scrD ns), y1, y2, y3, y4, y5, y6, y7, y8, y9, y10], ?_⟩
  rw [m_law, r_mB]
  show (c_law [.val (scrD ns), .nil, .nil, .nil, .nil, .nil, .nil, .nil, .nil, .nil, .nil]).fin = _
  rw [c_law_eq, r_sSeq, r_sFor, t_cellsS (L := ns.map PyData.int) (by rw [List.length_map]; exact hn) rfl, stt_ok, el, sq_nx, r_sSeq, end1, sq_nx, r_sRet, end2, stt_ok]
  rfl
end Ds
end

set_option Elab.async false
set_option linter.all false
set_option maxRecDepth 100000
set_option maxHeartbeats 1000000
open PySem PySem.Spec PyProof.Rows L2
namespace Ds
def spEnd (K : PySem.W.Frag) : Sp := fun vs H Q E => ∃ (a : Addr) (ns : List Int), vs = [.ref a] ∧ SK K (fun _ => False) H a (ns.map V.int) ∧ ns.length ≤ 63 ∧ ∀ H', Q (.bl true) H'
theorem FnG.weak {P : Program} {w : World} {K : PySem.W.Frag} {mg : Str → Option Value} {base : Heap} {k : Nat} {f : Addr} {fd : FuncData} {ps : List Str} {sp sp' : Sp} (F : FnG P w K mg base k f fd ps sp) (h : ∀ vs H Q E, sp' vs H Q E → sp vs H Q E) : FnG P w K mg base k f fd ps sp' := by
  exact ⟨fun vs H Q E h' => F.len vs H Q E (h _ _ _ _ h'), fun A outer s H args us vs Q E gd hr he hb hv hs => F.run A outer s H args us vs Q E gd hr he hb hv (h _ _ _ _ hs)⟩
theorem end_law {K : PySem.W.Frag} {mg : Str → Option Value} {vs : List V} {H : Hp} {Q : VK} {E : XK} (h : spEnd K vs H Q E) : spM K mg m_law 1 vs H Q E := by
  obtain ⟨a, ns, rfl, hk, hl, q⟩ := h
  obtain ⟨Sx, hm⟩ := law_true ns hl
  refine ⟨rfl, fun _ => False, [.val (scrD ns)], ⟨rfl, fun i x e => ?_, fun i j ds es b e => ?_, fun _ z => z.elim⟩, ?_⟩
  · match i, e with
    | 0, e =>
      obtain rfl : Sl.val (scrD ns) = x := by simpa using e
      exact ⟨.ref a, rfl, .scr hk⟩
    | i + 1, e => simp at e
  · match i, e with
    | 0, e => simp at e
    | i + 1, e => simp at e
  · rw [hm]
    intro v H' _ rd
    cases rd
    exact q H'
theorem all_mk {P : Program} {w : World} {K : PySem.W.Frag} {h : Heap} {mg : Str → Option Value} {fa f_is_whole f_open_desks f__law_source f__law_draw f__law_removed f_is_number f_lower_desks f__law_office f_is_office f_need_office f_groups f_is_alone f_law : Addr} (X : K.In h) (G : h.Ns mainGlobals mg) (hfa : mg "law" = some (.ref fa))
    {od_is_whole an_is_whole od_open_desks an_open_desks od__law_source an__law_source od__law_draw an__law_draw od__law_removed an__law_removed od_is_number an_is_number od_lower_desks an_lower_desks od__law_office an__law_office od_is_office an_is_office od_need_office an_need_office od_groups an_groups od_is_alone an_is_alone od_law an_law : Option Addr} {sl_is_whole sl_open_desks sl__law_source sl__law_draw sl__law_removed sl_is_number sl_lower_desks sl__law_office sl_is_office sl_need_office sl_groups sl_is_alone sl_law : Array (Option Value)} {oc_is_whole kV_is_whole dc_is_whole pm_is_whole cd_is_whole ct_is_whole oc_open_desks kV_open_desks dc_open_desks pm_open_desks cd_open_desks ct_open_desks oc__law_source kV__law_source dc__law_source pm__law_source cd__law_source ct__law_source oc__law_draw kV__law_draw dc__law_draw pm__law_draw cd__law_draw ct__law_draw oc__law_removed kV__law_removed dc__law_removed pm__law_removed cd__law_removed ct__law_removed oc_is_number kV_is_number dc_is_number pm_is_number cd_is_number ct_is_number oc_lower_desks kV_lower_desks dc_lower_desks pm_lower_desks cd_lower_desks ct_lower_desks oc__law_office kV__law_office dc__law_office pm__law_office cd__law_office ct__law_office oc_is_office kV_is_office dc_is_office pm_is_office cd_is_office ct_is_office oc_need_office kV_need_office dc_need_office pm_need_office cd_need_office ct_need_office oc_groups kV_groups dc_groups pm_groups cd_groups ct_groups oc_is_alone kV_is_alone dc_is_alone pm_is_alone cd_is_alone ct_is_alone oc_law kV_law dc_law pm_law cd_law ct_law : Value}
    {t_MOST_DESKS : Tok}
    (a_is_whole : PySem.W.nsIn K mainGlobals "is_whole" = some (some (.ref f_is_whole))) (l_is_whole : K.lookup f_is_whole = some ⟨oc_is_whole, od_is_whole, .func (PySem.W.fnOf "is_whole" "is_whole" (defArgs S_is_whole) (defBody S_is_whole) (defScope S_is_whole) .none kV_is_whole dc_is_whole pm_is_whole an_is_whole cd_is_whole ct_is_whole), sl_is_whole⟩) (c_is_whole : PySem.W.codeIn K cd_is_whole "is_whole" = true) (k_is_whole : PySem.W.keepIn K (.ref f_is_whole) = true)
    (a_open_desks : PySem.W.nsIn K mainGlobals "open_desks" = some (some (.ref f_open_desks))) (l_open_desks : K.lookup f_open_desks = some ⟨oc_open_desks, od_open_desks, .func (PySem.W.fnOf "open_desks" "open_desks" (defArgs S_open_desks) (defBody S_open_desks) (defScope S_open_desks) .none kV_open_desks dc_open_desks pm_open_desks an_open_desks cd_open_desks ct_open_desks), sl_open_desks⟩) (c_open_desks : PySem.W.codeIn K cd_open_desks "open_desks" = true) (k_open_desks : PySem.W.keepIn K (.ref f_open_desks) = true)
    (a__law_source : PySem.W.nsIn K mainGlobals "_law_source" = some (some (.ref f__law_source))) (l__law_source : K.lookup f__law_source = some ⟨oc__law_source, od__law_source, .func (PySem.W.fnOf "_law_source" "_law_source" (defArgs S__law_source) (defBody S__law_source) (defScope S__law_source) .none kV__law_source dc__law_source pm__law_source an__law_source cd__law_source ct__law_source), sl__law_source⟩) (c__law_source : PySem.W.codeIn K cd__law_source "_law_source" = true) (k__law_source : PySem.W.keepIn K (.ref f__law_source) = true)
    (a__law_draw : PySem.W.nsIn K mainGlobals "_law_draw" = some (some (.ref f__law_draw))) (l__law_draw : K.lookup f__law_draw = some ⟨oc__law_draw, od__law_draw, .func (PySem.W.fnOf "_law_draw" "_law_draw" (defArgs S__law_draw) (defBody S__law_draw) (defScope S__law_draw) .none kV__law_draw dc__law_draw pm__law_draw an__law_draw cd__law_draw ct__law_draw), sl__law_draw⟩) (c__law_draw : PySem.W.codeIn K cd__law_draw "_law_draw" = true) (k__law_draw : PySem.W.keepIn K (.ref f__law_draw) = true)
    (a__law_removed : PySem.W.nsIn K mainGlobals "_law_removed" = some (some (.ref f__law_removed))) (l__law_removed : K.lookup f__law_removed = some ⟨oc__law_removed, od__law_removed, .func (PySem.W.fnOf "_law_removed" "_law_removed" (defArgs S__law_removed) (defBody S__law_removed) (defScope S__law_removed) .none kV__law_removed dc__law_removed pm__law_removed an__law_removed cd__law_removed ct__law_removed), sl__law_removed⟩) (c__law_removed : PySem.W.codeIn K cd__law_removed "_law_removed" = true) (k__law_removed : PySem.W.keepIn K (.ref f__law_removed) = true)
    (a_is_number : PySem.W.nsIn K mainGlobals "is_number" = some (some (.ref f_is_number))) (l_is_number : K.lookup f_is_number = some ⟨oc_is_number, od_is_number, .func (PySem.W.fnOf "is_number" "is_number" (defArgs S_is_number) (defBody S_is_number) (defScope S_is_number) .none kV_is_number dc_is_number pm_is_number an_is_number cd_is_number ct_is_number), sl_is_number⟩) (c_is_number : PySem.W.codeIn K cd_is_number "is_number" = true) (k_is_number : PySem.W.keepIn K (.ref f_is_number) = true)
    (a_lower_desks : PySem.W.nsIn K mainGlobals "lower_desks" = some (some (.ref f_lower_desks))) (l_lower_desks : K.lookup f_lower_desks = some ⟨oc_lower_desks, od_lower_desks, .func (PySem.W.fnOf "lower_desks" "lower_desks" (defArgs S_lower_desks) (defBody S_lower_desks) (defScope S_lower_desks) .none kV_lower_desks dc_lower_desks pm_lower_desks an_lower_desks cd_lower_desks ct_lower_desks), sl_lower_desks⟩) (c_lower_desks : PySem.W.codeIn K cd_lower_desks "lower_desks" = true) (k_lower_desks : PySem.W.keepIn K (.ref f_lower_desks) = true)
    (a__law_office : PySem.W.nsIn K mainGlobals "_law_office" = some (some (.ref f__law_office))) (l__law_office : K.lookup f__law_office = some ⟨oc__law_office, od__law_office, .func (PySem.W.fnOf "_law_office" "_law_office" (defArgs S__law_office) (defBody S__law_office) (defScope S__law_office) .none kV__law_office dc__law_office pm__law_office an__law_office cd__law_office ct__law_office), sl__law_office⟩) (c__law_office : PySem.W.codeIn K cd__law_office "_law_office" = true) (k__law_office : PySem.W.keepIn K (.ref f__law_office) = true)
    (a_is_office : PySem.W.nsIn K mainGlobals "is_office" = some (some (.ref f_is_office))) (l_is_office : K.lookup f_is_office = some ⟨oc_is_office, od_is_office, .func (PySem.W.fnOf "is_office" "is_office" (defArgs S_is_office) (defBody S_is_office) (defScope S_is_office) .none kV_is_office dc_is_office pm_is_office an_is_office cd_is_office ct_is_office), sl_is_office⟩) (c_is_office : PySem.W.codeIn K cd_is_office "is_office" = true) (k_is_office : PySem.W.keepIn K (.ref f_is_office) = true)
    (a_need_office : PySem.W.nsIn K mainGlobals "need_office" = some (some (.ref f_need_office))) (l_need_office : K.lookup f_need_office = some ⟨oc_need_office, od_need_office, .func (PySem.W.fnOf "need_office" "need_office" (defArgs S_need_office) (defBody S_need_office) (defScope S_need_office) .none kV_need_office dc_need_office pm_need_office an_need_office cd_need_office ct_need_office), sl_need_office⟩) (c_need_office : PySem.W.codeIn K cd_need_office "need_office" = true) (k_need_office : PySem.W.keepIn K (.ref f_need_office) = true)
    (a_groups : PySem.W.nsIn K mainGlobals "groups" = some (some (.ref f_groups))) (l_groups : K.lookup f_groups = some ⟨oc_groups, od_groups, .func (PySem.W.fnOf "groups" "groups" (defArgs S_groups) (defBody S_groups) (defScope S_groups) .none kV_groups dc_groups pm_groups an_groups cd_groups ct_groups), sl_groups⟩) (c_groups : PySem.W.codeIn K cd_groups "groups" = true) (k_groups : PySem.W.keepIn K (.ref f_groups) = true)
    (a_is_alone : PySem.W.nsIn K mainGlobals "is_alone" = some (some (.ref f_is_alone))) (l_is_alone : K.lookup f_is_alone = some ⟨oc_is_alone, od_is_alone, .func (PySem.W.fnOf "is_alone" "is_alone" (defArgs S_is_alone) (defBody S_is_alone) (defScope S_is_alone) .none kV_is_alone dc_is_alone pm_is_alone an_is_alone cd_is_alone ct_is_alone), sl_is_alone⟩) (c_is_alone : PySem.W.codeIn K cd_is_alone "is_alone" = true) (k_is_alone : PySem.W.keepIn K (.ref f_is_alone) = true)
    (a_law : PySem.W.nsIn K mainGlobals "law" = some (some (.ref f_law))) (l_law : K.lookup f_law = some ⟨oc_law, od_law, .func (PySem.W.fnOf "law" "law" (defArgs S_law) (defBody S_law) (defScope S_law) .none kV_law dc_law pm_law an_law cd_law ct_law), sl_law⟩) (c_law : PySem.W.codeIn K cd_law "law" = true) (k_law : PySem.W.keepIn K (.ref f_law) = true)
    (z_isinstance : PySem.W.nsIn K mainGlobals "isinstance" = some none)
    (z_int : PySem.W.nsIn K mainGlobals "int" = some none)
    (z_bool : PySem.W.nsIn K mainGlobals "bool" = some none)
    (z_range : PySem.W.nsIn K mainGlobals "range" = some none)
    (z_len : PySem.W.nsIn K mainGlobals "len" = some none)
    (z_max : PySem.W.nsIn K mainGlobals "max" = some none)
    (z_list : PySem.W.nsIn K mainGlobals "list" = some none)
    (z_sorted : PySem.W.nsIn K mainGlobals "sorted" = some none)
    (z_tuple : PySem.W.nsIn K mainGlobals "tuple" = some none)
    (z_min : PySem.W.nsIn K mainGlobals "min" = some none)
    (z_all : PySem.W.nsIn K mainGlobals "all" = some none)
    (z_enumerate : PySem.W.nsIn K mainGlobals "enumerate" = some none)
    (z_repr : PySem.W.nsIn K mainGlobals "repr" = some none)
    (z_MOST_DESKS : PySem.W.nsIn K mainGlobals "MOST_DESKS" = some (some (.int 40 t_MOST_DESKS)))
    : ∃ fd : FuncData, (∀ (s : Shared) (v : Value), BindsTo s fd ⟨[v], []⟩ [("script", v)]) ∧ ∀ base : Heap, K.In base → base.Ns mainGlobals mg → FnG P w K mg base 6 fa fd ["script"] (spEnd K) := by
  have e := hfa.symm.trans (PySem.W.mg_of X G a_law)
  cases e
  have F_is_whole := fun_mk (st := S_is_whole) l_is_whole c_is_whole k_is_whole
  have b_is_whole := F_is_whole.binds (ps := ["value"]) fun _ _ _ _ _ _ us hl => match us, hl with | [_], _ => rfl
  have F_open_desks := fun_mk (st := S_open_desks) l_open_desks c_open_desks k_open_desks
  have b_open_desks := F_open_desks.binds (ps := ["office", "called"]) fun _ _ _ _ _ _ us hl => match us, hl with | [_, _], _ => rfl
  have F__law_source := fun_mk (st := S__law_source) l__law_source c__law_source k__law_source
  have b__law_source := F__law_source.binds (ps := ["cell"]) fun _ _ _ _ _ _ us hl => match us, hl with | [_], _ => rfl
  have F__law_draw := fun_mk (st := S__law_draw) l__law_draw c__law_draw k__law_draw
  have b__law_draw := F__law_draw.binds (ps := ["source", "limit"]) fun _ _ _ _ _ _ us hl => match us, hl with | [_, _], _ => rfl
  have F__law_removed := fun_mk (st := S__law_removed) l__law_removed c__law_removed k__law_removed
  have b__law_removed := F__law_removed.binds (ps := ["office"]) fun _ _ _ _ _ _ us hl => match us, hl with | [_], _ => rfl
  have F_is_number := fun_mk (st := S_is_number) l_is_number c_is_number k_is_number
  have b_is_number := F_is_number.binds (ps := ["value", "low", "high"]) fun _ _ _ _ _ _ us hl => match us, hl with | [_, _, _], _ => rfl
  have F_lower_desks := fun_mk (st := S_lower_desks) l_lower_desks c_lower_desks k_lower_desks
  have b_lower_desks := F_lower_desks.binds (ps := ["office"]) fun _ _ _ _ _ _ us hl => match us, hl with | [_], _ => rfl
  have F__law_office := fun_mk (st := S__law_office) l__law_office c__law_office k__law_office
  have b__law_office := F__law_office.binds (ps := ["source", "most"]) fun _ _ _ _ _ _ us hl => match us, hl with | [_, _], _ => rfl
  have F_is_office := fun_mk (st := S_is_office) l_is_office c_is_office k_is_office
  have b_is_office := F_is_office.binds (ps := ["value"]) fun _ _ _ _ _ _ us hl => match us, hl with | [_], _ => rfl
  have F_need_office := fun_mk (st := S_need_office) l_need_office c_need_office k_need_office
  have b_need_office := F_need_office.binds (ps := ["office"]) fun _ _ _ _ _ _ us hl => match us, hl with | [_], _ => rfl
  have F_groups := fun_mk (st := S_groups) l_groups c_groups k_groups
  have b_groups := F_groups.binds (ps := ["office"]) fun _ _ _ _ _ _ us hl => match us, hl with | [_], _ => rfl
  have F_is_alone := fun_mk (st := S_is_alone) l_is_alone c_is_alone k_is_alone
  have b_is_alone := F_is_alone.binds (ps := ["office"]) fun _ _ _ _ _ _ us hl => match us, hl with | [_], _ => rfl
  have F_law := fun_mk (st := S_law) l_law c_law k_law
  have b_law := F_law.binds (ps := ["script"]) fun _ _ _ _ _ _ us hl => match us, hl with | [_], _ => rfl
  refine ⟨PySem.W.fnOf "law" "law" (defArgs S_law) (defBody S_law) (defScope S_law) .none kV_law dc_law pm_law an_law cd_law ct_law, fun s v => .of_eq rfl, fun base _ _ => ?_⟩
  have G_is_whole := ok_is_whole (P := P) (w := w) (mg := mg) (base := base) F_is_whole (PySem.W.mg_none_of X G z_isinstance) (PySem.W.mg_none_of X G z_int) (PySem.W.mg_none_of X G z_bool)
  have G_open_desks := ok_open_desks (P := P) (w := w) (mg := mg) (base := base) F_open_desks (PySem.W.mg_none_of X G z_range) (PySem.W.mg_none_of X G z_len)
  have G__law_source := ok__law_source (P := P) (w := w) (mg := mg) (base := base) F__law_source (PySem.W.mg_none_of X G z_max)
  have G__law_draw := ok__law_draw (P := P) (w := w) (mg := mg) (base := base) F__law_draw
  have G__law_removed := ok__law_removed (P := P) (w := w) (mg := mg) (base := base) F__law_removed (PySem.W.mg_none_of X G z_list) (PySem.W.mg_none_of X G z_len) (PySem.W.mg_none_of X G z_sorted) (PySem.W.mg_none_of X G z_range)
  have G_is_number := ok_is_number (P := P) (w := w) (mg := mg) (base := base) F_is_number G_is_whole (PySem.W.mg_of X G a_is_whole) k_is_whole b_is_whole
  have G_lower_desks := ok_lower_desks (P := P) (w := w) (mg := mg) (base := base) F_lower_desks G_open_desks (PySem.W.mg_of X G a_open_desks) k_open_desks b_open_desks (PySem.W.mg_none_of X G z_len)
  have G__law_office := ok__law_office (P := P) (w := w) (mg := mg) (base := base) F__law_office G__law_draw (PySem.W.mg_of X G a__law_draw) k__law_draw b__law_draw (PySem.W.mg_none_of X G z_range) (PySem.W.mg_none_of X G z_tuple) (PySem.W.mg_none_of X G z_min) (PySem.W.mg_none_of X G z_max)
  have G_is_office := ok_is_office (P := P) (w := w) (mg := mg) (base := base) F_is_office G_is_number (PySem.W.mg_of X G a_is_number) k_is_number b_is_number (PySem.W.mg_none_of X G z_all) (PySem.W.mg_none_of X G z_isinstance) (PySem.W.mg_none_of X G z_tuple) (PySem.W.mg_none_of X G z_len) (PySem.W.mg_none_of X G z_enumerate) (PySem.W.mg_of X G z_MOST_DESKS)
  have G_need_office := ok_need_office (P := P) (w := w) (mg := mg) (base := base) F_need_office G_is_office (PySem.W.mg_of X G a_is_office) k_is_office b_is_office
  have G_groups := ok_groups (P := P) (w := w) (mg := mg) (base := base) F_groups G_need_office (PySem.W.mg_of X G a_need_office) k_need_office b_need_office G_lower_desks (PySem.W.mg_of X G a_lower_desks) k_lower_desks b_lower_desks (PySem.W.mg_none_of X G z_enumerate) (PySem.W.mg_none_of X G z_len)
  have G_is_alone := ok_is_alone (P := P) (w := w) (mg := mg) (base := base) F_is_alone G_need_office (PySem.W.mg_of X G a_need_office) k_need_office b_need_office G_lower_desks (PySem.W.mg_of X G a_lower_desks) k_lower_desks b_lower_desks (PySem.W.mg_none_of X G z_len)
  have G_law := ok_law (P := P) (w := w) (mg := mg) (base := base) F_law G__law_source (PySem.W.mg_of X G a__law_source) k__law_source b__law_source G__law_office (PySem.W.mg_of X G a__law_office) k__law_office b__law_office G__law_removed (PySem.W.mg_of X G a__law_removed) k__law_removed b__law_removed G_groups (PySem.W.mg_of X G a_groups) k_groups b_groups G_is_alone (PySem.W.mg_of X G a_is_alone) k_is_alone b_is_alone G__law_draw (PySem.W.mg_of X G a__law_draw) k__law_draw b__law_draw (PySem.W.mg_none_of X G z_range) (PySem.W.mg_none_of X G z_repr)
  exact G_law.weak fun vs H Q E h => end_law h
theorem walkE {l : PySem.W.OpenLaw} {q : Program} {loose : List Str} {XP : (Str → Option Value) → Heap → Prop} {YP : World → Heap → Prop} {d : DefRec} {K : Params → PySem.W.Frag} (hn : l.most = some 63) (hdf : d.params.defaults = [])
    (hY : ∀ (w : World) (h : Heap), YP w h → (K w.params).In h)
    (F : ∀ (w : World) (mg : Str → Option Value) (fa : Addr) (h : Heap), (K w.params).In h → h.Ns mainGlobals mg → mg d.name = some (.ref fa) →
      ∃ fd : FuncData, (∀ (s : Shared) (u : Value), BindsTo s fd ⟨[u], []⟩ [("script", u)]) ∧ ∀ base : Heap, (K w.params).In base → base.Ns mainGlobals mg → FnG l.prog w (K w.params) mg base 6 fa fd ["script"] (spEnd (K w.params))) :
    PySem.W.WalkO q loose XP YP l.row.toRowW d [] (fun f vs => PySem.call f vs) :=
  law_end (n := 63) (k := 6) (x := "script") (sp := fun w => spEnd (K w.params)) hn (by decide) hdf ⟨rfl, by decide, by decide⟩ hY F fun w H a ns hl _ _ hk => ⟨a, ns, rfl, hk, hl, fun _ => rfl⟩
end Ds
open PySem PySem.W PyProof.Rows
set_option maxRecDepth 100000 in
set_option maxHeartbeats 0 in
theorem PySem.Challenge.cw_deskswaps_k15_groups_of_offices_holds : PySem.Challenge.rw_deskswaps_k15_groups_of_offices.Holds := by
  w_on; o_law; k_head; (case hw => w_witness2)
  k_fill
  refine Ds.walkE (l := PySem.Challenge.rw_deskswaps_k15_groups_of_offices) rfl rfl (fun w h Y => PySem.W.kIn_of Y) ?F
  case F =>
    intro w mg fa h KX G hmg
    refine' Ds.all_mk KX G hmg ?a_is_whole ?l_is_whole ?c_is_whole ?k_is_whole ?a_open_desks ?l_open_desks ?c_open_desks ?k_open_desks ?a__law_source ?l__law_source ?c__law_source ?k__law_source ?a__law_draw ?l__law_draw ?c__law_draw ?k__law_draw ?a__law_removed ?l__law_removed ?c__law_removed ?k__law_removed ?a_is_number ?l_is_number ?c_is_number ?k_is_number ?a_lower_desks ?l_lower_desks ?c_lower_desks ?k_lower_desks ?a__law_office ?l__law_office ?c__law_office ?k__law_office ?a_is_office ?l_is_office ?c_is_office ?k_is_office ?a_need_office ?l_need_office ?c_need_office ?k_need_office ?a_groups ?l_groups ?c_groups ?k_groups ?a_is_alone ?l_is_alone ?c_is_alone ?k_is_alone ?a_law ?l_law ?c_law ?k_law ?z_isinstance ?z_int ?z_bool ?z_range ?z_len ?z_max ?z_list ?z_sorted ?z_tuple ?z_min ?z_all ?z_enumerate ?z_repr ?z_MOST_DESKS
    (case a_is_whole => k_is); (case l_is_whole => k_is); (case c_is_whole => k_is); (case k_is_whole => k_is)
    (case a_open_desks => k_is); (case l_open_desks => k_is); (case c_open_desks => k_is); (case k_open_desks => k_is)
    (case a__law_source => k_is); (case l__law_source => k_is); (case c__law_source => k_is); (case k__law_source => k_is)
    (case a__law_draw => k_is); (case l__law_draw => k_is); (case c__law_draw => k_is); (case k__law_draw => k_is)
    (case a__law_removed => k_is); (case l__law_removed => k_is); (case c__law_removed => k_is); (case k__law_removed => k_is)
    (case a_is_number => k_is); (case l_is_number => k_is); (case c_is_number => k_is); (case k_is_number => k_is)
    (case a_lower_desks => k_is); (case l_lower_desks => k_is); (case c_lower_desks => k_is); (case k_lower_desks => k_is)
    (case a__law_office => k_is); (case l__law_office => k_is); (case c__law_office => k_is); (case k__law_office => k_is)
    (case a_is_office => k_is); (case l_is_office => k_is); (case c_is_office => k_is); (case k_is_office => k_is)
    (case a_need_office => k_is); (case l_need_office => k_is); (case c_need_office => k_is); (case k_need_office => k_is)
    (case a_groups => k_is); (case l_groups => k_is); (case c_groups => k_is); (case k_groups => k_is)
    (case a_is_alone => k_is); (case l_is_alone => k_is); (case c_is_alone => k_is); (case k_is_alone => k_is)
    (case a_law => k_is); (case l_law => k_is); (case c_law => k_is); (case k_law => k_is)
    (case z_isinstance => k_is)
    (case z_int => k_is)
    (case z_bool => k_is)
    (case z_range => k_is)
    (case z_len => k_is)
    (case z_max => k_is)
    (case z_list => k_is)
    (case z_sorted => k_is)
    (case z_tuple => k_is)
    (case z_min => k_is)
    (case z_all => k_is)
    (case z_enumerate => k_is)
    (case z_repr => k_is)
    (case z_MOST_DESKS => k_is)
#print axioms PySem.Challenge.cw_deskswaps_k15_groups_of_offices_holds
