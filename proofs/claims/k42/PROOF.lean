import PyProof.Rows.All
import Wide.All
import OpenK.AllK
import Wide.FinOn
import HandS.ForMost
import HandS.ForExc
import HandS.IsInst
import HandS.Wide
import HandS.Conv
import HandS.TupAny
import HandS.TupMul
import HandS.ExcIs
import HandS.HotCalls
import KE.KDictKeyed
import KE.KeyNested
import HandS.Walk
import KE.KExcIs
import KE.GoesMore
import PyProof.ReprRoads
import HandS.Style
import HandS.Ends
import HandS.Strs
import HandS.More
import HandS.SortRule
import HandS.Steps
import HandS.TupLe
import HandS.Star
import HandS.ExcOwn
import HandS.WideBits
import HandS.SetFor
import PyProof.Rows.SortShellAny
import HandS.Zip
import HandS.Deep
import HandS.DictSub
import HandS.RevRange
import HandS.WideMore
import KE.KMathGC
import HandS.ListItems
import KE.KDictZip
import KE.KDictCopyH
import KE.KSortTupAny
import PyProof.TupleOfStr
import KE.DatumOrd
import KE.KDictPairs
import HandS.TupLen
import HandS.ExcInit
import HandS.FStr
import KE.KExcSuper
import HandS.ExcField
import PySem.Challenge.RW_deskswaps_k42_desks_read
set_option Elab.async false
set_option linter.all false
set_option maxRecDepth 100000
section
set_option Elab.async false
set_option linter.all false
set_option maxRecDepth 100000
set_option maxHeartbeats 4000000
namespace Ds
open PySem PySem.Spec PyProof.Rows L2
abbrev St := L2.St
abbrev Takes (X : Cx) (W : WX) : Prop := L2N.Takes X W
theorem takes_of {X : Cx} {E : XK} (hs : X.stack = X.env :: X.outer) (hf : X.env.frame = some X.env.locals)
    (hex : X.ex = []) {E₁ : Value → Shared → Prop}
    (hx : X.xe = fun e s' => wpAny (model X.prog X.w) X.A (leaving X.env e) (fun _ t => L2N.CX X.prog X.w X.outer X.H_0 X.s_0 E e t) E₁ s') :
    Takes X (fun cls d _ H => E cls d H) := L2N.takes_of hs hf hex hx
theorem takes0 {X : Cx} : Takes X (fun _ _ _ _ => False) := fun _ _ h => by
  obtain ⟨_, _, _, _, _, _, _, _, _, _, _, _, _, _, _, _, w⟩ := h
  exact w.elim
theorem passAt {X : Cx} {W : WX} (tk : Takes X W) (σ : L2.St) : PassesAt (L2N.CX X.prog X.w) X σ (WE W σ) := L2N.passAt tk σ
theorem sql0 {K : PySem.W.Frag} {H : Hp} {a : Addr} {xs : List V} (h : SqL K (fun _ => none) a xs) : SqL K H a xs := by
  rcases h with (h | ⟨o, h⟩) | h
  · cases h
  · cases h
  · exact .inr h
theorem sqt0 {K : PySem.W.Frag} {H : Hp} {a : Addr} {xs : List V} (h : SqT K (fun _ => none) a xs) : SqT K H a xs := by
  rcases h with (h | ⟨o, h⟩) | h
  · cases h
  · cases h
  · exact .inr h
/-- the owned addresses, and the world -/
structure Av where
  p : Addr → Prop
  w : World
instance : CoeFun Av fun _ => Addr → Prop := ⟨Av.p⟩
/-- a list, a tuple that nobody owns -/
def LK (_ : PySem.W.Frag) (av : Av) (H : Hp) (a : Addr) (xs : List V) : Prop := ((H a = some (.lst xs) ∨ False) ∧ ¬ av a) ∨ False
/-- the law's script: a list that never changes -/
def SK (K : PySem.W.Frag) (av : Av) (H : Hp) (a : Addr) (xs : List V) : Prop := ((∃ o : Obj, H a = some (.frz o (.lst xs))) ∧ ¬ av a) ∨ SqL K (fun _ => none) a xs
/-- the script as data -/
def scrD (ns : List Int) : PyData := .dict [(.bool true, .list (ns.map PyData.int))]
def TK (K : PySem.W.Frag) (av : Av) (H : Hp) (a : Addr) (xs : List V) : Prop := ((∃ o : Obj, H a = some (.frz o (.tup xs)) ∧ o.dict = none ∧ o.cls = .type "tuple") ∧ ¬ av a) ∨ (SqT K (fun _ => none) a xs ∧ ∃ o : Obj, K.lookup a = some o ∧ o.dict = none ∧ o.cls = .type "tuple")
section
variable {K : PySem.W.Frag} {av av' : Av} {H H' : Hp} {a : Addr} {xs : List V}
theorem LK.get (h : LK K av H a xs) : H a = some (.lst xs) ∧ ¬ av a := h.elim (fun h => ⟨h.1.elim id False.elim, h.2⟩) False.elim
theorem LK.sq (h : LK K av H a xs) : SqL K H a xs := .inl (.inl h.get.1)
theorem SK.sq (h : SK K av H a xs) : SqL K H a xs := h.elim (fun h => .inl (.inr h.1)) sql0
theorem TK.sq (h : TK K av H a xs) : SqT K H a xs := h.elim (fun h => .inl (.inr (let ⟨o, e, _⟩ := h.1; ⟨o, e⟩))) fun h => sqt0 h.1
/-- what nobody owns stays -/
def Ext (av : Av) (H H' : Hp) : Prop := ∀ a o, ¬ av a → H a = some o → H' a = some o
/-- the owned ones were owned before or are new -/
def Grow (av av' : Av) (H : Hp) : Prop := ∀ a, av' a → av a ∨ H a = none
theorem Ext.refl (av : Av) (H : Hp) : Ext av H H := fun _ _ _ h => h
theorem Grow.refl (av : Av) (H : Hp) : Grow av av H := fun _ h => .inl h
theorem Ext.same (h : Same H H') : Ext av H H' := fun a o _ e => h a o e
theorem Ext.trans {H1 H2 : Hp} (a : Ext av H H1) (g : Grow av av' H) (b : Ext av' H1 H2) : Ext av H H2 := fun x o n e => b x o (fun z => (g x z).elim n fun q => by rw [e] at q; cases q) (a x o n e)
theorem Grow.trans {av2 : Av} {H1 : Hp} (a : Grow av av' H) (e : Ext av H H1) (b : Grow av' av2 H1) : Grow av av2 H := fun x h => by
  rcases b x h with h | h
  · exact a x h
  · by_cases hx : av x
    · exact .inl hx
    · cases q : H x with
      | none => exact .inr rfl
      | some o => rw [e x o hx q] at h; cases h
theorem LK.mono (e : Ext av H H') (g : Grow av av' H) (h : LK K av H a xs) : LK K av' H' a xs :=
  .inl ⟨.inl (e a _ h.get.2 h.get.1), fun z => (g a z).elim h.get.2 fun q => by rw [h.get.1] at q; cases q⟩
theorem SK.mono (e : Ext av H H') (g : Grow av av' H) (h : SK K av H a xs) : SK K av' H' a xs := h.imp (fun ⟨⟨o, q⟩, n⟩ => ⟨⟨o, e a _ n q⟩, fun z => (g a z).elim n fun y => by rw [q] at y; cases y⟩) id
theorem TK.mono (e : Ext av H H') (g : Grow av av' H) (h : TK K av H a xs) : TK K av' H' a xs := h.imp (fun ⟨⟨o, q, d⟩, n⟩ => ⟨⟨o, e a _ n q, d⟩, fun z => (g a z).elim n fun y => by rw [q] at y; cases y⟩) id
end
/-- what H says of a kept error: its one object -/
def kepO (a : Addr) (oe : Obj) : HO := .ext fun h => h.get? a = some oe
/-- a kept error of the own class named c, without a dict -/
def isiTs : List String := ["int", "bool", "tuple", "str", "list"]
/-- what the own class at D must say, so that isinstance asks its errors rightly -/
structure ExcK (K : PySem.W.Frag) (D : Addr) : Prop where
  c : ExcC K D
  no : ∀ T ∈ isiTs, PySem.W.kitOne K (.ref D) (.type T) = some false
def ExcAt (K : PySem.W.Frag) (H : Hp) (a : Addr) (c : Str) : Prop := ∃ (oe : Obj) (D : Addr), H a = some (kepO a oe) ∧ PySem.W.nsIn K mainGlobals c = some (some (.ref D)) ∧ L2N.Zn (.ref D) none oe ∧ (∃ vs, oe.data = .fields vs) ∧ ExcK K D
/-- an error of the own class named c that keeps a number -/
def ExfAt (K : PySem.W.Frag) (H : Hp) (a : Addr) (c f : Str) (i : Int) (dd : Addr) : Prop := ∃ (oe : Obj) (D : Addr), H a = some (kepO a oe) ∧ PySem.W.nsIn K mainGlobals c = some (some (.ref D)) ∧ L2N.Zn (.ref D) (some dd) oe ∧ (∃ vs, oe.data = .fields vs) ∧ ExcK K D ∧ H dd = some (.xd [(f, .int i)])
mutual
/-- a nested key's data -/
def nkD : NestedKey → PyData
  | .none => .none
  | .num i => .int i
  | .text x => .str x
  | .tup ks => .tuple (nkDs ks)
def nkDs : List NestedKey → List PyData
  | [] => []
  | k :: ks => nkD k :: nkDs ks
end
/-- what H says of a dict whose keys are tuples: its one object -/
def dtO (w : World) (a : Addr) (ks : List (NestedKey × Addr × V)) : HO := .ext fun h => (a == sysModules) = false ∧ ks.length ≤ sizeLine ∧ ∃ (xs : List (NestedKey × Addr × Value)) (o : Obj) (es : Array DictEntry) (ep : Nat),
  Paired (fun (p : NestedKey × Addr × V) (q : NestedKey × Addr × Value) => p.1 = q.1 ∧ p.2.1 = q.2.1 ∧ RelV p.2.2 q.2.2) ks xs ∧ h.get? a = some o ∧ o.ExactDict ∧ o.data = .dict es ep ∧ (∀ prog : Program, es.toList = xs.map (entryOfKey (nestedKind prog w))) ∧ (xs.map (·.1)).Nodup
mutual
/-- the value v stands for the data d; its lists and tuples are owned by nobody -/
inductive RD (K : PySem.W.Frag) (av : Av) (H : Hp) : V → PyData → Prop
  | non : RD K av H .non .none
  | bl (b : Bool) : RD K av H (.bl b) (.bool b)
  | int (i : Int) : RD K av H (.int i) (.int i)
  | str (x : Str) : RD K av H (.str x) (.str x)
  | lst {a : Addr} {xs : List V} {ds : List PyData} : LK K av H a xs → RDs K av H xs ds → RD K av H (.ref a) (.list ds)
  | tup {a : Addr} {xs : List V} {ds : List PyData} : TK K av H a xs → RDs K av H xs ds → RD K av H (.ref a) (.tuple ds)
  | dic {a : Addr} : H a = some (.dK []) → ¬ av a → RD K av H (.ref a) (.dict [])
  | exc {a : Addr} {c : Str} : ExcAt K H a c → ¬ av a → RD K av H (.ref a) (.dict [(.none, .str c)])
  | exf {a dd : Addr} {c f : Str} {i : Int} : ExfAt K H a c f i dd → ¬ av a → ¬ av dd → RD K av H (.ref a) (.dict [(.none, .str c), (.str f, .int i)])
  | scr {a : Addr} {ns : List Int} : SK K av H a (ns.map V.int) → RD K av H (.ref a) (scrD ns)
  /-- a dict whose keys are tuples, never empty -/
  | dct {a : Addr} {o : Obj} {ks : List (NestedKey × Addr × V)} {t0 : List PyData} {d0 : PyData} {kvs : List (PyData × PyData)} : H a = some (.frz o (dtO av.w a ks)) → ¬ av a → ks.map (fun p => nkD p.1) = ((.tuple t0, d0) :: kvs).map Prod.fst → (∀ p ∈ ks, ∃ l, p.1 = .tup l ∧ p.1.depth ≤ 8) → RDs K av H (ks.map fun p => .ref p.2.1) (((.tuple t0, d0) :: kvs).map Prod.fst) → RDs K av H (ks.map (·.2.2)) (((.tuple t0, d0) :: kvs).map Prod.snd) → RD K av H (.ref a) (.dict ((.tuple t0, d0) :: kvs))
inductive RDs (K : PySem.W.Frag) (av : Av) (H : Hp) : List V → List PyData → Prop
  | nil : RDs K av H [] []
  | cons {v : V} {vs : List V} {d : PyData} {ds : List PyData} : RD K av H v d → RDs K av H vs ds → RDs K av H (v :: vs) (d :: ds)
end
/-- the dict of a kept error, if it has one -/
def keptD (H : Hp) (dx : Option Addr) : Prop := ∀ dd, dx = some dd → ∃ fs, H dd = some (.xd fs)
theorem keptD0 {H : Hp} : keptD H none := fun _ z => by cases z
def ExcAny (K : PySem.W.Frag) (H : Hp) (a : Addr) (c : Str) : Prop := ∃ (oe : Obj) (D : Addr) (dx : Option Addr), H a = some (kepO a oe) ∧ PySem.W.nsIn K mainGlobals c = some (some (.ref D)) ∧ L2N.Zn (.ref D) dx oe ∧ keptD H dx ∧ (∃ vs, oe.data = .fields vs) ∧ ExcK K D
theorem rd_exc {K : PySem.W.Frag} {av : Av} {H : Hp} {v : V} {c : Str} {fs : List (PyData × PyData)} (h : RD K av H v (.dict ((.none, .str c) :: fs))) : ∃ a, v = .ref a ∧ ExcAny K H a c := by
  cases h with
  | exc x h2 =>
    obtain ⟨oe, D, g1, g2, g3, g4, g5⟩ := x
    exact ⟨_, rfl, oe, D, none, g1, g2, g3, keptD0, g4, g5⟩
  | exf x h2 h3 =>
    obtain ⟨oe, D, g1, g2, g3, g4, g5, g6⟩ := x
    exact ⟨_, rfl, oe, D, _, g1, g2, g3, fun dd z => by cases z; exact ⟨_, g6⟩, g4, g5⟩
section
variable {K : PySem.W.Frag} {av av' : Av} {H H' : Hp}
mutual
theorem RD.mono1 (e : Ext av H H') (g : Grow av av' H) (hw : av'.w = av.w) : ∀ {v : V} {d : PyData}, RD K av H v d → RD K av' H' v d
  | _, _, .non => .non
  | _, _, .bl b => .bl b
  | _, _, .int i => .int i
  | _, _, .str x => .str x
  | _, _, .lst h1 h2 => .lst (h1.mono e g) (RDs.mono1 e g hw h2)
  | _, _, .tup h1 h2 => .tup (h1.mono e g) (RDs.mono1 e g hw h2)
  | _, _, .dic h1 h2 => .dic (e _ _ h2 h1) fun z => (g _ z).elim h2 fun q => by rw [h1] at q; cases q
  | _, _, .exc ⟨oe, D, a1, a2⟩ h2 => .exc ⟨oe, D, e _ _ h2 a1, a2⟩ fun z => (g _ z).elim h2 fun q => by rw [a1] at q; cases q
  | _, _, .exf ⟨oe, D, a1, a2, a3, a4, a5, a6⟩ h2 h3 => .exf ⟨oe, D, e _ _ h2 a1, a2, a3, a4, a5, e _ _ h3 a6⟩ (fun z => (g _ z).elim h2 fun q => by rw [a1] at q; cases q) fun z => (g _ z).elim h3 fun q => by rw [a6] at q; cases q
  | _, _, .scr h1 => .scr (h1.mono e g)
  | _, _, .dct h1 h2 h4 h5 h6 h7 => .dct (by rw [hw]; exact e _ _ h2 h1) (fun z => (g _ z).elim h2 fun q => by rw [h1] at q; cases q) h4 h5 (RDs.mono1 e g hw h6) (RDs.mono1 e g hw h7)
theorem RDs.mono1 (e : Ext av H H') (g : Grow av av' H) (hw : av'.w = av.w) : ∀ {vs : List V} {ds : List PyData}, RDs K av H vs ds → RDs K av' H' vs ds
  | _, _, .nil => .nil
  | _, _, .cons h1 h2 => .cons (RD.mono1 e g hw h1) (RDs.mono1 e g hw h2)
end
theorem RD.mono0 (e : Ext av H H') (g : Grow av av' H) (hw : av'.w = av.w) (d : PyData) (v : V) (h : RD K av H v d) : RD K av' H' v d := RD.mono1 e g hw h
theorem RDs.mono0 (e : Ext av H H') (g : Grow av av' H) (hw : av'.w = av.w) (ds : List PyData) (vs : List V) (h : RDs K av H vs ds) : RDs K av' H' vs ds := RDs.mono1 e g hw h
theorem RD.mono (e : Ext av H H') (g : Grow av av' H) (d : PyData) (v : V) (h : RD K av H v d) (hw : av'.w = av.w := by first | rfl | assumption) : RD K av' H' v d := RD.mono0 e g hw d v h
theorem RDs.mono (e : Ext av H H') (g : Grow av av' H) (ds : List PyData) (vs : List V) (h : RDs K av H vs ds) (hw : av'.w = av.w := by first | rfl | assumption) : RDs K av' H' vs ds := RDs.mono0 e g hw ds vs h
mutual
theorem RD.dp : ∀ (d : PyData) (v : V), RD K av H v d → d ≠ .dict [] → PyData.hasDict d = false → Dp K H v d
  | .none, _, h, _, _ => by cases h; exact .non
  | .bool b, _, h, _, _ => by cases h; exact .bl b
  | .int i, _, h, _, _ => by cases h; exact .int i
  | .str x, _, h, _, _ => by cases h; exact .str x
  | .list ds, _, h, _, hd => by
    cases h with
    | lst h1 h2 => exact .lst h1.sq (RDs.dp ds _ h2 (by simpa [PyData.hasDict] using hd))
  | .tuple ds, _, h, _, hd => by
    cases h with
    | tup h1 h2 => exact .tup h1.sq (RDs.dp ds _ h2 (by simpa [PyData.hasDict] using hd))
  | .dict kvs, _, h, n, hd => by
    cases h with
    | dic h1 h2 => exact absurd rfl n
    | exc h1 h2 => exact absurd hd (by simp [PyData.hasDict])
    | exf h1 h2 h3 => exact absurd hd (by simp [PyData.hasDict])
    | scr h1 => exact absurd hd (by simp [PyData.hasDict])
    | dct h1 h2 h4 h5 h6 h7 => exact absurd hd (by simp [PyData.hasDict])
theorem RDs.dp : ∀ (ds : List PyData) (vs : List V), RDs K av H vs ds → PyData.hasDictAll ds = false → DpAll K H vs ds
  | [], _, h, _ => by cases h; exact .nil
  | d :: ds, _, h, hd => by
    cases h with
    | cons h1 h2 =>
      have hd' : d.hasDict = false ∧ PyData.hasDictAll ds = false := by simpa [PyData.hasDictAll] using hd
      exact .cons (RD.dp d _ h1 (fun z => by rw [z] at hd'; simp [PyData.hasDict] at hd') hd'.1) (RDs.dp ds _ h2 hd'.2)
end
theorem RDs.len : ∀ {vs : List V} {ds : List PyData}, RDs K av H vs ds → vs.length = ds.length
  | _, _, .nil => rfl
  | _, _, .cons _ h => congrArg (· + 1) h.len
theorem RDs.get : ∀ {vs : List V} {ds : List PyData} {i : Nat} {d : PyData}, RDs K av H vs ds → ds[i]? = some d → ∃ v, vs[i]? = some v ∧ RD K av H v d
  | _, _, _, _, .nil, e => by simp at e
  | _, _, 0, _, .cons h _, e => by simp at e; subst e; exact ⟨_, rfl, h⟩
  | _, _, i + 1, _, .cons _ h, e => by
    obtain ⟨v, h1, h2⟩ := RDs.get (i := i) h (by simpa using e)
    exact ⟨v, by simpa using h1, h2⟩
theorem RDs.append : ∀ {vs ws : List V} {ds es : List PyData}, RDs K av H vs ds → RDs K av H ws es → RDs K av H (vs ++ ws) (ds ++ es)
  | _, _, _, _, .nil, s => s
  | _, _, _, _, .cons r t, s => .cons r (RDs.append t s)
theorem RDs.take : ∀ {vs : List V} {ds : List PyData} (n : Nat), RDs K av H vs ds → RDs K av H (vs.take n) (ds.take n)
  | _, _, 0, _ => .nil
  | _, _, _ + 1, .nil => .nil
  | _, _, n + 1, .cons r t => .cons r (RDs.take n t)
theorem RDs.drop : ∀ {vs : List V} {ds : List PyData} (n : Nat), RDs K av H vs ds → RDs K av H (vs.drop n) (ds.drop n)
  | _, _, 0, r => r
  | _, _, _ + 1, .nil => .nil
  | _, _, n + 1, .cons _ t => RDs.drop n t
theorem RDs.set {x : V} {d : PyData} (r : RD K av H x d) : ∀ {vs : List V} {ds : List PyData} (i : Nat), RDs K av H vs ds → RDs K av H (vs.set i x) (ds.set i d)
  | _, _, _, .nil => .nil
  | _, _, 0, .cons _ t => .cons r t
  | _, _, i + 1, .cons q t => .cons q (RDs.set r i t)
theorem RDs.erase : ∀ {vs : List V} {ds : List PyData} (i : Nat), RDs K av H vs ds → RDs K av H (vs.eraseIdx i) (ds.eraseIdx i)
  | _, _, _, .nil => .nil
  | _, _, 0, .cons _ t => t
  | _, _, i + 1, .cons q t => .cons q (RDs.erase i t)
theorem RDs.reverse : ∀ {vs : List V} {ds : List PyData}, RDs K av H vs ds → RDs K av H vs.reverse ds.reverse
  | _, _, .nil => .nil
  | _, _, .cons q t => by rw [List.reverse_cons, List.reverse_cons]; exact t.reverse.append (.cons q .nil)
theorem RDs.bls : ∀ {vs : List V} {ns : List Bool}, RDs K av H vs (ns.map PyData.bool) → vs = ns.map V.bl
  | _, [], h => by cases h; rfl
  | _, n :: ns, h => by
    cases h with
    | cons h1 h2 => cases h1; rw [List.map_cons, h2.bls]
theorem RDs.mkInts : ∀ ns : List Int, RDs K av H (ns.map V.int) (ns.map PyData.int)
  | [] => .nil
  | n :: ns => .cons (.int n) (RDs.mkInts ns)
end
/-- what one slot alone knows: a list of lists, a dict -/
inductive Nst where
  | ls (dss : List (List PyData))
  | dc (kvs : List (Key × PyData))
  | dt (kvs : List (NestedKey × PyData))
inductive Sl where
  | nil
  | val (d : PyData)
  /-- a list that this slot alone knows -/
  | own (ds : List PyData)
  /-- a list that the caller handed in, to be changed -/
  | io (ds : List PyData)
  /-- a list of lists, a dict that this slot alone knows -/
  | nst (x : Nst)
  /-- a tuple of a value and of a list that nobody else knows: only returned -/
  | pair (d : PyData) (ds : List PyData)
abbrev En := List Sl
abbrev Ow := Nat → Option Addr
structure Cn where
  A0 : Addr → Prop
  H0 : Hp
  io : Ow
  w : World
def av (C : Cn) (ow : Ow) : Av := ⟨fun a => C.A0 a ∨ ∃ i, ow i = some a, C.w⟩
/-- a frame in the same world -/
abbrev CnW (C : Cn) := {C' : Cn // C'.w = C.w}
def own? : Option Sl → Option (List PyData)
  | some (.own ds) => some ds
  | some (.io ds) => some ds
  | _ => none
/-- the inner lists of slot i are owned by these indices -/
def nx (i k : Nat) : Nat := (k + 1) * 4096 + i
def NstAt (S : En) (j : Nat) : Prop := (∃ dss, S[j]? = some (Sl.nst dss)) ∨ ∃ (i k : Nat) (dss : List (List PyData)), j = nx i k ∧ S[i]? = some (Sl.nst (.ls dss)) ∧ k < dss.length
/-- a key's data -/
def kD (k : Key) : PyData := match k with
  | .inl i => .int i
  | .inr s => .str s
/-- what a dict holds -/
structure DkR (K : PySem.W.Frag) (av : Av) (H : Hp) (ks : List (Key × V)) (kvs : List (Key × PyData)) : Prop where
  key : ks.map (·.1) = kvs.map (·.1)
  val : RDs K av H (ks.map (·.2)) (kvs.map (·.2))
structure DtR (K : PySem.W.Frag) (av : Av) (H : Hp) (ks : List (NestedKey × Addr × V)) (kvs : List (NestedKey × PyData)) : Prop where
  key : ks.map (·.1) = kvs.map (·.1)
  tup : RDs K av H (ks.map fun p => .ref p.2.1) (kvs.map fun p => nkD p.1)
  isT : ∀ p ∈ ks, ∃ l, p.1 = .tup l ∧ p.1.depth ≤ 8
  val : RDs K av H (ks.map (·.2.2)) (kvs.map (·.2))
structure Ns (K : PySem.W.Frag) (C : Cn) (ow : Ow) (S : En) (σ : St) (H : Hp) : Prop where
  big : S.length ≤ 4096
  nst : ∀ (i : Nat) dss, S[i]? = some (Sl.nst (.ls dss)) → ∃ (a : Addr) (bs : List Addr), ow i = some a ∧ σ[i]? = some (some (.ref a)) ∧ H a = some (.lst (bs.map V.ref)) ∧ bs.length = dss.length ∧ ∀ (k : Nat) b ds, bs[k]? = some b → dss[k]? = some ds → ow (nx i k) = some b ∧ ∃ ws, H b = some (.lst ws) ∧ RDs K (av C ow) H ws ds
  dct : ∀ (i : Nat) kvs, S[i]? = some (Sl.nst (.dc kvs)) → ∃ (a : Addr) (ks : List (Key × V)), ow i = some a ∧ σ[i]? = some (some (.ref a)) ∧ H a = some (.dK ks) ∧ DkR K (av C ow) H ks kvs
  dtt : ∀ (i : Nat) kvs, S[i]? = some (Sl.nst (.dt kvs)) → ∃ (a : Addr) (ks : List (NestedKey × Addr × V)), ow i = some a ∧ σ[i]? = some (some (.ref a)) ∧ H a = some (dtO C.w a ks) ∧ DtR K (av C ow) H ks kvs
  frn : ∀ i a, NstAt S i → ow i = some a → C.H0 a = none ∧ ¬ C.A0 a
theorem DtR.mono {K : PySem.W.Frag} {av av' : Av} {H H' : Hp} {ks : List (NestedKey × Addr × V)} {kvs : List (NestedKey × PyData)} (h : DtR K av H ks kvs) (f : ∀ ws ds, RDs K av H ws ds → RDs K av' H' ws ds) : DtR K av' H' ks kvs := ⟨h.key, f _ _ h.tup, h.isT, f _ _ h.val⟩
def nn (o : Option Sl) : Bool := match o with
  | some (Sl.nst _) => false
  | _ => true
section
variable {K : PySem.W.Frag} {C C' : Cn} {ow ow' : Ow} {S S' : En} {σ σ' : St} {H H' : Hp}
theorem NstAt.of {j : Nat} (h : NstAt S j) (hS : ∀ (i : Nat) (dss : Nst), S[i]? = some (Sl.nst dss) → S'[i]? = some (Sl.nst dss)) : NstAt S' j := by
  rcases h with ⟨d, h⟩ | ⟨i, k, d, e, h, l⟩
  · exact .inl ⟨d, hS j d h⟩
  · exact .inr ⟨i, k, d, e, hS i _ h, l⟩
theorem NstAt.ne {i j : Nat} (h : NstAt S j) (hi : nn S[i]? = true) (hl : i < 4096) : j ≠ i := by
  rcases h with ⟨d, h⟩ | ⟨m, k, d, e, h, l⟩
  · exact fun z => by rw [← z, h] at hi; cases hi
  · unfold nx at e
    have : 4096 ≤ (k + 1) * 4096 := Nat.le_mul_of_pos_left _ (Nat.succ_pos k)
    omega
theorem nst_set {i j : Nat} {x : Sl} {dss : Nst} (h0 : nn S[i]? = true) (hx : nn (some x) = true) : (S.set i x)[j]? = some (Sl.nst dss) ↔ S[j]? = some (Sl.nst dss) := by
  by_cases e : i = j
  · subst e
    by_cases hl : i < S.length
    · rw [List.getElem?_set_self hl]
      constructor
      · intro z; cases z; cases hx
      · intro z; rw [z] at h0; cases h0
    · rw [List.getElem?_eq_none (by rw [List.length_set]; omega), List.getElem?_eq_none (by omega)]
  · rw [List.getElem?_set_ne e]
theorem Ns.move (n : Ns K C ow S σ H) (hl : S'.length ≤ 4096) (hS : ∀ (j : Nat) (dss : Nst), S'[j]? = some (Sl.nst dss) → S[j]? = some (Sl.nst dss)) (how : ∀ j, NstAt S j → ow' j = ow j) (hσ : ∀ (j : Nat) (dss : Nst), S[j]? = some (Sl.nst dss) → σ[j]? ≠ none → σ'[j]? = σ[j]?)
    (hH : ∀ j a o, NstAt S j → ow j = some a → H a = some o → H' a = some o) (hrd : ∀ ws ds, RDs K (av C ow) H ws ds → RDs K (av C' ow') H' ws ds) (hf : ∀ j a, NstAt S j → ow j = some a → C.H0 a = none ∧ ¬ C.A0 a → C'.H0 a = none ∧ ¬ C'.A0 a) (hw : C'.w = C.w := by rfl) : Ns K C' ow' S' σ' H' := by
  refine ⟨hl, fun i dss e => ?_, fun i kvs e => ?_, fun i kvs e => ?_, fun i a h e => ?_⟩
  · have e' := hS i _ e
    obtain ⟨a, bs, h1, h2, h3, h4, h5⟩ := n.nst i dss e'
    have hi : NstAt S i := .inl ⟨_, e'⟩
    refine ⟨a, bs, (how i hi).trans h1, (hσ i _ e' (by rw [h2]; simp)).trans h2, hH i a _ hi h1 h3, h4, fun k b ds q1 q2 => ?_⟩
    obtain ⟨g1, ws, g2, g3⟩ := h5 k b ds q1 q2
    have hk : NstAt S (nx i k) := .inr ⟨i, k, dss, rfl, e', (List.getElem?_eq_some_iff.mp q2).1⟩
    exact ⟨(how _ hk).trans g1, ws, hH _ b _ hk g1 g2, hrd ws ds g3⟩
  · have e' := hS i _ e
    obtain ⟨a, ks, h1, h2, h3, h4⟩ := n.dct i kvs e'
    have hi : NstAt S i := .inl ⟨_, e'⟩
    exact ⟨a, ks, (how i hi).trans h1, (hσ i _ e' (by rw [h2]; simp)).trans h2, hH i a _ hi h1 h3, h4.key, hrd _ _ h4.val⟩
  · have e' := hS i _ e
    obtain ⟨a, ks, h1, h2, h3, h4⟩ := n.dtt i kvs e'
    have hi : NstAt S i := .inl ⟨_, e'⟩
    exact ⟨a, ks, (how i hi).trans h1, (hσ i _ e' (by rw [h2]; simp)).trans h2, by rw [hw]; exact hH i a _ hi h1 h3, h4.key, hrd _ _ h4.tup, h4.isT, hrd _ _ h4.val⟩
  · have h' : NstAt S i := h.of hS
    rw [how i h'] at e
    exact hf i a h' e (n.frn i a h' e)
theorem Ns.slot (n : Ns K C ow S σ H) {i : Nat} {x : Nst} (h : S[i]? = some (Sl.nst x)) : ∃ a, ow i = some a ∧ σ[i]? = some (some (.ref a)) := by
  cases x with
  | ls d => obtain ⟨a, _, h1, h2, _⟩ := n.nst i d h; exact ⟨a, h1, h2⟩
  | dc d => obtain ⟨a, _, h1, h2, _⟩ := n.dct i d h; exact ⟨a, h1, h2⟩
  | dt d => obtain ⟨a, _, h1, h2, _⟩ := n.dtt i d h; exact ⟨a, h1, h2⟩
theorem Ns.live (n : Ns K C ow S σ H) {i : Nat} {a : Addr} (h : NstAt S i) (e : ow i = some a) : ∃ o, H a = some o := by
  rcases h with ⟨d, h⟩ | ⟨m, k, d, e2, h, l⟩
  · cases d with
    | ls d =>
      obtain ⟨b, bs, h1, h2, h3, _⟩ := n.nst i d h
      rw [h1] at e; cases e
      exact ⟨_, h3⟩
    | dc d =>
      obtain ⟨b, ks, h1, h2, h3, _⟩ := n.dct i d h
      rw [h1] at e; cases e
      exact ⟨_, h3⟩
    | dt d =>
      obtain ⟨b, ks, h1, h2, h3, _⟩ := n.dtt i d h
      rw [h1] at e; cases e
      exact ⟨_, h3⟩
  · obtain ⟨b, bs, h1, h2, h3, h4, h5⟩ := n.nst m d h
    have l' : k < bs.length := by omega
    obtain ⟨g1, ws, g2, _⟩ := h5 k _ _ (List.getElem?_eq_getElem l') (List.getElem?_eq_getElem l)
    rw [← e2, e] at g1; cases g1
    exact ⟨_, g2⟩
end
structure Rl (K : PySem.W.Frag) (C : Cn) (ow : Ow) (S : En) (σ : St) (H : Hp) : Prop where
  len : S.length = σ.length
  val : ∀ (i : Nat) d, S[i]? = some (.val d) → ∃ v, σ[i]? = some (some v) ∧ RD K (av C ow) H v d
  own : ∀ (i : Nat) ds, own? S[i]? = some ds → ∃ a vs, ow i = some a ∧ σ[i]? = some (some (.ref a)) ∧ H a = some (.lst vs) ∧ RDs K (av C ow) H vs ds
  ows : ∀ i a, ow i = some a → (∃ ds, own? S[i]? = some ds) ∨ NstAt S i
  inj : ∀ i j a, ow i = some a → ow j = some a → i = j
  frs : ∀ (i : Nat) ds a, S[i]? = some (.own ds) → ow i = some a → C.H0 a = none ∧ ¬ C.A0 a
  ios : ∀ (i : Nat) ds, S[i]? = some (.io ds) → C.io i = ow i
  iok : ∀ i a, C.io i = some a → C.A0 a ∧ ∃ ds, S[i]? = some (.io ds)
  trk : ∀ a, C.A0 a → ∃ o, H a = some o
  ext : ∀ a o, C.H0 a = some o → (∀ i, C.io i ≠ some a) → H a = some o
  ns : Ns K C ow S σ H
section
variable {K : PySem.W.Frag} {C : Cn} {ow : Ow} {S : En} {σ : St} {H H' : Hp}
theorem Rl.tracked (r : Rl K C ow S σ H) : ∀ a, av C ow a → ∃ o, H a = some o := fun a h => by
  rcases h with h | ⟨i, h⟩
  · exact r.trk a h
  · rcases r.ows i a h with ⟨ds, e⟩ | e
    · obtain ⟨b, vs, e1, _, e2, _⟩ := r.own i ds e
      rw [h] at e1; cases e1
      exact ⟨_, e2⟩
    · obtain ⟨vs, e2⟩ := r.ns.live e h
      exact ⟨_, e2⟩
/-- an exception's dict is owned by no slot -/
theorem Rl.xd (r : Rl K C ow S σ H) {dd : Addr} {fs : List (Str × V)} (h : H dd = some (.xd fs)) (n : ¬ C.A0 dd) : ¬ av C ow dd := fun z => by
  rcases z with z | ⟨i, z⟩
  · exact n z
  · rcases r.ows i dd z with ⟨ds, e⟩ | e
    · obtain ⟨b, vs, e1, _, e2, _⟩ := r.own i ds e
      rw [z] at e1; cases e1
      rw [h] at e2; cases e2
    · rcases e with ⟨d, e⟩ | ⟨m, k, d, e2, e, l⟩
      · cases d with
        | ls d =>
          obtain ⟨b, bs, h1, h2, h3, _⟩ := r.ns.nst i d e
          rw [h1] at z; cases z
          rw [h] at h3; cases h3
        | dc d =>
          obtain ⟨b, ks, h1, h2, h3, _⟩ := r.ns.dct i d e
          rw [h1] at z; cases z
          rw [h] at h3; cases h3
        | dt d =>
          obtain ⟨b, ks, h1, h2, h3, _⟩ := r.ns.dtt i d e
          rw [h1] at z; cases z
          rw [h] at h3
          have h4 : HO.xd fs = HO.ext _ := Option.some.inj h3
          cases h4
      · obtain ⟨b, bs, h1, h2, h3, h4, h5⟩ := r.ns.nst m d e
        have l' : k < bs.length := by omega
        obtain ⟨g1, ws, g2, _⟩ := h5 k _ _ (List.getElem?_eq_getElem l') (List.getElem?_eq_getElem l)
        rw [← e2, z] at g1; cases g1
        rw [h] at g2; cases g2
theorem Rl.fresh (r : Rl K C ow S σ H) {p : Addr} (h : H p = none) : ¬ av C ow p := fun z => by
  obtain ⟨o, e⟩ := r.tracked p z
  rw [h] at e; cases e
/-- all that was tracked stays -/
theorem Rl.same (r : Rl K C ow S σ H) (h : Same H H') : Rl K C ow S σ H' where
  len := r.len
  val := fun i d e => let ⟨v, e1, e2⟩ := r.val i d e; ⟨v, e1, RD.mono (Ext.same h) (Grow.refl _ _) d v e2⟩
  own := fun i ds e => let ⟨a, vs, e1, e2, e3, e4⟩ := r.own i ds e; ⟨a, vs, e1, e2, h a _ e3, RDs.mono (Ext.same h) (Grow.refl _ _) ds vs e4⟩
  ows := r.ows
  inj := r.inj
  frs := r.frs
  ios := r.ios
  iok := r.iok
  trk := fun a z => let ⟨o, e⟩ := r.trk a z; ⟨o, h a o e⟩
  ext := fun a o e z => h a o (r.ext a o e z)
  ns := r.ns.move r.ns.big (fun _ _ e => e) (fun _ _ => rfl) (fun _ _ _ _ => rfl) (fun _ a o _ _ e => h a o e) (fun ws ds q => RDs.mono (Ext.same h) (Grow.refl _ _) ds ws q) (fun _ _ _ _ z => z)
end
/-- an error: its class's name, the number that it keeps -/
structure Ec where
  n : Str
  f : Option (Str × Int)
instance : Coe Str Ec := ⟨fun c => ⟨c, none⟩⟩
/-- its dict -/
def ExD (A0 : Addr → Prop) (H : Hp) (c : Ec) (d : Option Addr) : Prop := match c.f with
  | none => d = none
  | some (f, i) => ∃ dd, d = some dd ∧ H dd = some (.xd [(f, .int i)]) ∧ ¬ A0 dd
theorem ExD.less {A A' : Addr → Prop} {H : Hp} {c : Ec} {d : Option Addr} (h : ExD A H c d) (l : ∀ a, A' a → A a) : ExD A' H c d := by
  obtain ⟨n, f⟩ := c
  cases f with
  | none => exact h
  | some p =>
    obtain ⟨dd, h1, h2, h3⟩ := h
    exact ⟨dd, h1, h2, fun z => h3 (l dd z)⟩
inductive R (α : Type) where
  | ok (a : α) (S : En)
  | ex (c : Ec) (S : En)
  | no
abbrev SE := En → R PyData
abbrev SN := En → R (List PyData)
abbrev STt := En → R Bool
def R.bind {α β : Type} (x : R α) (f : α → En → R β) : R β := match x with
  | .ok a S => f a S
  | .ex c S => .ex c S
  | .no => .no
@[simp] theorem bind_ok {α β : Type} (a : α) (S : En) (f : α → En → R β) : (R.ok a S).bind f = f a S := rfl
@[simp] theorem bind_ex {α β : Type} (c : Ec) (S : En) (f : α → En → R β) : (R.ex c S : R α).bind f = .ex c S := rfl
@[simp] theorem bind_no {α β : Type} (f : α → En → R β) : (R.no : R α).bind f = .no := rfl
def clOf (mg : Str → Option Value) (c : Str) : Value := (mg c).getD .none
/-- the reading of a computed thing: wish W of exceptions -/
abbrev Rel (β α : Type) := Cn → Ow → St → En → Hp → Hp → β → α → Prop
def xG {α β : Type} (K : PySem.W.Frag) (mg : Str → Option Value) (W : WX) (C : Cn) (rel : Rel β α) (s : En → R α) : St → Hp → (β → Hp → Prop) → Prop := fun σ H Q =>
  ∃ ow S, Rl K C ow S σ H ∧ match s S with
    | .ok d S' => ∀ v H', Rl K C ow S' σ H' → Ext (av C ow) H H' → rel C ow σ S' H H' v d → Q v H'
    | .ex c S' => ∀ H', Rl K C ow S' σ H' → Ext (av C ow) H H' → ∀ d, ExD C.A0 H' c d → W (clOf mg c.n) d σ H'
    | .no => False
abbrev relE (K : PySem.W.Frag) : Rel V PyData := fun C ow _ _ _ H' v d => RD K (av C ow) H' v d
/-- a new list: all the rest stands without it -/
abbrev relN (K : PySem.W.Frag) : Rel V (List PyData) := fun C ow σ S' H H' v ds => ∃ a vs Hm, v = .ref a ∧ Hm a = none ∧ H' = upd Hm a (.lst vs) ∧ Ext (av C ow) H Hm ∧ Rl K C ow S' σ Hm ∧ RDs K (av C ow) Hm vs ds
/-- some list, for a reader -/
abbrev relL (K : PySem.W.Frag) : Rel V (List PyData) := fun C ow _ _ _ H' v ds => ∃ a vs, v = .ref a ∧ SqL K H' a vs ∧ RDs K (av C ow) H' vs ds
abbrev relB : Rel Bool Bool := fun _ _ _ _ _ _ b c => b = c
abbrev relA (K : PySem.W.Frag) : Rel (List V) (List PyData) := fun C ow _ _ _ H' vs ds => RDs K (av C ow) H' vs ds
abbrev xE (K : PySem.W.Frag) (mg : Str → Option Value) (W : WX) (C : Cn) (s : SE) : TE := xG K mg W C (relE K) s
abbrev xN (K : PySem.W.Frag) (mg : Str → Option Value) (W : WX) (C : Cn) (s : SN) : TE := xG K mg W C (relN K) s
abbrev xL (K : PySem.W.Frag) (mg : Str → Option Value) (W : WX) (C : Cn) (s : SN) : TE := xG K mg W C (relL K) s
abbrev xB (K : PySem.W.Frag) (mg : Str → Option Value) (W : WX) (C : Cn) (s : STt) : TT := xG K mg W C relB s
abbrev xA (K : PySem.W.Frag) (mg : Str → Option Value) (W : WX) (C : Cn) (s : SN) : TA := xG K mg W C (relA K) s
end Ds
end
section
set_option Elab.async false
set_option linter.all false
set_option maxRecDepth 100000
set_option maxHeartbeats 4000000
namespace Ds
open PySem PySem.Spec PyProof.Rows L2
def R.opt {α : Type} (o : Option α) (S : En) : R α := match o with
  | some a => .ok a S
  | none => .no
@[simp] theorem opt_some {α : Type} (a : α) (S : En) : R.opt (some a) S = .ok a S := rfl
@[simp] theorem opt_none {α : Type} (S : En) : (R.opt none S : R α) = .no := rfl
/-- what is left to be shown of a computed thing -/
def pst {α β : Type} (K : PySem.W.Frag) (mg : Str → Option Value) (W : WX) (C : Cn) (rel : Rel β α) (ow : Ow) (σ : St) (H : Hp) (Q : β → Hp → Prop) (r : R α) : Prop := match r with
    | .ok d S' => ∀ v H', Rl K C ow S' σ H' → Ext (av C ow) H H' → rel C ow σ S' H H' v d → Q v H'
    | .ex c S' => ∀ H', Rl K C ow S' σ H' → Ext (av C ow) H H' → ∀ d, ExD C.A0 H' c d → W (clOf mg c.n) d σ H'
    | .no => False
section
variable {K : PySem.W.Frag} {mg : Str → Option Value} {W : WX} {C : Cn} {ow : Ow} {σ : St} {H H' : Hp} {α β γ δ : Type}
/-- the relation does not mind an earlier beginning -/
def Early (K : PySem.W.Frag) (rel : Rel β α) : Prop := ∀ (C : Cn) (ow : Ow) (S S' : En) (σ : St) (T : En) (H H' H2 : Hp) v d, Rl K C ow S σ H → Rl K C ow S' σ H' → Ext (av C ow) H H' → rel C ow σ T H' H2 v d → rel C ow σ T H H2 v d
theorem early_E : Early K (relE K) := fun _ _ _ _ _ _ _ _ _ _ _ _ _ _ h => h
theorem early_A : Early K (relA K) := fun _ _ _ _ _ _ _ _ _ _ _ _ _ _ h => h
theorem early_B : Early K (relB) := fun _ _ _ _ _ _ _ _ _ _ _ _ _ _ h => h
theorem early_N : Early K (relN K) := fun _ _ _ _ _ _ _ _ _ _ _ r r' e ⟨a, vs, Hm, h1, h2, h3, h4, h5, h6⟩ => ⟨a, vs, Hm, h1, h2, h3, e.trans (Grow.refl _ _) h4, h5, h6⟩
theorem pst_from {rel : Rel β α} (er : Early K rel) {Q : β → Hp → Prop} {S S' : En} {r : R α} (r1 : Rl K C ow S σ H) (r2 : Rl K C ow S' σ H') (e : Ext (av C ow) H H') (h : pst K mg W C rel ow σ H Q r) : pst K mg W C rel ow σ H' Q r := by
  cases r with
  | ok d T => exact fun v H2 q1 q2 q3 => h v H2 q1 (e.trans (Grow.refl _ _) q2) (er C ow S S' σ T H H' H2 v d r1 r2 e q3)
  | ex c T => exact fun H2 q1 q2 => h H2 q1 (e.trans (Grow.refl _ _) q2)
  | no => exact h
theorem pst_imp {rel : Rel β α} {Q Q' : β → Hp → Prop} {r : R α} (h : pst K mg W C rel ow σ H Q r) (f : ∀ v H', Q v H' → Q' v H') : pst K mg W C rel ow σ H Q' r := by
  cases r with
  | ok d T => exact fun v H2 q1 q2 q3 => f _ _ (h v H2 q1 q2 q3)
  | ex c T => exact h
  | no => exact h
/-- one thing, then another -/
theorem seq {rel : Rel β α} {rel3 : Rel δ γ} (er : Early K rel3) {s : En → R α} {k : α → En → R γ} {Q : δ → Hp → Prop} {P : β → Hp → Prop} {S : En} (r : Rl K C ow S σ H)
    (h : pst K mg W C rel3 ow σ H Q ((s S).bind k)) (f : ∀ S' d v H', Rl K C ow S' σ H' → Ext (av C ow) H H' → rel C ow σ S' H H' v d → pst K mg W C rel3 ow σ H' Q (k d S') → P v H') : xG K mg W C rel s σ H P := by
  refine ⟨ow, S, r, ?_⟩
  show pst K mg W C rel ow σ H P (s S)
  cases e : s S with
  | ok d S' =>
    rw [e] at h
    exact fun v H' r' x q => f S' d v H' r' x q (pst_from er r r' x h)
  | ex c S' =>
    rw [e] at h
    exact h
  | no =>
    rw [e] at h
    exact h
/-- the end: nothing more happens -/
theorem pst_ok {rel : Rel β α} {Q : β → Hp → Prop} {d : α} {S : En} {v : β} (r : Rl K C ow S σ H) (h : pst K mg W C rel ow σ H Q (.ok d S)) (q : rel C ow σ S H H v d) : Q v H := h v H r (Ext.refl _ _) q
theorem pst_same {rel : Rel β α} {Q : β → Hp → Prop} {d : α} {S : En} {v : β} (r : Rl K C ow S σ H) (h : pst K mg W C rel ow σ H Q (.ok d S)) (e : Same H H') (q : rel C ow σ S H H' v d) : Q v H' := h v H' (r.same e) (Ext.same e) q
end
theorem same_new {H : Hp} {p : Addr} {o : HO} (h : H p = none) : Same H (upd H p o) := fun b x e => by
  rw [upd_ne (ne_of_none e h)]
  exact e
theorem rds_same {K : PySem.W.Frag} {av : Av} {H H' : Hp} {vs : List V} {ds : List PyData} (h : RDs K av H vs ds) (s : Same H H') : RDs K av H' vs ds := RDs.mono (Ext.same s) (Grow.refl _ _) ds vs h
theorem rd_same {K : PySem.W.Frag} {av : Av} {H H' : Hp} {vs : V} {ds : PyData} (h : RD K av H vs ds) (s : Same H H') : RD K av H' vs ds := RD.mono (Ext.same s) (Grow.refl _ _) ds vs h
theorem fr_of {av : Av} {H : Hp} (t : ∀ a, av a → ∃ o, H a = some o) {p : Addr} (h : H p = none) : ¬ av p := fun z => by
  obtain ⟨o, e⟩ := t p z
  rw [h] at e; cases e
/-- a new tuple: all that is known of its object -/
def NT (H : Hp) (xs : List V) (Q : VK) : Prop := ∀ (p : Addr) (o : Obj), H p = none → o.dict = none → o.cls = .type "tuple" → Q (.ref p) (upd H p (.frz o (.tup xs)))
theorem rd_newT {K : PySem.W.Frag} {av : Av} {H : Hp} {vs : List V} {ds : List PyData} (t : ∀ a, av a → ∃ o, H a = some o) (h : RDs K av H vs ds) {p : Addr} {o : Obj} (n : H p = none) (d : o.dict = none) (c : o.cls = .type "tuple") : RD K av (upd H p (.frz o (.tup vs))) (.ref p) (.tuple ds) :=
  .tup (.inl ⟨⟨o, upd_same, d, c⟩, fr_of t n⟩) (rds_same h (same_new n))
theorem NT.run {X : Cx} {pins : List (Addr × Obj)} {σ : St} {H : Hp} {s : Shared} {xs : List V} {Q : VK} {its : List Value} {tk : Nat} (I : Inv X pins σ H s) (q : NT H xs Q) (r : Vals xs its) (z : xs.length ≤ sizeLine) :
    ∃ v H', Inv X pins σ H' { s with heap := s.heap.push { cls := .type "tuple", data := .seq its.toArray }, toks := tk } ∧ RelV v (.ref s.heap.objs.size) ∧ Q v H' :=
  ⟨.ref s.heap.objs.size, _, I.laid (t' := tk) (o := .frz { cls := .type "tuple", data := .seq its.toArray } (.tup xs)) (fun b u e => Heap.get?_push_of_some _ e) (Nat.le_refl _) ⟨Heap.get?_push_size _ rfl, z, its, r, IsTup.new _ _⟩, rfl, q _ _ (I.hok.fresh (Nat.le_refl _)) rfl rfl⟩
theorem rd_newL {K : PySem.W.Frag} {av : Av} {H : Hp} {vs : List V} {ds : List PyData} (t : ∀ a, av a → ∃ o, H a = some o) (h : RDs K av H vs ds) {p : Addr} (n : H p = none) : RD K av (upd H p (.lst vs)) (.ref p) (.list ds) :=
  .lst (.inl ⟨.inl upd_same, fr_of t n⟩) (rds_same h (same_new n))
section
variable {X : Cx} {W : WX} {C : Cn}
theorem pe_imp {e : Expr} {t t' : TE} (h : PE X e t) (f : ∀ σ H Q, t' σ H Q → t σ H Q) : PE X e t' := ⟨fun pins s σ H Q I q => h.run pins s σ H Q I (f σ H Q q)⟩
theorem pt_imp {e : Expr} {t t' : TT} (h : PT X e t) (f : ∀ σ H Q, t' σ H Q → t σ H Q) : PT X e t' := ⟨fun pins s σ H Q I q => h.run pins s σ H Q I (f σ H Q q)⟩
theorem pa_imp {e : List Expr} {t t' : TA} (h : PA X e t) (f : ∀ σ H Q, t' σ H Q → t σ H Q) : PA X e t' := ⟨fun pos pins s σ H Q I q => h.run pos pins s σ H Q I (f σ H Q q)⟩
theorem ps_imp {e : Stmt} {t t' : TS} (h : PS X e t) (f : ∀ D σ H, t' D σ H → t D σ H) : PS X e t' := ⟨fun pins s σ H Q I q => h.run pins s σ H Q I (f Q σ H q)⟩
theorem pss_imp {e : List Stmt} {t t' : TS} (h : PSs X e t) (f : ∀ D σ H, t' D σ H → t D σ H) : PSs X e t' := ⟨fun pins s σ H Q I q => h.run pins s σ H Q I (f Q σ H q)⟩
def val? : Option Sl → Option PyData
  | some (.val d) => some d
  | _ => none
theorem val?_some {o : Option Sl} {d : PyData} (h : val? o = some d) : o = some (.val d) := by
  match o, h with
  | some (.val d), h => cases h; rfl
def sVar (i : Nat) : SE := fun S => R.opt (val? S[i]?) S
theorem e_var {i : Nat} {e : Expr} (h : PE X e (tVar i)) : PE X e (xE X.K X.mg W C (sVar i)) := pe_imp h fun σ H Q ⟨ow, S, r, q⟩ => by
  change pst X.K X.mg W C (relE X.K) ow σ H Q (R.opt (val? S[i]?) S) at q
  cases e : val? S[i]? with
  | none =>
    rw [e] at q
    exact q.elim
  | some d =>
    rw [e] at q
    obtain ⟨v, e1, e2⟩ := r.val i d (val?_some e)
    exact ⟨v, e1, pst_ok r q e2⟩
/-- the list in slot i, for a reader -/
def lst? : Option Sl → Option (List PyData)
  | some (.own ds) => some ds
  | some (.io ds) => some ds
  | some (.val (.list ds)) => some ds
  | _ => none
def sLVar (i : Nat) : SN := fun S => R.opt (lst? S[i]?) S
theorem Rl.list {K : PySem.W.Frag} {ow : Ow} {S : En} {σ : St} {H : Hp} (r : Rl K C ow S σ H) {i : Nat} {ds : List PyData} (h : lst? S[i]? = some ds) : ∃ a vs, σ[i]? = some (some (.ref a)) ∧ SqL K H a vs ∧ RDs K (av C ow) H vs ds := by
  cases e : S[i]? with
  | none => rw [e] at h; cases h
  | some x =>
    rw [e] at h
    match x, h with
    | .own es, h =>
      cases h
      obtain ⟨a, vs, _, h1, h2, h3⟩ := r.own i ds (by rw [e]; rfl)
      exact ⟨a, vs, h1, SqL.of h2, h3⟩
    | .io es, h =>
      cases h
      obtain ⟨a, vs, _, h1, h2, h3⟩ := r.own i ds (by rw [e]; rfl)
      exact ⟨a, vs, h1, SqL.of h2, h3⟩
    | .val (.list es), h =>
      cases h
      obtain ⟨v, h1, h2⟩ := r.val i _ e
      cases h2 with
      | lst h2 h3 => exact ⟨_, _, h1, h2.sq, h3⟩
theorem l_var {i : Nat} {e : Expr} (h : PE X e (tVar i)) : PE X e (xL X.K X.mg W C (sLVar i)) := pe_imp h fun σ H Q ⟨ow, S, r, q⟩ => by
  change pst X.K X.mg W C (relL X.K) ow σ H Q (R.opt (lst? S[i]?) S) at q
  cases e : lst? S[i]? with
  | none =>
    rw [e] at q
    exact q.elim
  | some ds =>
    rw [e] at q
    obtain ⟨a, vs, h1, h2, h3⟩ := r.list e
    exact ⟨.ref a, h1, pst_ok r q ⟨a, vs, rfl, h2, h3⟩⟩
def sK (d : PyData) : SE := fun S => .ok d S
theorem e_con {e : Expr} {v : V} {d : PyData} (h : PE X e (tC v)) (hd : ∀ av H, RD X.K av H v d) : PE X e (xE X.K X.mg W C (sK d)) := pe_imp h fun σ H Q ⟨ow, S, r, q⟩ => pst_ok (mg := X.mg) (W := W) (d := d) (rel := relE X.K) r q (hd _ _)
theorem e_int {i j pos} : PE X (.Constant (.int i) j pos) (xE X.K X.mg W C (sK (.int i))) := e_con pe_int fun _ _ => .int i
theorem e_bl {b j pos} : PE X (.Constant (.bool b) j pos) (xE X.K X.mg W C (sK (.bool b))) := e_con pe_bl fun _ _ => .bl b
theorem e_non {j pos} : PE X (.Constant .none j pos) (xE X.K X.mg W C (sK .none)) := e_con pe_non fun _ _ => .non
theorem e_str {x j pos} : PE X (.Constant (.str x) j pos) (xE X.K X.mg W C (sK (.str x))) := e_con pe_str fun _ _ => .str x
def asL (d : PyData) : Option (List PyData) := match d with
  | .list ds => some ds
  | _ => none
theorem asL_some {d : PyData} {ds : List PyData} (h : asL d = some ds) : d = .list ds := by
  match d, h with
  | .list _, h => cases h; rfl
def sEL (s : SE) : SN := fun S => (s S).bind fun d S' => R.opt (asL d) S'
/-- a new list -/
theorem l_of_n {e : Expr} {s : SN} (h : PE X e (xN X.K X.mg W C s)) : PE X e (xL X.K X.mg W C s) := pe_imp h fun σ H Q ⟨ow, S, r, q⟩ => ⟨ow, S, r, by
  show pst X.K X.mg W C (relN X.K) ow σ H Q (s S)
  change pst X.K X.mg W C (relL X.K) ow σ H Q (s S) at q
  cases e : s S with
  | ok d S' =>
    rw [e] at q
    exact fun v H' r' x ⟨a, vs, Hm, h1, h2, h3, h4, h5, h6⟩ => q v H' r' x ⟨a, vs, h1, SqL.of (by rw [h3]; exact upd_same), by rw [h3]; exact rds_same h6 (same_new h2)⟩
  | ex c S' =>
    rw [e] at q
    exact q
  | no => rw [e] at q; exact q⟩
def sNE (s : SN) : SE := fun S => (s S).bind fun ds S' => .ok (.list ds) S'
/-- a new list as a value -/
theorem e_of_n {e : Expr} {s : SN} (h : PE X e (xN X.K X.mg W C s)) : PE X e (xE X.K X.mg W C (sNE s)) := pe_imp h fun σ H Q ⟨ow, S, r, q⟩ =>
  seq early_E r q fun S' d v H' r' _ ⟨a, vs, Hm, h1, h2, h3, h4, h5, h6⟩ k => by
    subst h1
    subst h3
    exact pst_ok r' k (rd_newL h5.tracked h6 h2)
def OpD (K : PySem.W.Frag) (r : R2) (g : PyData → PyData → Option PyData) : Prop :=
  ∀ (av : Av) (H : Hp) (x y : V) (d e z : PyData) (Q : VK), (∀ a, av a → ∃ o, H a = some o) → RD K av H x d → RD K av H y e → g d e = some z → (∀ v H', Same H H' → RD K av H' v z → Q v H') → r x y H Q
def sBin (g : PyData → PyData → Option PyData) (sa sb : SE) : SE := fun S => (sa S).bind fun d S1 => (sb S1).bind fun e S2 => R.opt (g d e) S2
variable {a b c : Expr} {sa sb sc : SE} {pos : Pos} {r : R2} {g : PyData → PyData → Option PyData}
theorem fin_opt {σ : St} {H H' : Hp} {ow : Ow} {S : En} {o : Option PyData} {Q : VK} {P : Prop} (rl : Rl X.K C ow S σ H) (k : pst X.K X.mg W C (relE X.K) ow σ H Q (R.opt o S)) (f : ∀ z, o = some z → (∀ v H', Same H H' → RD X.K (av C ow) H' v z → Q v H') → P) : P := by
  cases e : o with
  | none => rw [e] at k; exact k.elim
  | some z =>
    rw [e] at k
    exact f z e fun v H' sm rd => pst_same rl k sm rd
theorem bin_tOp (hd : OpD X.K r g) {σ : St} {H : Hp} {Q : VK} (h : xE X.K X.mg W C (sBin g sa sb) σ H Q) : tOp r (xE X.K X.mg W C sa) (xE X.K X.mg W C sb) σ H Q := by
  obtain ⟨ow, S, rl, q⟩ := h
  refine seq early_E rl q fun S1 d x H1 r1 x1 rd k1 => ?_
  refine seq early_E r1 k1 fun S2 e y H2 r2 x2 re k2 => ?_
  refine fin_opt (H' := H2) r2 k2 fun z ez f => ?_
  exact hd (av C ow) H2 x y d e z Q r2.tracked (RD.mono x2 (Grow.refl _ _) d x rd) re ez f
theorem e_bin {op : Operator} (ho : OpR X (binaryOp op) r) (hd : OpD X.K r g) (ha : PE X a (xE X.K X.mg W C sa)) (hb : PE X b (xE X.K X.mg W C sb)) : PE X (.BinOp a op b pos) (xE X.K X.mg W C (sBin g sa sb)) :=
  pe_imp (pe_op ho ha hb) fun _ _ _ h => bin_tOp hd h
theorem e_cmp {op : CmpOp} (ho : OpR X (compareOp op) r) (hd : OpD X.K r g) (ha : PE X a (xE X.K X.mg W C sa)) (hb : PE X b (xE X.K X.mg W C sb)) (hm : behindInMarks op b = false) : PE X (.Compare a [op] [b] pos) (xE X.K X.mg W C (sBin g sa sb)) :=
  pe_imp (pe_cmpR ho ha hb hm) fun _ _ _ h => bin_tOp hd h
theorem e_ix (ho : IxR X r) (hd : OpD X.K r g) (ha : PE X a (xE X.K X.mg W C sa)) (hb : PE X b (xE X.K X.mg W C sb)) (hs : PlainIx b) : PE X (.Subscript a b pos) (xE X.K X.mg W C (sBin g sa sb)) :=
  pe_imp (pe_ix ho ha hb hs) fun _ _ _ h => bin_tOp hd h
def asB (d : PyData) : Option Bool := match d with
  | .bool b => some b
  | _ => none
theorem asB_some {d : PyData} {b : Bool} (h : asB d = some b) : d = .bool b := by
  match d, h with
  | .bool _, h => cases h; rfl
def sTst (s : SE) : STt := fun S => (s S).bind fun d S' => R.opt (asB d) S'
theorem tst_tB {t : TE} {σ : St} {H : Hp} {Q : Bool → Hp → Prop} {s : SE} (h : xB X.K X.mg W C (sTst s) σ H Q) (f : ∀ Q, xE X.K X.mg W C s σ H Q → t σ H Q) : t σ H fun x H1 => ∃ k, x = .bl k ∧ Q k H1 := by
  obtain ⟨ow, S, rl, q⟩ := h
  refine f _ (seq early_B rl q fun S1 d x H1 r1 x1 rd k1 => ?_)
  cases e : asB d with
  | none => rw [e] at k1; exact k1.elim
  | some b =>
    rw [e] at k1
    have ed := asB_some e
    subst ed
    cases rd
    exact ⟨b, rfl, pst_ok r1 k1 rfl⟩
theorem t_cmp {op : CmpOp} (ho : OpR X (compareOp op) r) (hd : OpD X.K r g) (ha : PE X a (xE X.K X.mg W C sa)) (hb : PE X b (xE X.K X.mg W C sb)) (hm : behindInMarks op b = false) : PT X (.Compare a [op] [b] pos) (xB X.K X.mg W C (sTst (sBin g sa sb))) :=
  pt_imp (pt_cmpR ho ha hb hm) fun _ _ _ h => tst_tB h fun _ q => bin_tOp hd q
theorem t_val {e : Expr} {s : SE} (h : PE X e (xE X.K X.mg W C s)) (he : ∀ whole, isTrue e X.env whole = (do let v ← whole; standAt e.pos; holding [v] (truthy v)) := by intro _; rfl) : PT X e (xB X.K X.mg W C (sTst s)) :=
  pt_imp (pt_val h he) fun _ _ _ q => tst_tB q fun _ z => z
variable {ta tb : STt} {rest : List Expr}
def sAnd (ta tb : STt) : STt := fun S => (ta S).bind fun c S1 => if c = true then tb S1 else .ok false S1
def sOr (ta tb : STt) : STt := fun S => (ta S).bind fun c S1 => if c = true then .ok true S1 else tb S1
def sNot (ta : STt) : STt := fun S => (ta S).bind fun c S1 => .ok (!c) S1
theorem pw_imp {e : Expr} {t t' : TT} (h : PW X e t) (f : ∀ σ H Q, t' σ H Q → t σ H Q) : PW X e t' := ⟨fun wh pins s σ H Q I q => h.run wh pins s σ H Q I (f σ H Q q)⟩
theorem w_or (ha : PT X a (xB X.K X.mg W C ta)) (hb : PW X (.BoolOp .Or (b :: rest) pos) (xB X.K X.mg W C tb)) : PW X (.BoolOp .Or (a :: b :: rest) pos) (xB X.K X.mg W C (sOr ta tb)) :=
  pw_imp (pw_or ha hb) fun σ H Q ⟨ow, S, rl, q⟩ => seq early_B rl q fun S1 d x H1 r1 x1 rd k1 => by
    cases rd
    cases d with
    | true => exact pst_ok r1 k1 rfl
    | false => exact ⟨ow, S1, r1, k1⟩
theorem t_not (ha : PT X a (xB X.K X.mg W C ta)) : PT X (.UnaryOp .Not a pos) (xB X.K X.mg W C (sNot ta)) :=
  pt_imp (pt_not ha) fun σ H Q ⟨ow, S, rl, q⟩ => seq early_B rl q fun S1 d x H1 r1 x1 rd k1 => by
    cases rd
    exact pst_ok r1 k1 rfl
def sAndV (sa sb : SE) : SE := fun S => (sa S).bind fun d S1 => match d with
  | .bool true => sb S1
  | .bool false => .ok (.bool false) S1
  | _ => .no
def sOrV (sa sb : SE) : SE := fun S => (sa S).bind fun d S1 => match d with
  | .bool false => sb S1
  | .bool true => .ok (.bool true) S1
  | _ => .no
def sNotV (sa : SE) : SE := fun S => (sa S).bind fun d S1 => match d with
  | .bool b => .ok (.bool (!b)) S1
  | _ => .no
theorem e_and (ha : PE X a (xE X.K X.mg W C sa)) (hb : PE X (.BoolOp .And (b :: rest) pos) (xE X.K X.mg W C sb)) : PE X (.BoolOp .And (a :: b :: rest) pos) (xE X.K X.mg W C (sAndV sa sb)) :=
  pe_imp (pe_and ha hb) fun σ H Q ⟨ow, S, rl, q⟩ => seq early_E rl q fun S1 d x H1 r1 x1 rd k1 => by
    cases rd with
    | bl c =>
      refine ⟨c, rfl, ?_⟩
      cases c with
      | true => exact ⟨ow, S1, r1, k1⟩
      | false => exact pst_ok r1 k1 (.bl false)
    | _ => exact k1.elim
theorem e_not (ha : PE X a (xE X.K X.mg W C sa)) : PE X (.UnaryOp .Not a pos) (xE X.K X.mg W C (sNotV sa)) :=
  pe_imp (pe_not ha) fun σ H Q ⟨ow, S, rl, q⟩ => seq early_E rl q fun S1 d x H1 r1 x1 rd k1 => by
    cases rd with
    | bl c => exact ⟨c, rfl, pst_ok r1 k1 (.bl (!c))⟩
    | _ => exact k1.elim
def sIfE (t : STt) (sa sb : SE) : SE := fun S => (t S).bind fun c S1 => if c = true then sa S1 else sb S1
variable {es : List Expr} {sr : SN}
def sNil : SN := fun S => .ok [] S
def sCons (s : SE) (sr : SN) : SN := fun S => (s S).bind fun d S1 => (sr S1).bind fun ds S2 => .ok (d :: ds) S2
theorem a_nil : PA X [] (xA X.K X.mg W C sNil) := pa_imp pa_nil fun σ H Q ⟨ow, S, rl, q⟩ => pst_ok (mg := X.mg) (W := W) (rel := relA X.K) (d := []) rl q .nil
theorem a_cons (ha : PE X a (xE X.K X.mg W C sa)) (hr : PA X es (xA X.K X.mg W C sr)) (hs : starEach (a :: es) X.env = (false, eval a X.env) :: starEach es X.env := by rfl) : PA X (a :: es) (xA X.K X.mg W C (sCons sa sr)) :=
  pa_imp (pa_cons ha hr hs) fun σ H Q ⟨ow, S, rl, q⟩ => seq early_A rl q fun S1 d x H1 r1 x1 rd k1 => seq early_A r1 k1 fun S2 ds vs H2 r2 x2 rds k2 => pst_ok r2 k2 (.cons (RD.mono x2 (Grow.refl _ _) d x rd) rds)
def sTup (s : SN) : SE := fun S => (s S).bind fun ds S1 => if ds.length ≤ sizeLine then .ok (.tuple ds) S1 else .no
def tTupF (t : TA) : TE := fun σ H Q => t σ H fun xs H1 => xs.length ≤ sizeLine ∧ NT H1 xs Q
theorem pe_tupF {es : List Expr} {t : TA} {x1} (h : PA X es t) : PE X (.Tuple es x1 pos) (tTupF t) := by
  refine ⟨fun pins s σ H Q I hq => wpAny_Tuple_spliced (thn (h.run pos pins s σ H _ I hq) fun us s1 ⟨xs, H1, I1, r, z, q⟩ => ⟨by rw [← r.length]; exact z, ?_⟩)⟩
  exact q.run (tk := s1.toks) I1 r z
theorem e_tup {x1} (h : PA X es (xA X.K X.mg W C sr)) : PE X (.Tuple es x1 pos) (xE X.K X.mg W C (sTup sr)) :=
  pe_imp (pe_tupF h) fun σ H Q ⟨ow, S, rl, q⟩ => seq early_E rl q fun S1 ds vs H1 r1 x1 rds k1 => by
    by_cases z : ds.length ≤ sizeLine
    · rw [if_pos z] at k1
      exact ⟨by rw [rds.len]; exact z, fun p o np d c => pst_same r1 k1 (same_new np) (rd_newT r1.tracked rds np d c)⟩
    · rw [if_neg z] at k1
      exact k1.elim
def sLst (s : SN) : SN := fun S => (s S).bind fun ds S1 => if ds.length ≤ sizeLine then .ok ds S1 else .no
theorem n_lst (h : PA X es (xA X.K X.mg W C sr)) : PE X (.List es pos) (xN X.K X.mg W C (sLst sr)) :=
  pe_imp (pe_lst h) fun σ H Q ⟨ow, S, rl, q⟩ => seq early_N rl q fun S1 ds vs H1 r1 x1 rds k1 => by
    by_cases z : ds.length ≤ sizeLine
    · rw [if_pos z] at k1
      exact ⟨by rw [rds.len]; exact z, fun p np => pst_same r1 k1 (same_new np) ⟨p, vs, H1, rfl, np, rfl, Ext.refl _ _, r1, rds⟩⟩
    · rw [if_neg z] at k1
      exact k1.elim
/-- a built-in function, a type, by values -/
def CallD (K : PySem.W.Frag) (r : List V → Hp → VK → Prop) (g : List PyData → Option PyData) : Prop :=
  ∀ (av : Av) (H : Hp) (xs : List V) (ds : List PyData) (z : PyData) (Q : VK), (∀ a, av a → ∃ o, H a = some o) → RDs K av H xs ds → g ds = some z → (∀ v H', Same H H' → RD K av H' v z → Q v H') → r xs H Q
def sCallB (g : List PyData → Option PyData) (s : SN) : SE := fun S => (s S).bind fun ds S1 => R.opt (g ds) S1
theorem callB_tCB {rr : List V → Hp → VK → Prop} {gg : List PyData → Option PyData} (hd : CallD X.K rr gg) {σ : St} {H : Hp} {Q : VK} (h : xE X.K X.mg W C (sCallB gg sr) σ H Q) : tCB rr (xA X.K X.mg W C sr) σ H Q := by
  obtain ⟨ow, S, rl, q⟩ := h
  refine seq early_E rl q fun S1 ds vs H1 r1 x1 rds k1 => ?_
  refine fin_opt (H' := H1) r1 k1 fun z ez f => ?_
  exact hd (av C ow) H1 vs ds z Q r1.tracked rds ez f
theorem e_callB {id : String} {x : Str} {p : Pos} {rr : List V → Hp → VK → Prop} {gg : List PyData → Option PyData} (hc : CallR X (.builtin id) rr) (hd : CallD X.K rr gg) (hg : Gl X x) (hm : X.mg x = none) (hv : bootBuiltins x = some (.builtin id)) (ha : PA X (a :: es) (xA X.K X.mg W C sr)) (hn : x ≠ "__name__" := by decide) (hdb : (x == ("__debug__" : Str)) = false := by decide)
    (he : starEach (a :: es) X.env = (false, eval a X.env) :: starEach es X.env := by rfl) (hpl : (backTo pos (starEach es X.env)).any (·.1) = false := by rfl) : PE X (.Call (.Name x p) (a :: es) [] pos) (xE X.K X.mg W C (sCallB gg sr)) :=
  pe_imp (pe_callB hc hg hm hv ha hn hdb he hpl) fun _ _ _ h => callB_tCB hd h
theorem e_callTy {id : String} {x : Str} {p : Pos} {rr : List V → Hp → VK → Prop} {gg : List PyData → Option PyData} (hc : CallR X (.type id) rr) (hd : CallD X.K rr gg) (hg : Gl X x) (hm : X.mg x = none) (hv : bootBuiltins x = some (.type id)) (ha : PA X (a :: es) (xA X.K X.mg W C sr)) (hn : x ≠ "__name__" := by decide) (hdb : (x == ("__debug__" : Str)) = false := by decide)
    (he : starEach (a :: es) X.env = (false, eval a X.env) :: starEach es X.env := by rfl) (hpl : (backTo pos (starEach es X.env)).any (·.1) = false := by rfl) : PE X (.Call (.Name x p) (a :: es) [] pos) (xE X.K X.mg W C (sCallB gg sr)) :=
  pe_imp (pe_callTy hc hg hm hv ha hn hdb he hpl) fun _ _ _ h => callB_tCB hd h
end
end Ds
end
section
set_option Elab.async false
set_option linter.all false
set_option maxRecDepth 100000
set_option maxHeartbeats 4000000
namespace Ds
open PySem PySem.Spec PyProof.Rows L2
inductive RS where
  | nx (S : En)
  | rt (r : Sl) (S : En)
  | bk (S : En)
  | ct (S : En)
  | ex (c : Ec) (S : En)
  | no
abbrev SS := En → RS
/-- what a def hands back -/
def rres (K : PySem.W.Frag) (C : Cn) (ow : Ow) (σ : St) (S : En) (H : Hp) (v : V) : Sl → Prop
  | .val d => RD K (av C ow) H v d
  | .own ds => ∃ p vs Hm ow2 S2, v = .ref p ∧ C.H0 p = none ∧ ¬ C.A0 p ∧ Hm p = none ∧ H = upd Hm p (.lst vs) ∧ RDs K (av C ow2) Hm vs ds ∧ Rl K C ow2 S2 σ Hm ∧ ∀ (j : Nat) es, S[j]? = some (.io es) → S2[j]? = some (.io es)
  | .pair d ds => ∃ q p x vs o Hm ow2 S2, v = .ref q ∧ C.H0 p = none ∧ ¬ C.A0 p ∧ Hm p = none ∧ Hm q = none ∧ p ≠ q ∧ H = upd (upd Hm p (.lst vs)) q (.frz o (.tup [x, .ref p])) ∧ RD K (av C ow2) Hm x d ∧ RDs K (av C ow2) Hm vs ds ∧ Rl K C ow2 S2 σ Hm ∧ ∀ (j : Nat) es, S[j]? = some (.io es) → S2[j]? = some (.io es)
  | _ => False
def sst (K : PySem.W.Frag) (mg : Str → Option Value) (W : WX) (C : Cn) (ow : Ow) (H : Hp) (D : Ends) : RS → Prop
  | .nx S' => ∀ ow' σ' H', Rl K C ow' S' σ' H' → Ext (av C ow) H H' → Grow (av C ow) (av C ow') H → D.nx σ' H'
  | .bk S' => ∀ ow' σ' H', Rl K C ow' S' σ' H' → Ext (av C ow) H H' → Grow (av C ow) (av C ow') H → D.bk σ' H'
  | .ct S' => ∀ ow' σ' H', Rl K C ow' S' σ' H' → Ext (av C ow) H H' → Grow (av C ow) (av C ow') H → D.ct σ' H'
  | .rt r S' => ∀ ow' σ' v H', Rl K C ow' S' σ' H' → Ext (av C ow) H H' → Grow (av C ow) (av C ow') H → rres K C ow' σ' S' H' v r → D.rt v H'
  | .ex c S' => ∀ ow' σ' H', Rl K C ow' S' σ' H' → Ext (av C ow) H H' → Grow (av C ow) (av C ow') H → ∀ d, ExD C.A0 H' c d → W (clOf mg c.n) d σ' H'
  | .no => False
def xS (K : PySem.W.Frag) (mg : Str → Option Value) (W : WX) (C : Cn) (s : SS) : TS := fun D σ H => ∃ ow S, Rl K C ow S σ H ∧ sst K mg W C ow H D (s S)
section
variable {K : PySem.W.Frag} {mg : Str → Option Value} {W : WX} {C : Cn} {ow ow' : Ow} {σ σ' : St} {H H' : Hp} {D D' : Ends}
theorem sst_from {r : RS} (e : Ext (av C ow) H H') (g : Grow (av C ow) (av C ow') H) (h : sst K mg W C ow H D r) : sst K mg W C ow' H' D r := by
  cases r with
  | nx S => exact fun o2 s2 H2 q1 q2 q3 => h o2 s2 H2 q1 (e.trans g q2) (g.trans e q3)
  | bk S => exact fun o2 s2 H2 q1 q2 q3 => h o2 s2 H2 q1 (e.trans g q2) (g.trans e q3)
  | ct S => exact fun o2 s2 H2 q1 q2 q3 => h o2 s2 H2 q1 (e.trans g q2) (g.trans e q3)
  | rt r S => exact fun o2 s2 v H2 q1 q2 q3 => h o2 s2 v H2 q1 (e.trans g q2) (g.trans e q3)
  | ex c S => exact fun o2 s2 H2 q1 q2 q3 => h o2 s2 H2 q1 (e.trans g q2) (g.trans e q3)
  | no => exact h
def R.st {α : Type} (x : R α) (k : α → En → RS) : RS := match x with
  | .ok a S => k a S
  | .ex c S => .ex c S
  | .no => .no
@[simp] theorem st_ok {α : Type} (a : α) (S : En) (k : α → En → RS) : (R.ok a S).st k = k a S := rfl
@[simp] theorem st_ex {α : Type} (c : Ec) (S : En) (k : α → En → RS) : (R.ex c S : R α).st k = .ex c S := rfl
@[simp] theorem st_no {α : Type} (k : α → En → RS) : (R.no : R α).st k = .no := rfl
/-- a thing is computed, then the statement goes on -/
theorem seqS {α β : Type} {rel : Rel β α} {s : En → R α} {k : α → En → RS} {P : β → Hp → Prop} {S : En} (r : Rl K C ow S σ H)
    (h : sst K mg W C ow H D ((s S).st k)) (f : ∀ S' d v H', Rl K C ow S' σ H' → Ext (av C ow) H H' → rel C ow σ S' H H' v d → sst K mg W C ow H' D (k d S') → P v H') : xG K mg W C rel s σ H P := by
  refine ⟨ow, S, r, ?_⟩
  show pst K mg W C rel ow σ H P (s S)
  cases e : s S with
  | ok d S' =>
    rw [e] at h
    exact fun v H' r' x q => f S' d v H' r' x q (sst_from x (Grow.refl _ _) h)
  | ex c S' =>
    rw [e] at h
    exact fun H' r' x => h ow σ H' r' x (Grow.refl _ _)
  | no =>
    rw [e] at h
    exact h
end
def sSeq (s t : SS) : SS := fun S => match s S with
  | .nx S' => t S'
  | r => r
def sNx : SS := fun S => .nx S
section
variable {X : Cx} {W : WX} {C : Cn} {st : Stmt} {rest : List Stmt} {s t : SS} {pos : Pos} {e c : Expr} {se : SE} {sn : SN} {sb : STt}
theorem s_nil : PSs X [] (xS X.K X.mg W C sNx) := pss_imp pss_nil fun D σ H ⟨ow, S, r, q⟩ => q ow σ H r (Ext.refl _ _) (Grow.refl _ _)
theorem s_cons (h1 : PS X st (xS X.K X.mg W C s)) (h2 : PSs X rest (xS X.K X.mg W C t)) : PSs X (st :: rest) (xS X.K X.mg W C (sSeq s t)) :=
  pss_imp (pss_cons h1 h2) fun D σ H ⟨ow, S, r, q⟩ => ⟨ow, S, r, by
    change sst X.K X.mg W C ow H D (sSeq s t S) at q
    unfold sSeq at q
    cases e : s S with
    | nx S' =>
      rw [e] at q
      exact fun ow' σ' H' r' x g => ⟨ow', S', r', sst_from x g q⟩
    | rt v S' => rw [e] at q; exact q
    | bk S' => rw [e] at q; exact q
    | ct S' => rw [e] at q; exact q
    | ex c S' => rw [e] at q; exact q
    | no => rw [e] at q; exact q⟩
theorem s_one (h1 : PS X st (xS X.K X.mg W C s)) : PSs X [st] (xS X.K X.mg W C s) := pss_one h1
/-- a statement that is never reached -/
def sStop : SS := fun _ => .no
theorem s_never : PS X st (xS X.K X.mg W C sStop) := ps_imp ps_never fun D σ H ⟨ow, S, r, q⟩ => q
def sDrop (se : SE) : SS := fun S => (se S).st fun _ S' => .nx S'
theorem s_expr (he : PE X e (xE X.K X.mg W C se)) (hs : swapsWith e none pos.line X.env = pure false := by rfl) : PS X (.Expr e pos) (xS X.K X.mg W C (sDrop se)) :=
  ps_imp (ps_expr he hs) fun D σ H ⟨ow, S, r, q⟩ => seqS r q fun S' d v H' r' x rd k => k ow σ H' r' (Ext.refl _ _) (Grow.refl _ _)
def sRet (se : SE) : SS := fun S => (se S).st fun d S' => .rt (.val d) S'
theorem s_ret (he : PE X e (xE X.K X.mg W C se)) : PS X (.Return (some e) pos) (xS X.K X.mg W C (sRet se)) :=
  ps_imp (ps_ret he) fun D σ H ⟨ow, S, r, q⟩ => seqS r q fun S' d v H' r' x rd k => k ow σ v H' r' (Ext.refl _ _) (Grow.refl _ _) rd
def sRetN : SS := fun S => .rt (.val .none) S
section
variable {K : PySem.W.Frag} {ow : Ow} {S : En} {σ : St} {H : Hp}
theorem Rl.fresh0 (r : Rl K C ow S σ H) {p : Addr} (h : H p = none) : C.H0 p = none ∧ ¬ C.A0 p := by
  have n : ¬ C.A0 p := fun z => r.fresh h (.inl z)
  refine ⟨?_, n⟩
  cases q : C.H0 p with
  | none => rfl
  | some o =>
    rw [r.ext p o q fun i z => n (r.iok i p z).1] at h
    cases h
theorem rds_less {av av' : Av} {vs : List V} {ds : List PyData} (h : RDs K av H vs ds) (g : ∀ a, av' a → av a) (hw : av'.w = av.w := by first | rfl | assumption) : RDs K av' H vs ds := RDs.mono (Ext.refl _ _) (fun a z => .inl (g a z)) ds vs h hw
theorem rd_less {av av' : Av} {vs : V} {ds : PyData} (h : RD K av H vs ds) (g : ∀ a, av' a → av a) (hw : av'.w = av.w := by first | rfl | assumption) : RD K av' H vs ds := RD.mono (Ext.refl _ _) (fun a z => .inl (g a z)) ds vs h hw
end
/-- a new list is handed back, to be owned -/
def sRetNew (sn : SN) : SS := fun S => (sn S).st fun ds S' => .rt (.own ds) S'
theorem s_retNew (he : PE X e (xN X.K X.mg W C sn)) : PS X (.Return (some e) pos) (xS X.K X.mg W C (sRetNew sn)) :=
  ps_imp (ps_ret he) fun D σ H ⟨ow, S, r, q⟩ => seqS r q fun S' ds v H' r' x ⟨a, vs, Hm, h1, h2, h3, h4, h5, h6⟩ k =>
    k ow σ v H' r' (Ext.refl _ _) (Grow.refl _ _) ⟨a, vs, Hm, ow, S', h1, (h5.fresh0 h2).1, (h5.fresh0 h2).2, h2, h3, h6, h5, fun _ _ z => z⟩
/-- the list in slot i is handed back -/
def own1? : Option Sl → Option (List PyData)
  | some (.own ds) => some ds
  | _ => none
theorem own1?_some {o : Option Sl} {ds : List PyData} (h : own1? o = some ds) : o = some (.own ds) := by
  match o, h with
  | some (.own d), h => cases h; rfl
def del (H : Hp) (p : Addr) : Hp := fun b => if b = p then none else H b
theorem del_same {H : Hp} {p : Addr} : del H p p = none := if_pos rfl
theorem del_ne {H : Hp} {p b : Addr} (h : b ≠ p) : del H p b = H b := if_neg h
theorem upd_del {H : Hp} {p : Addr} {o : HO} (h : H p = some o) : upd (del H p) p o = H := by
  funext b
  by_cases e : b = p
  · rw [e, upd_same, h]
  · rw [upd_ne e, del_ne e]
def owSet (ow : Ow) (i : Nat) (o : Option Addr) : Ow := fun j => if j = i then o else ow j
section
variable {K : PySem.W.Frag} {ow : Ow} {S : En} {σ : St} {H : Hp}
theorem av_set {i : Nat} {o : Option Addr} {a : Addr} (h : av C (owSet ow i o) a) : av C ow a ∨ o = some a := by
  rcases h with h | ⟨j, h⟩
  · exact .inl (.inl h)
  · unfold owSet at h
    by_cases e : j = i
    · rw [if_pos e] at h; exact .inr h
    · rw [if_neg e] at h; exact .inl (.inr ⟨j, h⟩)
theorem ext_del {av : Av} {p : Addr} (h : av p) : Ext av H (del H p) := fun a o n e => by
  rw [del_ne (show a ≠ p from fun z => n (by rw [z]; exact h))]
  exact e
/-- the list of slot i is given up, and leaves the heap -/
theorem Rl.drop (r : Rl K C ow S σ H) {i : Nat} {ds : List PyData} {p : Addr} (hi : S[i]? = some (.own ds)) (hp : ow i = some p) : Rl K C (owSet ow i none) (S.set i .nil) σ (del H p) := by
  have hl : i < S.length := (List.getElem?_eq_some_iff.mp hi).1
  have gs : ∀ j, j ≠ i → (S.set i .nil)[j]? = S[j]? := fun j e => List.getElem?_set_ne (Ne.symm e)
  have gi : (S.set i .nil)[i]? = some .nil := List.getElem?_set_self hl
  have oj : ∀ j, j ≠ i → owSet ow i none j = ow j := fun j e => if_neg e
  have oi : owSet ow i none i = none := if_pos rfl
  have n := r.frs i ds p hi hp
  have ap : av C ow p := .inr ⟨i, hp⟩
  have lt : ∀ a, av C (owSet ow i none) a → av C ow a := fun a z => (av_set z).elim id fun z => by cases z
  have hn : nn S[i]? = true := by rw [hi]; rfl
  have h4 : i < 4096 := Nat.lt_of_lt_of_le hl r.ns.big
  refine ⟨by rw [List.length_set]; exact r.len, fun j d e => ?_, fun j es e => ?_, fun j a e => ?_, fun j k a e1 e2 => ?_, fun j es a e1 e2 => ?_, fun j es e => ?_, fun j a e => ?_, fun a z => ?_, fun a o z h => ?_, ?_⟩
  · by_cases hj : j = i
    · subst hj; rw [gi] at e; cases e
    · rw [gs j hj] at e
      obtain ⟨w, e1, e2⟩ := r.val j d e
      exact ⟨w, e1, RD.mono (ext_del ap) (fun a z => .inl (lt a z)) d w e2⟩
  · by_cases hj : j = i
    · subst hj; rw [gi] at e; cases e
    · rw [gs j hj] at e
      obtain ⟨a, ws, e1, e2, e3, e4⟩ := r.own j es e
      refine ⟨a, ws, by rw [oj j hj]; exact e1, e2, ?_, RDs.mono (ext_del ap) (fun a z => .inl (lt a z)) es ws e4⟩
      rw [del_ne (show a ≠ p from fun z => hj (r.inj j i a e1 (by rw [z]; exact hp)))]
      exact e3
  · by_cases hj : j = i
    · subst hj; rw [oi] at e; cases e
    · rw [oj j hj] at e
      rw [gs j hj]
      exact (r.ows j a e).imp id fun z => z.of fun _ _ q => (nst_set hn rfl).mpr q
  · by_cases hj : j = i
    · subst hj; rw [oi] at e1; cases e1
    · by_cases hk : k = i
      · subst hk; rw [oi] at e2; cases e2
      · rw [oj j hj] at e1
        rw [oj k hk] at e2
        exact r.inj j k a e1 e2
  · by_cases hj : j = i
    · subst hj; rw [gi] at e1; cases e1
    · rw [gs j hj] at e1
      rw [oj j hj] at e2
      exact r.frs j es a e1 e2
  · by_cases hj : j = i
    · subst hj; rw [gi] at e; cases e
    · rw [gs j hj] at e
      rw [oj j hj]
      exact r.ios j es e
  · obtain ⟨h1, es, h2⟩ := r.iok j a e
    refine ⟨h1, es, ?_⟩
    rw [gs j fun z => ?_]
    · exact h2
    · rw [z, hi] at h2; cases h2
  · rw [del_ne (show a ≠ p from fun q => n.2 (by rw [← q]; exact z))]
    exact r.trk a z
  · rw [del_ne (show a ≠ p from fun q => by rw [q, n.1] at z; cases z)]
    exact r.ext a o z h
  · refine r.ns.move (by rw [List.length_set]; exact r.ns.big) (fun _ _ q => (nst_set hn rfl).mp q) (fun j q => oj j (q.ne hn h4)) (fun _ _ _ _ => rfl) (fun j a o q e1 e2 => ?_) (fun ws ds q => RDs.mono (ext_del ap) (fun a z => .inl (lt a z)) ds ws q) (fun _ _ _ _ z => z)
    rw [del_ne (show a ≠ p from fun z => q.ne hn h4 (r.inj j i a e1 (by rw [z]; exact hp)))]
    exact e2
end
def sRetOwn (i : Nat) : SS := fun S => match own1? S[i]? with
  | some ds => .rt (.own ds) S
  | none => .no
theorem s_retOwn {i : Nat} (he : PE X e (tVar i)) : PS X (.Return (some e) pos) (xS X.K X.mg W C (sRetOwn i)) :=
  ps_imp (ps_ret he) fun D σ H ⟨ow, S, r, q⟩ => by
    change sst X.K X.mg W C ow H D (sRetOwn i S) at q
    unfold sRetOwn at q
    cases e : own1? S[i]? with
    | none => rw [e] at q; exact q.elim
    | some ds =>
      rw [e] at q
      have e' := own1?_some e
      obtain ⟨a, vs, h0, h1, h2, h3⟩ := r.own i ds (by rw [e']; rfl)
      obtain ⟨f1, f2⟩ := r.frs i ds a e' h0
      refine ⟨.ref a, h1, q ow σ _ H r (Ext.refl _ _) (Grow.refl _ _) ⟨a, vs, del H a, owSet ow i none, S.set i .nil, rfl, f1, f2, del_same, (upd_del h2).symm, ?_, r.drop e' h0, fun j es z => ?_⟩⟩
      · exact RDs.mono (ext_del (av := av C ow) (Or.inr ⟨i, h0⟩)) (fun b z => .inl ((av_set z).elim id fun z => by cases z)) ds vs h3
      · rw [List.getElem?_set_ne fun w => by rw [← w, e'] at z; cases z]
        exact z
def sIf (sb : STt) (s t : SS) : SS := fun S => (sb S).st fun b S' => if b = true then s S' else t S'
theorem s_if {a b : List Stmt} (hc : PT X c (xB X.K X.mg W C sb)) (ha : PSs X a (xS X.K X.mg W C s)) (hb : PSs X b (xS X.K X.mg W C t)) : PS X (.If c a b pos) (xS X.K X.mg W C (sIf sb s t)) :=
  ps_imp (ps_if hc ha hb) fun D σ H ⟨ow, S, r, q⟩ => seqS r q fun S' d v H' r' x rd k => by
    cases rd
    cases d with
    | true => exact ⟨ow, S', r', k⟩
    | false => exact ⟨ow, S', r', k⟩
def noio : Option Sl → Bool
  | some (.io _) => false
  | some (.nst _) => false
  | none => false
  | _ => true
def put (i : Nat) (x : Sl) (S : En) : RS := if noio S[i]? = true then .nx (S.set i x) else .no
section
variable {K : PySem.W.Frag} {mg : Str → Option Value} {ow : Ow} {S : En} {σ : St} {H H' : Hp}
theorem noio_lt {i : Nat} (h : noio S[i]? = true) : i < S.length := by
  cases e : S[i]? with
  | none => rw [e] at h; cases h
  | some x => exact (List.getElem?_eq_some_iff.mp e).1
theorem noio_nn {o : Option Sl} (h : noio o = true) : nn o = true := by
  match o, h with
  | some .nil, _ => rfl
  | some (.val _), _ => rfl
  | some (.own _), _ => rfl
  | some (.pair _ _), _ => rfl
theorem noio_io {i : Nat} (h : noio S[i]? = true) (ds : List PyData) : S[i]? ≠ some (.io ds) := fun z => by rw [z] at h; cases h
/-- a value is stored in slot i -/
theorem Rl.putV (r : Rl K C ow S σ H) {i : Nat} (hi : noio S[i]? = true) {d : PyData} {v : V} (q : RD K (av C ow) H v d) : Rl K C (owSet ow i none) (S.set i (.val d)) (σ.set i (some v)) H := by
  have hl := noio_lt hi
  have hlσ : i < σ.length := by rw [← r.len]; exact hl
  have gs : ∀ j, j ≠ i → (S.set i (.val d))[j]? = S[j]? := fun j e => List.getElem?_set_ne (Ne.symm e)
  have gσ : ∀ j, j ≠ i → (σ.set i (some v))[j]? = σ[j]? := fun j e => List.getElem?_set_ne (Ne.symm e)
  have gi : (S.set i (.val d))[i]? = some (.val d) := List.getElem?_set_self hl
  have gσi : (σ.set i (some v))[i]? = some (some v) := List.getElem?_set_self hlσ
  have oj : ∀ j, j ≠ i → owSet ow i none j = ow j := fun j e => if_neg e
  have oi : owSet ow i none i = none := if_pos rfl
  have lt : ∀ a, av C (owSet ow i none) a → av C ow a := fun a z => (av_set z).elim id fun z => by cases z
  have hn := noio_nn hi
  have h4 : i < 4096 := Nat.lt_of_lt_of_le hl r.ns.big
  refine ⟨by rw [List.length_set, List.length_set]; exact r.len, fun j d e => ?_, fun j ds e => ?_, fun j a e => ?_, fun j k a e1 e2 => ?_, fun j ds a e1 e2 => ?_, fun j ds e => ?_, fun j a e => ?_, r.trk, r.ext, r.ns.move (by rw [List.length_set]; exact r.ns.big) (fun _ _ q => (nst_set hn rfl).mp q) (fun j q => oj j (q.ne hn h4)) (fun j _ q _ => gσ j (NstAt.ne (.inl ⟨_, q⟩) hn h4)) (fun _ _ _ _ _ q => q) (fun _ _ q => rds_less q lt) (fun _ _ _ _ z => z)⟩
  · by_cases hj : j = i
    · subst hj
      rw [gi] at e
      cases e
      exact ⟨v, gσi, rd_less q lt⟩
    · rw [gs j hj] at e
      obtain ⟨w, e1, e2⟩ := r.val j d e
      exact ⟨w, by rw [gσ j hj]; exact e1, rd_less e2 lt⟩
  · by_cases hj : j = i
    · subst hj; rw [gi] at e; cases e
    · rw [gs j hj] at e
      obtain ⟨a, ws, e1, e2, e3, e4⟩ := r.own j ds e
      exact ⟨a, ws, by rw [oj j hj]; exact e1, by rw [gσ j hj]; exact e2, e3, rds_less e4 lt⟩
  · by_cases hj : j = i
    · subst hj; rw [oi] at e; cases e
    · rw [oj j hj] at e
      rw [gs j hj]
      exact (r.ows j a e).imp id fun z => z.of fun _ _ q => (nst_set hn rfl).mpr q
  · by_cases hj : j = i
    · subst hj; rw [oi] at e1; cases e1
    · by_cases hk : k = i
      · subst hk; rw [oi] at e2; cases e2
      · rw [oj j hj] at e1
        rw [oj k hk] at e2
        exact r.inj j k a e1 e2
  · by_cases hj : j = i
    · subst hj; rw [gi] at e1; cases e1
    · rw [gs j hj] at e1
      rw [oj j hj] at e2
      exact r.frs j ds a e1 e2
  · by_cases hj : j = i
    · subst hj; rw [gi] at e; cases e
    · rw [gs j hj] at e
      rw [oj j hj]
      exact r.ios j ds e
  · obtain ⟨h1, ds, h2⟩ := r.iok j a e
    refine ⟨h1, ds, ?_⟩
    rw [gs j fun z => ?_]
    · exact h2
    · rw [z] at h2
      exact absurd h2 (noio_io hi ds)
/-- a new list is stored in slot i: H is the heap without it -/
theorem Rl.putN (r : Rl K C ow S σ H) {i : Nat} (hi : noio S[i]? = true) {ds : List PyData} {p : Addr} {vs : List V} (np : H p = none) (q : RDs K (av C ow) H vs ds) :
    Rl K C (owSet ow i (some p)) (S.set i (.own ds)) (σ.set i (some (.ref p))) (upd H p (.lst vs)) := by
  have hl := noio_lt hi
  have hlσ : i < σ.length := by rw [← r.len]; exact hl
  have gs : ∀ j, j ≠ i → (S.set i (.own ds))[j]? = S[j]? := fun j e => List.getElem?_set_ne (Ne.symm e)
  have gσ : ∀ j, j ≠ i → (σ.set i (some (.ref p)))[j]? = σ[j]? := fun j e => List.getElem?_set_ne (Ne.symm e)
  have gi : (S.set i (.own ds))[i]? = some (.own ds) := List.getElem?_set_self hl
  have gσi : (σ.set i (some (.ref p)))[i]? = some (some (.ref p)) := List.getElem?_set_self hlσ
  have oj : ∀ j, j ≠ i → owSet ow i (some p) j = ow j := fun j e => if_neg e
  have oi : owSet ow i (some p) i = some p := if_pos rfl
  have n := r.fresh np
  have f0 := r.fresh0 np
  have sm : Same H (upd H p (.lst vs)) := same_new np
  have gr : Grow (av C ow) (av C (owSet ow i (some p))) H := fun a z => (av_set z).imp id fun z => by cases z; exact np
  have nj : ∀ j, ow j ≠ some p := fun j z => n (.inr ⟨j, z⟩)
  have hn := noio_nn hi
  have h4 : i < 4096 := Nat.lt_of_lt_of_le hl r.ns.big
  refine ⟨by rw [List.length_set, List.length_set]; exact r.len, fun j d e => ?_, fun j es e => ?_, fun j a e => ?_, fun j k a e1 e2 => ?_, fun j es a e1 e2 => ?_, fun j es e => ?_, fun j a e => ?_, fun a z => ?_, fun a o z h => sm a o (r.ext a o z h), r.ns.move (by rw [List.length_set]; exact r.ns.big) (fun _ _ q => (nst_set hn rfl).mp q) (fun j q => oj j (q.ne hn h4)) (fun j _ q _ => gσ j (NstAt.ne (.inl ⟨_, q⟩) hn h4)) (fun _ a o _ _ q => sm a o q) (fun ws ds q => RDs.mono (Ext.same sm) gr ds ws q) (fun _ _ _ _ z => z)⟩
  · by_cases hj : j = i
    · subst hj; rw [gi] at e; cases e
    · rw [gs j hj] at e
      obtain ⟨w, e1, e2⟩ := r.val j d e
      exact ⟨w, by rw [gσ j hj]; exact e1, RD.mono (Ext.same sm) gr d w e2⟩
  · by_cases hj : j = i
    · subst hj
      rw [gi] at e
      obtain rfl : ds = es := Option.some.inj e
      exact ⟨p, vs, oi, gσi, upd_same, RDs.mono (Ext.same sm) gr ds vs q⟩
    · rw [gs j hj] at e
      obtain ⟨a, ws, e1, e2, e3, e4⟩ := r.own j es e
      exact ⟨a, ws, by rw [oj j hj]; exact e1, by rw [gσ j hj]; exact e2, sm a _ e3, RDs.mono (Ext.same sm) gr es ws e4⟩
  · by_cases hj : j = i
    · subst hj
      exact .inl ⟨ds, by rw [gi]; rfl⟩
    · rw [oj j hj] at e
      rw [gs j hj]
      exact (r.ows j a e).imp id fun z => z.of fun _ _ q => (nst_set hn rfl).mpr q
  · by_cases hj : j = i
    · subst hj
      by_cases hk : k = j
      · exact hk.symm
      · rw [oj k hk] at e2
        rw [oi] at e1; cases e1
        exact absurd e2 (nj k)
    · rw [oj j hj] at e1
      by_cases hk : k = i
      · subst hk
        rw [oi] at e2; cases e2
        exact absurd e1 (nj j)
      · rw [oj k hk] at e2
        exact r.inj j k a e1 e2
  · by_cases hj : j = i
    · subst hj
      rw [oi] at e2; cases e2
      exact f0
    · rw [gs j hj] at e1
      rw [oj j hj] at e2
      exact r.frs j es a e1 e2
  · by_cases hj : j = i
    · subst hj; rw [gi] at e; cases e
    · rw [gs j hj] at e
      rw [oj j hj]
      exact r.ios j es e
  · obtain ⟨h1, es, h2⟩ := r.iok j a e
    refine ⟨h1, es, ?_⟩
    rw [gs j fun z => ?_]
    · exact h2
    · rw [z] at h2
      exact absurd h2 (noio_io hi es)
  · obtain ⟨o, e⟩ := r.trk a z
    exact ⟨o, sm a o e⟩
theorem grow_set {i : Nat} {o : Option Addr} {H0 : Hp} (h : ∀ a, o = some a → H0 a = none) : Grow (av C ow) (av C (owSet ow i o)) H0 := fun a z => (av_set z).imp id (h a)
end
variable {i : Nat} {x : Str}
def sSet (i : Nat) (se : SE) : SS := fun S => (se S).st fun d S' => put i (.val d) S'
/-- what follows a store of a value -/
theorem put_val {ow : Ow} {S : En} {σ : St} {H : Hp} {D : Ends} {d : PyData} {v : V} (r : Rl X.K C ow S σ H) (rd : RD X.K (av C ow) H v d) (k : sst X.K X.mg W C ow H D (put i (.val d) S)) : D.nx (σ.set i (some v)) H := by
  unfold put at k
  by_cases hi : noio S[i]? = true
  · rw [if_pos hi] at k
    exact k _ _ H (r.putV hi rd) (Ext.refl _ _) (grow_set fun a z => by cases z)
  · rw [if_neg hi] at k
    exact k.elim
theorem s_set {tg : Expr} (he : PE X e (xE X.K X.mg W C se)) (hp : ∀ {t : TE}, PE X e t → PS X (.Assign [tg] e pos) (tAsg t (gName i))) : PS X (.Assign [tg] e pos) (xS X.K X.mg W C (sSet i se)) :=
  ps_imp (hp he) fun D σ H ⟨ow, S, r, q⟩ => seqS r q fun S' d v H' r' x rd k => put_val r' rd k
def sSetNew (i : Nat) (sn : SN) : SS := fun S => (sn S).st fun ds S' => put i (.own ds) S'
theorem put_new {ow : Ow} {S : En} {σ : St} {H H' : Hp} {D : Ends} {ds : List PyData} {v : V} (rd : relN X.K C ow σ S H H' v ds) (k : sst X.K X.mg W C ow H D (put i (.own ds) S)) : D.nx (σ.set i (some v)) H' := by
  obtain ⟨p, vs, Hm, h1, h2, h3, h4, h5, h6⟩ := rd
  unfold put at k
  by_cases hi : noio S[i]? = true
  · rw [if_pos hi] at k
    subst h1
    subst h3
    exact k _ _ _ (h5.putN hi h2 h6) (h4.trans (Grow.refl _ _) (Ext.same (same_new h2))) (Grow.trans (Grow.refl _ _) h4 (grow_set fun a z => by cases z; exact h2))
  · rw [if_neg hi] at k
    exact k.elim
theorem s_setNew {tg : Expr} (he : PE X e (xN X.K X.mg W C sn)) (hp : ∀ {t : TE}, PE X e t → PS X (.Assign [tg] e pos) (tAsg t (gName i))) : PS X (.Assign [tg] e pos) (xS X.K X.mg W C (sSetNew i sn)) :=
  ps_imp (hp he) fun D σ H ⟨ow, S, r, q⟩ => by
    change sst X.K X.mg W C ow H D ((sn S).st fun ds S' => put i (.own ds) S') at q
    refine ⟨ow, S, r, ?_⟩
    show pst X.K X.mg W C (relN X.K) ow σ H _ (sn S)
    cases e : sn S with
    | no => rw [e] at q; exact q
    | ex c S' => rw [e] at q; exact fun H' r' x => q ow σ H' r' x (Grow.refl _ _)
    | ok ds S' =>
      rw [e] at q
      exact fun v H' r' x rd => put_new rd q
end
end Ds
end
section
set_option Elab.async false
set_option linter.all false
set_option maxRecDepth 100000
set_option maxHeartbeats 4000000
namespace Ds
open PySem PySem.Spec PyProof.Rows L2
section
variable {K : PySem.W.Frag} {mg : Str → Option Value} {C : Cn} {ow : Ow} {S S' : En} {σ : St} {H H' : Hp}
/-- behind a change of the lists that the slots in P own -/
theorem Rl.after (P : Nat → Prop) (r : Rl K C ow S σ H) (hlen : S'.length = S.length) (sh : ∀ i, ¬ P i → S'[i]? = S[i]?)
    (shP : ∀ i, P i → (∃ ds es, S[i]? = some (.own ds) ∧ S'[i]? = some (.own es)) ∨ (∃ ds es, S[i]? = some (.io ds) ∧ S'[i]? = some (.io es)))
    (e : ∀ a o, H a = some o → (∀ i, P i → ow i ≠ some a) → H' a = some o)
    (nw : ∀ i es a, P i → own? S'[i]? = some es → ow i = some a → ∃ vs, H' a = some (.lst vs) ∧ RDs K (av C ow) H' vs es) : Rl K C ow S' σ H' ∧ Ext (av C ow) H H' := by
  have x : Ext (av C ow) H H' := fun a o n h => e a o h fun i _ z => n (.inr ⟨i, z⟩)
  have tr : ∀ i, P i → ∀ a, ow i = some a → ∃ o, H' a = some o := fun i hi a h => by
    rcases shP i hi with ⟨ds, es, _, h2⟩ | ⟨ds, es, _, h2⟩
    · obtain ⟨vs, h3, _⟩ := nw i es a hi (by rw [h2]; rfl) h
      exact ⟨_, h3⟩
    · obtain ⟨vs, h3, _⟩ := nw i es a hi (by rw [h2]; rfl) h
      exact ⟨_, h3⟩
  have nP : ∀ i, P i → nn S[i]? = true ∧ nn S'[i]? = true := fun i hi => by
    rcases shP i hi with ⟨ds, es, h1, h2⟩ | ⟨ds, es, h1, h2⟩ <;> rw [h1, h2] <;> exact ⟨rfl, rfl⟩
  have nE : ∀ (i : Nat) dss, S'[i]? = some (.nst dss) ↔ S[i]? = some (.nst dss) := fun i dss => by
    by_cases hi : P i
    · obtain ⟨h1, h2⟩ := nP i hi
      constructor
      · intro z; rw [z] at h2; cases h2
      · intro z; rw [z] at h1; cases h1
    · rw [sh i hi]
  have nA : ∀ i j, P i → NstAt S j → j ≠ i := fun i j hi q => q.ne (nP i hi).1 (by
    have : i < S.length := by
      rcases shP i hi with ⟨ds, es, h1, h2⟩ | ⟨ds, es, h1, h2⟩ <;> exact (List.getElem?_eq_some_iff.mp h1).1
    have := r.ns.big
    omega)
  refine ⟨⟨hlen.trans r.len, fun i d h => ?_, fun i ds h => ?_, fun i a h => ?_, r.inj, fun i ds a h1 h2 => ?_, fun i ds h => ?_, fun i a h => ?_, fun a h => ?_, fun a o h1 h2 => ?_, r.ns.move (by rw [hlen]; exact r.ns.big) (fun j d q => (nE j d).mp q) (fun _ _ => rfl) (fun _ _ _ _ => rfl) (fun j a o q e1 e2 => e a o e2 fun i hi z => nA i j hi q (r.inj j i a e1 z)) (fun ws ds q => RDs.mono x (Grow.refl _ _) ds ws q) (fun _ _ _ _ z => z)⟩, x⟩
  · by_cases hi : P i
    · rcases shP i hi with ⟨ds, es, _, h2⟩ | ⟨ds, es, _, h2⟩ <;> rw [h2] at h <;> cases h
    · rw [sh i hi] at h
      obtain ⟨v, h1, h2⟩ := r.val i d h
      exact ⟨v, h1, RD.mono x (Grow.refl _ _) d v h2⟩
  · by_cases hi : P i
    · have : ∃ es, own? S[i]? = some es := by
        rcases shP i hi with ⟨ds, es, h1, _⟩ | ⟨ds, es, h1, _⟩ <;> exact ⟨ds, by rw [h1]; rfl⟩
      obtain ⟨es, h1⟩ := this
      obtain ⟨a, vs, h2, h3, h4, h5⟩ := r.own i es h1
      obtain ⟨ws, h6, h7⟩ := nw i ds a hi h h2
      exact ⟨a, ws, h2, h3, h6, h7⟩
    · rw [sh i hi] at h
      obtain ⟨a, vs, h2, h3, h4, h5⟩ := r.own i ds h
      refine ⟨a, vs, h2, h3, e a _ h4 fun j hj z => hi ?_, RDs.mono x (Grow.refl _ _) ds vs h5⟩
      rw [r.inj i j a h2 z]
      exact hj
  · by_cases hi : P i
    · rcases shP i hi with ⟨ds, es, _, h2⟩ | ⟨ds, es, _, h2⟩ <;> exact .inl ⟨es, by rw [h2]; rfl⟩
    · rw [sh i hi]
      exact (r.ows i a h).imp id fun z => z.of fun j d q => (nE j d).mpr q
  · by_cases hi : P i
    · rcases shP i hi with ⟨es, fs, h3, h4⟩ | ⟨es, fs, h3, h4⟩
      · exact r.frs i es a h3 h2
      · rw [h4] at h1; cases h1
    · rw [sh i hi] at h1
      exact r.frs i ds a h1 h2
  · by_cases hi : P i
    · rcases shP i hi with ⟨es, fs, h3, h4⟩ | ⟨es, fs, h3, h4⟩
      · rw [h4] at h; cases h
      · exact r.ios i es h3
    · rw [sh i hi] at h
      exact r.ios i ds h
  · obtain ⟨h1, ds, h2⟩ := r.iok i a h
    refine ⟨h1, ?_⟩
    by_cases hi : P i
    · rcases shP i hi with ⟨es, fs, h3, h4⟩ | ⟨es, fs, h3, h4⟩
      · rw [h3] at h2; cases h2
      · exact ⟨fs, h4⟩
    · exact ⟨ds, by rw [sh i hi]; exact h2⟩
  · obtain ⟨o, h1⟩ := r.trk a h
    by_cases hp : ∃ i, P i ∧ ow i = some a
    · obtain ⟨i, hi, z⟩ := hp
      exact tr i hi a z
    · exact ⟨o, e a o h1 fun i hi z => hp ⟨i, hi, z⟩⟩
  · refine e a o (r.ext a o h1 h2) fun i hi z => ?_
    rcases shP i hi with ⟨es, fs, h3, h4⟩ | ⟨es, fs, h3, h4⟩
    · rw [(r.frs i es a h3 z).1] at h1; cases h1
    · exact h2 i ((r.ios i es h3).trans z)
end
def upL (i : Nat) (es : List PyData) (S : En) : En := match S[i]? with
  | some (.own _) => S.set i (.own es)
  | some (.io _) => S.set i (.io es)
  | _ => S
section
variable {K : PySem.W.Frag} {C : Cn} {ow : Ow} {S S' : En} {σ : St} {H H' : Hp}
theorem upL_len {i : Nat} {es : List PyData} : (upL i es S).length = S.length := by
  unfold upL
  split
  · exact List.length_set
  · exact List.length_set
  · rfl
theorem upL_ne {i j : Nat} {es : List PyData} (h : j ≠ i) : (upL i es S)[j]? = S[j]? := by
  unfold upL
  split
  · exact List.getElem?_set_ne (Ne.symm h)
  · exact List.getElem?_set_ne (Ne.symm h)
  · rfl
theorem upL_at {i : Nat} {ds es : List PyData} (h : own? S[i]? = some ds) : (∃ ds es', S[i]? = some (.own ds) ∧ (upL i es S)[i]? = some (.own es') ∧ es' = es) ∨ (∃ ds es', S[i]? = some (.io ds) ∧ (upL i es S)[i]? = some (.io es') ∧ es' = es) := by
  unfold upL
  cases e : S[i]? with
  | none => rw [e] at h; cases h
  | some x =>
    have hl : i < S.length := (List.getElem?_eq_some_iff.mp e).1
    cases x with
    | nil => rw [e] at h; cases h
    | val d => rw [e] at h; cases h
    | own d => exact .inl ⟨d, es, rfl, List.getElem?_set_self hl, rfl⟩
    | io d => exact .inr ⟨d, es, rfl, List.getElem?_set_self hl, rfl⟩
    | nst d => rw [e] at h; cases h
    | pair d ds => rw [e] at h; cases h
/-- the list of slot i becomes another -/
theorem Rl.up (r : Rl K C ow S σ H) {i : Nat} {ds es : List PyData} {a : Addr} {vs : List V} (h : own? S[i]? = some ds) (ha : ow i = some a) (rd : RDs K (av C ow) H vs es) :
    Rl K C ow (upL i es S) σ (upd H a (.lst vs)) ∧ Ext (av C ow) H (upd H a (.lst vs)) := by
  have x : Ext (av C ow) H (upd H a (.lst vs)) := fun b o n e => by
    rw [upd_ne (show b ≠ a from fun z => n (by rw [z]; exact .inr ⟨i, ha⟩))]
    exact e
  refine r.after (fun j => j = i) upL_len (fun j hj => upL_ne hj) (fun j hj => ?_) (fun b o e n => ?_) fun j fs b hj e1 e2 => ?_
  · subst hj
    rcases upL_at (es := es) h with ⟨d, e', h1, h2, _⟩ | ⟨d, e', h1, h2, _⟩
    · exact .inl ⟨d, e', h1, h2⟩
    · exact .inr ⟨d, e', h1, h2⟩
  · rw [upd_ne (show b ≠ a from fun z => n i rfl (by rw [z]; exact ha))]
    exact e
  · subst hj
    rw [ha] at e2; cases e2
    refine ⟨vs, upd_same, ?_⟩
    have : fs = es := by
      rcases upL_at (es := es) h with ⟨d, e', h1, h2, h3⟩ | ⟨d, e', h1, h2, h3⟩ <;> rw [h2] at e1 <;> cases e1 <;> exact h3
    rw [this]
    exact RDs.mono x (Grow.refl _ _) es vs rd
end
section
variable {X : Cx} {W : WX} {C : Cn} {pos : Pos} {e c : Expr} {se : SE} {i : Nat}
/-- l.append(e) -/
def sApp (i : Nat) (se : SE) : SE := fun S => (se S).bind fun d S1 => match own? S1[i]? with
  | some ds => if ds.length < sizeLine then .ok .none (upL i (ds ++ [d]) S1) else .no
  | none => .no
theorem t_app {σ : St} {H : Hp} {Q : VK} (h : xE X.K X.mg W C (fun S => if (own? S[i]?).isSome = true then sApp i se S else .no) σ H Q) : tBM X.K "list" rAppend (tVar i) (tCons (xE X.K X.mg W C se) tNil) σ H Q := by
  obtain ⟨ow, S, r, q⟩ := h
  change pst X.K X.mg W C (relE X.K) ow σ H Q (if (own? S[i]?).isSome = true then sApp i se S else .no) at q
  cases e : own? S[i]? with
  | none => rw [e] at q; exact q.elim
  | some ds =>
    rw [e] at q
    obtain ⟨a, vs, h0, h1, h2, h3⟩ := r.own i ds e
    refine ⟨.ref a, h1, .inl ⟨rfl, vs, SqL.of h2⟩, seq early_E r q fun S1 d x H1 r1 x1 rd k1 => ?_⟩
    cases e1 : own? S1[i]? with
    | none => rw [e1] at k1; exact k1.elim
    | some es =>
      rw [e1] at k1
      obtain ⟨b, ws, g0, g1, g2, g3⟩ := r1.own i es e1
      rw [h0] at g0; cases g0
      by_cases z : es.length < sizeLine
      · simp only [if_pos z] at k1
        obtain ⟨r2, x2⟩ := r1.up (es := es ++ [d]) (vs := ws ++ [x]) e1 h0 (g3.append (.cons rd .nil))
        exact ⟨a, ws, x, rfl, rfl, g2, by rw [g3.len]; exact z, k1 _ _ r2 x2 .non⟩
      · simp only [if_neg z] at k1
        exact k1.elim
def sAppend (i : Nat) (se : SE) : SE := fun S => if (own? S[i]?).isSome = true then sApp i se S else .no
theorem e_app (hp : ∀ {t : TE}, PE X e t → PE X c (tBM X.K "list" rAppend (tVar i) (tCons t tNil))) (he : PE X e (xE X.K X.mg W C se)) : PE X c (xE X.K X.mg W C (sAppend i se)) :=
  pe_imp (hp he) fun _ _ _ h => t_app h
/-- l.clear() -/
def sClear (i : Nat) : SE := fun S => match own? S[i]? with
  | some _ => .ok .none (upL i [] S)
  | none => .no
/-- l.pop(e) -/
def popI (ds : List PyData) (d : PyData) : Option (PyData × List PyData) := match d with
  | .int k => if 0 ≤ k ∧ k < ds.length ∧ k < 2 ^ 63 then (ds[k.toNat]?).map fun x => (x, ds.eraseIdx k.toNat) else none
  | _ => none
def sPop (i : Nat) (se : SE) : SE := fun S => if (own? S[i]?).isSome = true then (se S).bind fun d S1 => match own? S1[i]? with
  | some ds => match popI ds d with
    | some (x, es) => .ok x (upL i es S1)
    | none => .no
  | none => .no
  else .no
theorem e_pop (hp : ∀ {t : TE}, PE X e t → PE X c (tBM X.K "list" rPopAt (tVar i) (tCons t tNil))) (he : PE X e (xE X.K X.mg W C se)) : PE X c (xE X.K X.mg W C (sPop i se)) :=
  pe_imp (hp he) fun σ H Q ⟨ow, S, r, q⟩ => by
    change pst X.K X.mg W C (relE X.K) ow σ H Q (sPop i se S) at q
    unfold sPop at q
    cases e : own? S[i]? with
    | none => rw [e] at q; exact q.elim
    | some ds =>
      rw [e] at q
      obtain ⟨a, vs, h0, h1, h2, h3⟩ := r.own i ds e
      refine ⟨.ref a, h1, .inl ⟨rfl, vs, SqL.of h2⟩, seq early_E r q fun S1 d x H1 r1 x1 rd k1 => ?_⟩
      cases e1 : own? S1[i]? with
      | none => rw [e1] at k1; exact k1.elim
      | some es =>
        rw [e1] at k1
        obtain ⟨b, ws, g0, g1, g2, g3⟩ := r1.own i es e1
        rw [h0] at g0; cases g0
        cases rd with
        | int j =>
          change pst X.K X.mg W C (relE X.K) ow σ H1 Q (match popI es (.int j) with | some (x, es) => .ok x (upL i es S1) | none => .no) at k1
          unfold popI at k1
          by_cases z : 0 ≤ j ∧ j < es.length ∧ j < 2 ^ 63
          · simp only [if_pos z] at k1
            have lt : j.toNat < es.length := by omega
            rw [List.getElem?_eq_getElem lt] at k1
            obtain ⟨y, hy, ry⟩ := g3.get (List.getElem?_eq_getElem lt)
            obtain ⟨r2, x2⟩ := r1.up (es := es.eraseIdx j.toNat) (vs := ws.eraseIdx j.toNat) e1 h0 (g3.erase _)
            have hw : ws.length = es.length := g3.len
            exact ⟨a, ws, j, j.toNat, y, rfl, rfl, g2, by omega, z.2.2, (ixN_seq (show ixN ws.length j = some j.toNat by unfold ixN; rw [if_pos z.1, if_pos (by omega)])).1, hy, k1 _ _ r2 x2 (RD.mono x2 (Grow.refl _ _) _ _ ry)⟩
          · simp only [if_neg z] at k1
            exact k1.elim
        | _ => exact k1.elim
end
end Ds
end
section
set_option Elab.async false
set_option linter.all false
set_option maxRecDepth 100000
set_option maxHeartbeats 4000000
namespace Ds
open PySem PySem.Spec PyProof.Rows L2
def argOk (K : PySem.W.Frag) (av : Av) (H : Hp) (v : V) : Sl → Prop
  | .val d => RD K av H v d
  | .io ds => ∃ a vs, v = .ref a ∧ av a ∧ H a = some (.lst vs) ∧ RDs K av H vs ds
  | _ => False
structure Pre (K : PySem.W.Frag) (av : Av) (H : Hp) (vs : List V) (S0 : En) : Prop where
  len : S0.length = vs.length
  arg : ∀ (i : Nat) x, S0[i]? = some x → ∃ v, vs[i]? = some v ∧ argOk K av H v x
  dis : ∀ (i j : Nat) ds es a, S0[i]? = some (.io ds) → S0[j]? = some (.io es) → vs[i]? = some (.ref a) → vs[j]? = some (.ref a) → i = j
  trk : ∀ a, av a → ∃ o, H a = some o
structure Post (K : PySem.W.Frag) (av : Av) (H : Hp) (vs : List V) (S0 S1 : En) (H' : Hp) : Prop where
  ext : ∀ a o, H a = some o → (∀ (i : Nat) ds, S0[i]? = some (.io ds) → vs[i]? ≠ some (.ref a)) → H' a = some o
  io : ∀ (i : Nat) ds, S0[i]? = some (.io ds) → ∃ es, S1[i]? = some (.io es) ∧ ∀ a, vs[i]? = some (.ref a) → ∃ ws, H' a = some (.lst ws) ∧ RDs K av H' ws es
abbrev Mf := En → R Sl
def spG (g : World → Prop) (K : PySem.W.Frag) (mg : Str → Option Value) (m : Mf) (n : Nat) : Sp := fun vs H Q E => vs.length = n ∧ ∃ (av : Av) (S0 : En), g av.w ∧ Pre K av H vs S0 ∧ match m S0 with
  | .ok (.val d) S1 => ∀ v H', Post K av H vs S0 S1 H' → RD K av H' v d → Q v H'
  | .ok (.own ds) S1 => ∀ p ws Hm, Post K av H vs S0 S1 Hm → Hm p = none → RDs K av Hm ws ds → Q (.ref p) (upd Hm p (.lst ws))
  | .ok (.pair d ds) S1 => ∀ q p x ws o Hm, Post K av H vs S0 S1 Hm → Hm p = none → Hm q = none → p ≠ q → RD K av Hm x d → RDs K av Hm ws ds → Q (.ref q) (upd (upd Hm p (.lst ws)) q (.frz o (.tup [x, .ref p])))
  | .ex c S1 => ∀ H', Post K av H vs S0 S1 H' → ∀ d, ExD av.p H' c d → E (clOf mg c.n) d H'
  | _ => False
/-- it does so in every world -/
abbrev spM (K : PySem.W.Frag) (mg : Str → Option Value) (m : Mf) (n : Nat) : Sp := spG (fun _ => True) K mg m n
/-- a body's def -/
def mB (N : Nat) (s : SS) : Mf := fun S0 => match s (S0 ++ List.replicate (N - S0.length) .nil) with
  | .rt r S => .ok r S
  | .nx S => .ok (.val .none) S
  | .ex c S => .ex c S
  | _ => .no
section
variable {P : Program} {w : World} {K : PySem.W.Frag} {mg : Str → Option Value} {base : Heap}
def ioOf (S0 : En) (vs : List V) : Ow := fun i => match S0[i]?, vs[i]? with
  | some (.io _), some (.ref a) => some a
  | _, _ => none
theorem ioOf_some {S0 : En} {vs : List V} {i : Nat} {a : Addr} (h : ioOf S0 vs i = some a) : ∃ ds, S0[i]? = some (.io ds) ∧ vs[i]? = some (.ref a) := by
  unfold ioOf at h
  split at h
  · rename_i ds b e1 e2
    cases h
    exact ⟨ds, e1, e2⟩
  · cases h
theorem ioOf_mk {S0 : En} {vs : List V} {i : Nat} {a : Addr} {ds : List PyData} (h : S0[i]? = some (.io ds)) (h2 : vs[i]? = some (.ref a)) : ioOf S0 vs i = some a := by
  unfold ioOf
  rw [h, h2]
theorem start_get {N : List Str} {vs : List V} {i : Nat} {v : V} (h : vs[i]? = some v) : (L2.start N vs)[i]? = some (some v) := by
  have hl := (List.getElem?_eq_some_iff.mp h).1
  unfold L2.start
  rw [List.getElem?_append_left (by rw [List.length_map]; exact hl), List.getElem?_map, h]
  rfl
/-- the state at a def's entry -/
theorem Pre.start {av' : Av} {H : Hp} {vs : List V} {S0 : En} {N : List Str} (p : Pre K av' H vs S0) (hN : vs.length ≤ N.length) (hb : N.length ≤ 4096) :
    Rl K ⟨av'.p, H, ioOf S0 vs, av'.w⟩ (ioOf S0 vs) (S0 ++ List.replicate (N.length - S0.length) .nil) (L2.start N vs) H := by
  have hl := p.len
  have ga : ∀ {i : Nat} {x : Sl}, (S0 ++ List.replicate (N.length - S0.length) .nil)[i]? = some x → x = .nil ∨ S0[i]? = some x := fun {i x} h => by
    by_cases hi : i < S0.length
    · rw [List.getElem?_append_left hi] at h
      exact .inr h
    · rw [List.getElem?_append_right (Nat.le_of_not_lt hi)] at h
      exact .inl (List.eq_of_mem_replicate (List.mem_of_getElem? h))
  have gb : ∀ {i : Nat} {x : Sl}, S0[i]? = some x → (S0 ++ List.replicate (N.length - S0.length) .nil)[i]? = some x := fun {i x} h => by
    rw [List.getElem?_append_left (List.getElem?_eq_some_iff.mp h).1]
    exact h
  have lt : ∀ a, av ⟨av'.p, H, ioOf S0 vs, av'.w⟩ (ioOf S0 vs) a → av' a := fun a z => by
    rcases z with z | ⟨i, z⟩
    · exact z
    · obtain ⟨ds, h1, h2⟩ := ioOf_some z
      obtain ⟨v, h3, b, ws, h4, h5, _⟩ := p.arg i _ h1
      rw [h2] at h3; cases h3; cases h4
      exact h5
  have nn0 : ∀ (i : Nat) (dss : Nst), (S0 ++ List.replicate (N.length - S0.length) .nil)[i]? ≠ some (.nst dss) := fun i dss h => by
    rcases ga h with z | z
    · cases z
    · obtain ⟨v, _, h2⟩ := p.arg i _ z
      exact h2.elim
  refine ⟨?_, fun i d h => ?_, fun i ds h => ?_, fun i a h => ?_, fun i j a h1 h2 => ?_, fun i ds a h1 _ => ?_, fun i ds h => rfl, fun i a h => ?_, p.trk, fun a o h _ => h, ⟨by rw [List.length_append, List.length_replicate]; omega, fun i dss h => absurd h (nn0 i _), fun i kvs h => absurd h (nn0 i _), fun i kvs h => absurd h (nn0 i _), fun i a h => ?_⟩⟩
  · unfold L2.start
    rw [List.length_append, List.length_append, List.length_replicate, List.length_map, List.length_replicate]
    omega
  · rcases ga h with z | z
    · cases z
    · obtain ⟨v, h1, h2⟩ := p.arg i _ z
      exact ⟨v, start_get h1, rd_less h2 lt⟩
  · have : ∃ es, (S0 ++ List.replicate (N.length - S0.length) .nil)[i]? = some (.io es) ∧ es = ds := by
      cases e : (S0 ++ List.replicate (N.length - S0.length) .nil)[i]? with
      | none => rw [e] at h; cases h
      | some x =>
        rw [e] at h
        cases x with
        | nil => cases h
        | val d => cases h
        | own d =>
          rcases ga e with z | z
          · cases z
          · obtain ⟨v, _, h2⟩ := p.arg i _ z
            exact h2.elim
        | io d => exact ⟨d, rfl, by cases h; rfl⟩
        | nst d => cases h
        | pair d ds => cases h
    obtain ⟨es, e, z⟩ := this
    subst z
    rcases ga e with z | z
    · cases z
    · obtain ⟨v, h1, b, ws, h4, h5, h6, h7⟩ := p.arg i _ z
      subst h4
      exact ⟨b, ws, ioOf_mk z h1, start_get h1, h6, rds_less h7 lt⟩
  · obtain ⟨ds, h1, h2⟩ := ioOf_some h
    exact .inl ⟨ds, by rw [gb h1]; rfl⟩
  · obtain ⟨ds, e1, e2⟩ := ioOf_some h1
    obtain ⟨es, e3, e4⟩ := ioOf_some h2
    exact p.dis i j ds es a e1 e3 e2 e4
  · rcases ga h1 with z | z
    · cases z
    · obtain ⟨v, _, h2⟩ := p.arg i _ z
      exact h2.elim
  · obtain ⟨ds, h1, h2⟩ := ioOf_some h
    refine ⟨?_, ds, gb h1⟩
    obtain ⟨v, h3, b, ws, h4, h5, _⟩ := p.arg i _ h1
    rw [h2] at h3; cases h3; cases h4
    exact h5
  · rcases h with ⟨d, h⟩ | ⟨m, k, d, _, h, _⟩
    · exact absurd h (nn0 i d)
    · exact absurd h (nn0 m _)
/-- what is true behind the body -/
theorem Pre.post {av' : Av} {H H' : Hp} {vs : List V} {S0 S' : En} {σ' : St} {ow' : Ow} (p : Pre K av' H vs S0) (r : Rl K ⟨av'.p, H, ioOf S0 vs, av'.w⟩ ow' S' σ' H') : Post K av' H vs S0 S' H' := by
  refine ⟨fun a o h n => r.ext a o h fun i z => ?_, fun i ds h => ?_⟩
  · obtain ⟨ds, h1, h2⟩ := ioOf_some z
    exact n i ds h1 h2
  · obtain ⟨v, h3, b, ws, h4, h5, _⟩ := p.arg i _ h
    subst h4
    have hio := ioOf_mk h h3
    obtain ⟨_, es, h6⟩ := r.iok i b hio
    refine ⟨es, h6, fun a ha => ?_⟩
    rw [h3] at ha; cases ha
    obtain ⟨c, us, g1, g2, g3, g4⟩ := r.own i es (by rw [h6]; rfl)
    have e : c = b := by
      have z := r.ios i es h6
      rw [g1] at z
      exact Option.some.inj (z.symm.trans hio)
    subst e
    exact ⟨us, g3, rds_less g4 fun a z => .inl z⟩
/-- the promise of a def, where nothing is being shown around it -/
structure FnG (P : Program) (w : World) (K : PySem.W.Frag) (mg : Str → Option Value) (base : Heap) (k : Nat) (f : Addr) (fd : FuncData) (ps : List Str) (sp : Sp) : Prop where
  len : ∀ vs H Q E, sp vs H Q E → vs.length = ps.length
  run : ∀ (A : Around) (outer : List Env) (s : Shared) (H : Hp) (args : Args) (us : List Value) (vs : List V) (Q : VK) (E : XK), A.guards = some [] → Room k A → Env0 P w K mg base A outer s H → BindsTo s fd args (ps.zip us) → Vals vs us → sp vs H Q E →
    codeAny (model P w) A (.call (.ref f) args) (CR (L2N.CX P w) outer P w H s Q E) s
theorem FnG.mono {j k : Nat} {f : Addr} {fd : FuncData} {ps : List Str} {sp : Sp} (F : FnG P w K mg base j f fd ps sp) (h : j ≤ k) : FnG P w K mg base k f fd ps sp :=
  ⟨F.len, fun A outer s H args us vs Q E g r => F.run A outer s H args us vs Q E g (r.mono h)⟩
/-- by its body -/
theorem fn_byBody {x qual : Str} {st : Stmt} {f : Addr} {fd : FuncData} {N ps : List Str} {k : Nat} {sp : Sp} (F : Fun K x qual st f fd) (S : FnScope N ps (defScope st)) (len : ∀ vs H Q E, sp vs H Q E → vs.length = ps.length)
    (hbody : ∀ (cdv : Value) (A : Around) (outer : List Env) (s : Shared) (H : Hp) (vs : List V) (Q : VK) (E : XK), A.guards = some [] → Room k (A.deeper (envOfC qual (defScope st) s.heap.objs.size f cdv)) → sp vs H Q E →
      ∃ t, PSs (cxOf (L2N.CX P w) P w K mg base N qual (defScope st) f cdv A outer s H E) (defBody st) t ∧ t { nx := fun _ H' => Q .non H', rt := Q } (L2.start N vs) H) : FnG P w K mg base (k + 1) f fd ps sp := by
  obtain ⟨oc, od, kV, doc, pm, an, cdv, ct, osl, rfl, lk, hcd⟩ := F.ex
  refine ⟨len, fun A outer s H args us vs Q E gd hr e0 hbt rv hsp => ?_⟩
  have hl := len _ _ _ _ hsp
  have up : ∀ b o, base.get? b = some o → s.heap.get? b = some o := fun b o e => (e0.bs b o e).1
  have KX : K.In s.heap := e0.mod.kin.keeps up
  have lim : s.heap.NoLimit := e0.mod.nolimit.keeps up
  refine codeAny_call_function hr.depth (KX _ _ lk) rfl S.co S.gen rfl (PySem.W.codeRec_of KX hcd) (hbt _ _ _ _ ?_)
  refine wpAny_newFunctionEnv_cells S.kind (fun ⟨n, v⟩ hy => (S.par n (List.of_mem_zip hy).1).imp id fun q => ⟨q, PySem.W.cellsFrom_some _ _ _ (.inl q)⟩) fun env he s1 xs => ?_
  subst he
  refine ⟨lim.keeps xs.toInCall.keep, codeAny_func ?_⟩
  obtain ⟨t, ht, hq⟩ := hbody cdv A outer s H vs Q E gd (hr.deeper _) hsp
  have I := inv_start (CX := L2N.CX P w) (E := E) S hr.hd e0 hl rv xs
  refine wpAny_mono (ht.run [] s1 (L2.start N vs) H _ I hq) (fun fl s' hs => ?_) fun e s' hs => hs
  cases fl with
  | ret u => exact let ⟨v, σ', H', J, rr, q⟩ := hs; ⟨v, H', J.os, J.bare, J.base, J.hok, rr, q⟩
  | next => exact let ⟨σ', H', J, q⟩ := hs; ⟨V.non, H', J.os, J.bare, J.base, J.hok, rfl, q⟩
  | brk => exact let ⟨_, _, _, q⟩ := hs; q.elim
  | cont => exact let ⟨_, _, _, q⟩ := hs; q.elim
theorem fn_okG {gw : World → Prop} {x qual : Str} {st : Stmt} {f : Addr} {fd : FuncData} {N ps : List Str} {k : Nat} {s : SS} (F : Fun K x qual st f fd) (S : FnScope N ps (defScope st))
    (hb : ∀ (cdv : Value) (A : Around) (outer : List Env) (sh : Shared) (H : Hp) (E : XK) (C : Cn), gw C.w → A.guards = some [] → Room k (A.deeper (envOfC qual (defScope st) sh.heap.objs.size f cdv)) →
      PSs (cxOf (L2N.CX P w) P w K mg base N qual (defScope st) f cdv A outer sh H E) (defBody st) (xS K mg (fun cls d _ H => E cls d H) C s)) (hbig : N.length ≤ 4096 := by decide) :
    FnG P w K mg base (k + 1) f fd ps (spG gw K mg (mB N.length s) ps.length) := by
  have hN : ps.length ≤ N.length := by
    have := S.pre
    rw [← this, List.length_take]
    exact Nat.min_le_right _ _
  refine fn_byBody F S (fun vs H Q E h => h.1) fun cdv A outer sh H vs Q E gd hr h => ?_
  obtain ⟨hl, av', S0, hgw, p, h⟩ := h
  refine ⟨_, hb cdv A outer sh H E ⟨av'.p, H, ioOf S0 vs, av'.w⟩ hgw gd hr, ioOf S0 vs, _, p.start (by rw [hl]; exact hN) hbig, ?_⟩
  unfold mB at h
  cases e : s (S0 ++ List.replicate (N.length - S0.length) .nil) with
  | nx S' =>
    rw [e] at h
    exact fun ow' σ' H' r _ _ => h .non H' (p.post r) .non
  | rt d S' =>
    rw [e] at h
    cases d with
    | val d => exact fun ow' σ' v H' r _ _ rd => h v H' (p.post r) (rd_less rd fun a z => .inl z)
    | own ds =>
      intro ow' σ' v H' r _ _ rd
      obtain ⟨q, ws, Hm, ow2, S2, h1, h2, h3, h4, h5, h6, h7, h8⟩ := rd
      subst h1
      subst h5
      refine h q ws Hm ⟨(p.post h7).ext, fun i ds' hi => ?_⟩ h4 (rds_less h6 fun a z => .inl z)
      obtain ⟨es, g1, g2⟩ := (p.post h7).io i ds' hi
      obtain ⟨fs, g3, _⟩ := (p.post r).io i ds' hi
      have := h8 i fs g3
      rw [g1] at this
      cases this
      exact ⟨es, g3, g2⟩
    | pair d ds =>
      intro ow' σ' v H' r _ _ rd
      obtain ⟨q, b, x, ws, o, Hm, ow2, S2, h1, h2, h3, h4, h4b, h4c, h5, h6a, h6, h7, h8⟩ := rd
      subst h1
      subst h5
      refine h q b x ws o Hm ⟨(p.post h7).ext, fun i ds' hi => ?_⟩ h4 h4b h4c (rd_less h6a fun a z => .inl z) (rds_less h6 fun a z => .inl z)
      obtain ⟨es, g1, g2⟩ := (p.post h7).io i ds' hi
      obtain ⟨fs, g3, _⟩ := (p.post r).io i ds' hi
      have := h8 i fs g3
      rw [g1] at this
      cases this
      exact ⟨es, g3, g2⟩
    | nil => exact h.elim
    | io ds => exact h.elim
    | nst ds => exact h.elim
  | bk S' => rw [e] at h; exact h.elim
  | ct S' => rw [e] at h; exact h.elim
  | ex c S' =>
    rw [e] at h
    exact fun ow' σ' H' r _ _ => h H' (p.post r)
  | no => rw [e] at h; exact h.elim
theorem fn_ok {x qual : Str} {st : Stmt} {f : Addr} {fd : FuncData} {N ps : List Str} {k : Nat} {s : SS} (F : Fun K x qual st f fd) (S : FnScope N ps (defScope st))
    (hb : ∀ (cdv : Value) (A : Around) (outer : List Env) (sh : Shared) (H : Hp) (E : XK) (C : Cn), A.guards = some [] → Room k (A.deeper (envOfC qual (defScope st) sh.heap.objs.size f cdv)) →
      PSs (cxOf (L2N.CX P w) P w K mg base N qual (defScope st) f cdv A outer sh H E) (defBody st) (xS K mg (fun cls d _ H => E cls d H) C s)) (hbig : N.length ≤ 4096 := by decide) :
    FnG P w K mg base (k + 1) f fd ps (spM K mg (mB N.length s) ps.length) := fn_okG F S (fun cdv A outer sh H E C _ => hb cdv A outer sh H E C) hbig
end
inductive Ag where
  | v (d : PyData)
  /-- the list of this slot, to be changed -/
  | r (i : Nat)
abbrev SG := En → R (List Ag)
def relG (K : PySem.W.Frag) : Rel (List V) (List Ag) := fun C ow σ S' H H' vs gs => vs.length = gs.length ∧ ∀ (i : Nat) g, gs[i]? = some g → ∃ v, vs[i]? = some v ∧ match g with
  | .v d => RD K (av C ow) H' v d
  | .r j => ∃ a, v = .ref a ∧ ow j = some a
theorem early_G {K : PySem.W.Frag} : Early K (relG K) := fun _ _ _ _ _ _ _ _ _ _ _ _ _ _ h => h
abbrev xAg (K : PySem.W.Frag) (mg : Str → Option Value) (W : WX) (C : Cn) (s : SG) : TA := xG K mg W C (relG K) s
section
variable {X : Cx} {W : WX} {C : Cn} {pos : Pos} {e : Expr} {es : List Expr} {se : SE} {sg : SG} {i : Nat}
def sG0 : SG := fun S => .ok [] S
def sGv (se : SE) (sg : SG) : SG := fun S => (se S).bind fun d S1 => (sg S1).bind fun gs S2 => .ok (.v d :: gs) S2
def sGr (i : Nat) (sg : SG) : SG := fun S => if (own? S[i]?).isSome = true then (sg S).bind fun gs S2 => .ok (.r i :: gs) S2 else .no
theorem g_nil : PA X [] (xAg X.K X.mg W C sG0) := pa_imp pa_nil fun σ H Q ⟨ow, S, rl, q⟩ => pst_ok (mg := X.mg) (W := W) (rel := relG X.K) (d := []) rl q ⟨rfl, fun i g h => by simp at h⟩
theorem g_val (ha : PE X e (xE X.K X.mg W C se)) (hr : PA X es (xAg X.K X.mg W C sg)) (hs : starEach (e :: es) X.env = (false, eval e X.env) :: starEach es X.env := by rfl) : PA X (e :: es) (xAg X.K X.mg W C (sGv se sg)) :=
  pa_imp (pa_cons ha hr hs) fun σ H Q ⟨ow, S, rl, q⟩ => seq early_G rl q fun S1 d x H1 r1 x1 rd k1 => seq early_G r1 k1 fun S2 gs vs H2 r2 x2 rg k2 => pst_ok r2 k2 (by
    refine ⟨by rw [List.length_cons, List.length_cons, rg.1], fun i g h => ?_⟩
    cases i with
    | zero =>
      obtain rfl : Ag.v d = g := by simpa using h
      exact ⟨x, rfl, RD.mono x2 (Grow.refl _ _) d x rd⟩
    | succ i => exact rg.2 i g (by simpa using h))
theorem g_ref (ha : PE X e (tVar i)) (hr : PA X es (xAg X.K X.mg W C sg)) (hs : starEach (e :: es) X.env = (false, eval e X.env) :: starEach es X.env := by rfl) : PA X (e :: es) (xAg X.K X.mg W C (sGr i sg)) :=
  pa_imp (pa_cons ha hr hs) fun σ H Q ⟨ow, S, rl, q⟩ => by
    change pst X.K X.mg W C (relG X.K) ow σ H Q (sGr i sg S) at q
    unfold sGr at q
    cases e : own? S[i]? with
    | none => rw [e] at q; exact q.elim
    | some ds =>
      rw [e] at q
      obtain ⟨a, vs, h0, h1, h2, h3⟩ := rl.own i ds e
      refine ⟨.ref a, h1, seq early_G rl q fun S2 gs vs H2 r2 x2 rg k2 => pst_ok r2 k2 ?_⟩
      refine ⟨by rw [List.length_cons, List.length_cons, rg.1], fun j g h => ?_⟩
      cases j with
      | zero =>
        obtain rfl : Ag.r i = g := by simpa using h
        exact ⟨.ref a, rfl, a, rfl, h0⟩
      | succ j => exact rg.2 j g (by simpa using h)
/-- the callee's slots -/
def toSl (S : En) : Ag → Option Sl
  | .v d => some (.val d)
  | .r i => (own? S[i]?).map .io
def refs (gs : List Ag) : List Nat := gs.filterMap fun g => match g with
  | .r i => some i
  | _ => none
def toSls (S : En) : List Ag → Option En
  | [] => some []
  | g :: gs => match toSl S g, toSls S gs with
    | some x, some r => some (x :: r)
    | _, _ => none
def argS (S : En) (gs : List Ag) : Option En := if (refs gs).Nodup then toSls S gs else none
theorem toSls_get {S : En} : ∀ {gs : List Ag} {S0 : En}, toSls S gs = some S0 → S0.length = gs.length ∧ ∀ (k : Nat) x, S0[k]? = some x → ∃ g, gs[k]? = some g ∧ toSl S g = some x
  | [], S0, h => by
    cases h
    exact ⟨rfl, fun k x e => by simp at e⟩
  | g :: gs, S0, h => by
    unfold toSls at h
    split at h
    · rename_i x r e1 e2
      cases h
      obtain ⟨h1, h2⟩ := toSls_get e2
      refine ⟨by rw [List.length_cons, List.length_cons, h1], fun k y e => ?_⟩
      cases k with
      | zero =>
        obtain rfl : x = y := by simpa using e
        exact ⟨g, rfl, e1⟩
      | succ k =>
        obtain ⟨g', h3, h4⟩ := h2 k y (by simpa using e)
        exact ⟨g', by simpa using h3, h4⟩
    · cases h
theorem mem_refs {gs : List Ag} {i : Nat} : i ∈ refs gs ↔ Ag.r i ∈ gs := by
  unfold refs
  rw [List.mem_filterMap]
  constructor
  · rintro ⟨g, h1, h2⟩
    cases g with
    | v d => cases h2
    | r j => cases h2; exact h1
  · exact fun h => ⟨.r i, h, rfl⟩
theorem refs_at {gs : List Ag} {i : Nat} (hn : (refs gs).Nodup) : ∀ (j k : Nat), gs[j]? = some (.r i) → gs[k]? = some (.r i) → j = k := by
  induction gs with
  | nil => intro j k h; simp at h
  | cons g gs ih =>
    intro j k h1 h2
    have tail : (refs gs).Nodup := by
      cases g with
      | v d => exact hn
      | r m => exact (List.nodup_cons.mp (show (m :: refs gs).Nodup from hn)).2
    have head : g = .r i → Ag.r i ∉ gs := fun e z => by
      subst e
      exact (List.nodup_cons.mp (show (i :: refs gs).Nodup from hn)).1 (mem_refs.mpr z)
    cases j with
    | zero =>
      cases k with
      | zero => rfl
      | succ k => exact absurd (List.mem_of_getElem? (by simpa using h2)) (head (by simpa using h1))
    | succ j =>
      cases k with
      | zero => exact absurd (List.mem_of_getElem? (by simpa using h1)) (head (by simpa using h2))
      | succ k => rw [ih tail j k (by simpa using h1) (by simpa using h2)]
/-- the lists come back -/
def back : List Ag → En → En → En
  | .r i :: gs, .io es :: T, S => back gs T (upL i es S)
  | _ :: gs, _ :: T, S => back gs T S
  | _, _, S => S
theorem back_spec : ∀ (gs : List Ag) (T S : En), (refs gs).Nodup → (back gs T S).length = S.length ∧ (∀ j, j ∉ refs gs → (back gs T S)[j]? = S[j]?) ∧
    ∀ (k i : Nat) es, gs[k]? = some (.r i) → T[k]? = some (.io es) → (∃ ds, own? S[i]? = some ds) → (∃ ds, S[i]? = some (.own ds) ∧ (back gs T S)[i]? = some (.own es)) ∨ (∃ ds, S[i]? = some (.io ds) ∧ (back gs T S)[i]? = some (.io es))
  | [], T, S, _ => ⟨rfl, fun _ _ => rfl, fun k i es h => by simp at h⟩
  | g :: gs, [], S, _ => by
    have e : back (g :: gs) [] S = S := by cases g <;> rfl
    rw [e]
    exact ⟨rfl, fun _ _ => rfl, fun k i es _ h => by simp at h⟩
  | .v d :: gs, x :: T, S, hn => by
    obtain ⟨h1, h2, h3⟩ := back_spec gs T S hn
    have e : back (.v d :: gs) (x :: T) S = back gs T S := by cases x <;> rfl
    rw [e]
    refine ⟨h1, h2, fun k i es e1 e2 => ?_⟩
    cases k with
    | zero => simp at e1
    | succ k => exact h3 k i es (by simpa using e1) (by simpa using e2)
  | .r j :: gs, x :: T, S, hn => by
    have hn' := List.nodup_cons.mp (show (j :: refs gs).Nodup from hn)
    by_cases hx : ∃ fs, x = .io fs
    · obtain ⟨fs, rfl⟩ := hx
      obtain ⟨h1, h2, h3⟩ := back_spec gs T (upL j fs S) hn'.2
      show (back gs T (upL j fs S)).length = S.length ∧ (∀ i, i ∉ j :: refs gs → (back gs T (upL j fs S))[i]? = S[i]?) ∧ _
      refine ⟨h1.trans upL_len, fun i hi => ?_, fun k i es e1 e2 e3 => ?_⟩
      · rw [h2 i fun z => hi (List.mem_cons_of_mem _ z), upL_ne fun z => hi (by rw [z]; exact List.mem_cons_self)]
      · cases k with
        | zero =>
          obtain rfl : j = i := by simpa using e1
          obtain rfl : fs = es := by simpa using e2
          obtain ⟨ds, e3⟩ := e3
          have e4 := h2 j hn'.1
          rcases upL_at (es := fs) e3 with ⟨d, f, g1, g2, g3⟩ | ⟨d, f, g1, g2, g3⟩
          · subst g3
            exact .inl ⟨d, g1, e4.trans g2⟩
          · subst g3
            exact .inr ⟨d, g1, e4.trans g2⟩
        | succ k =>
          have e1' : gs[k]? = some (.r i) := by simpa using e1
          have ne : i ≠ j := fun z => hn'.1 (by rw [← z]; exact mem_refs.mpr (List.mem_of_getElem? e1'))
          have := h3 k i es e1' (by simpa using e2) (by rw [upL_ne ne]; exact e3)
          rw [upL_ne ne] at this
          exact this
    · have e : back (.r j :: gs) (x :: T) S = back gs T S := by
        cases x with
        | io fs => exact absurd ⟨fs, rfl⟩ hx
        | _ => rfl
      obtain ⟨h1, h2, h3⟩ := back_spec gs T S hn'.2
      rw [e]
      refine ⟨h1, fun i hi => h2 i fun z => hi (List.mem_cons_of_mem _ z), fun k i es e1 e2 => ?_⟩
      cases k with
      | zero => exact absurd ⟨es, by simpa using e2⟩ hx
      | succ k => exact h3 k i es (by simpa using e1) (by simpa using e2)
def sCall (m : Mf) (sg : SG) (S : En) : R Sl := (sg S).bind fun gs S1 => match argS S1 gs with
  | none => .no
  | some S0 => match m S0 with
    | .ok d T => .ok d (back gs T S1)
    | .ex c T => .ex c (back gs T S1)
    | .no => .no
def asV (x : Sl) : Option PyData := match x with
  | .val d => some d
  | _ => none
def asN (x : Sl) : Option (List PyData) := match x with
  | .own ds => some ds
  | _ => none
theorem asV_some {x : Sl} {d : PyData} (h : asV x = some d) : x = .val d := by
  match x, h with
  | .val _, h => cases h; rfl
theorem asN_some {x : Sl} {d : List PyData} (h : asN x = some d) : x = .own d := by
  match x, h with
  | .own _, h => cases h; rfl
section
variable {K : PySem.W.Frag} {ow : Ow} {S S0 T : En} {σ : St} {H H' : Hp} {gs : List Ag} {vs : List V}
theorem toSl_io {g : Ag} {ds : List PyData} (h : toSl S g = some (.io ds)) : ∃ i, g = .r i ∧ own? S[i]? = some ds := by
  cases g with
  | v d => cases h
  | r i =>
    refine ⟨i, rfl, ?_⟩
    change (own? S[i]?).map Sl.io = some (.io ds) at h
    cases e : own? S[i]? with
    | none => rw [e] at h; cases h
    | some es => rw [e] at h; cases h; rfl
theorem Rl.pre (r : Rl K C ow S σ H) (rg : relG K C ow σ S H H vs gs) (h : argS S gs = some S0) : (refs gs).Nodup ∧ Pre K (av C ow) H vs S0 := by
  unfold argS at h
  by_cases hn : (refs gs).Nodup
  · rw [if_pos hn] at h
    obtain ⟨h1, h2⟩ := toSls_get h
    refine ⟨hn, h1.trans rg.1.symm, fun i x e => ?_, fun i j ds es a e1 e2 e3 e4 => ?_, r.tracked⟩
    · obtain ⟨g, e1, e2⟩ := h2 i x e
      obtain ⟨v, e3, e4⟩ := rg.2 i g e1
      refine ⟨v, e3, ?_⟩
      cases g with
      | v d => cases e2; exact e4
      | r j =>
        obtain ⟨a, e5, e6⟩ := e4
        subst e5
        change (own? S[j]?).map Sl.io = some x at e2
        cases e7 : own? S[j]? with
        | none => rw [e7] at e2; cases e2
        | some ds =>
          rw [e7] at e2
          cases e2
          obtain ⟨b, ws, f1, f2, f3, f4⟩ := r.own j ds e7
          rw [e6] at f1; cases f1
          exact ⟨a, ws, rfl, .inr ⟨j, e6⟩, f3, f4⟩
    · obtain ⟨g1, f1, f2⟩ := h2 i _ e1
      obtain ⟨g2, f3, f4⟩ := h2 j _ e2
      obtain ⟨m, rfl, _⟩ := toSl_io f2
      obtain ⟨n, rfl, _⟩ := toSl_io f4
      obtain ⟨v1, k1, b, k2, k3⟩ := rg.2 i _ f1
      obtain ⟨v2, k4, c, k5, k6⟩ := rg.2 j _ f3
      subst k2
      subst k5
      rw [e3] at k1
      rw [e4] at k4
      cases k1
      cases k4
      have emn := r.inj m n a k3 k6
      subst emn
      exact refs_at hn i j f1 f3
  · rw [if_neg hn] at h
    cases h
theorem Rl.back (r : Rl K C ow S σ H) (rg : relG K C ow σ S H H vs gs) (h : argS S gs = some S0) (p : Post K (av C ow) H vs S0 T H') : Rl K C ow (back gs T S) σ H' ∧ Ext (av C ow) H H' := by
  obtain ⟨hn, _⟩ := r.pre rg h
  unfold argS at h
  rw [if_pos hn] at h
  obtain ⟨g1, g2⟩ := toSls_get h
  obtain ⟨b1, b2, b3⟩ := back_spec gs T S hn
  -- a handed list: its place among the arguments, its slot, what came back
  have gown : ∀ (k i : Nat) {x : Sl}, toSl S (.r i) = some x → ∃ ds, own? S[i]? = some ds := fun k i x e => by
    change (own? S[i]?).map Sl.io = some x at e
    cases q : own? S[i]? with
    | none => rw [q] at e; cases e
    | some ds => exact ⟨ds, rfl⟩
  have look : ∀ i, i ∈ refs gs → ∃ (k : Nat) (ds : List PyData) (a : Addr) (es : List PyData) (ws : List V), gs[k]? = some (.r i) ∧ own? S[i]? = some ds ∧ ow i = some a ∧ vs[k]? = some (.ref a) ∧ S0[k]? = some (.io ds) ∧ T[k]? = some (.io es) ∧ H' a = some (.lst ws) ∧ RDs K (av C ow) H' ws es := fun i hi => by
    obtain ⟨k, hk⟩ := List.getElem?_of_mem (mem_refs.mp hi)
    have hk0 : k < S0.length := by rw [g1]; exact (List.getElem?_eq_some_iff.mp hk).1
    obtain ⟨g, e1, e2⟩ := g2 k _ (List.getElem?_eq_getElem hk0)
    rw [hk] at e1; cases e1
    obtain ⟨v, e3, a, e4, e5⟩ := rg.2 k _ hk
    subst e4
    obtain ⟨ds, e6⟩ := gown k i e2
    have e7 : S0[k]? = some (.io ds) := by
      rw [List.getElem?_eq_getElem hk0, ← e2]
      show (own? S[i]?).map Sl.io = some (.io ds)
      rw [e6]
      rfl
    obtain ⟨es, e8, e9⟩ := p.io k ds e7
    obtain ⟨ws, e10, e11⟩ := e9 a e3
    exact ⟨k, ds, a, es, ws, hk, e6, e5, e3, e7, e8, e10, e11⟩
  refine r.after (fun i => i ∈ refs gs) b1 (fun i hi => b2 i hi) (fun i hi => ?_) (fun a o e n => p.ext a o e fun k ds e1 e2 => ?_) fun i es a hi e1 e2 => ?_
  · obtain ⟨k, ds, a, es, ws, h1, h2, h3, h4, h5, h6, h7, h8⟩ := look i hi
    rcases b3 k i es h1 h6 ⟨ds, h2⟩ with ⟨d, z1, z2⟩ | ⟨d, z1, z2⟩
    · exact .inl ⟨d, es, z1, z2⟩
    · exact .inr ⟨d, es, z1, z2⟩
  · obtain ⟨g, e3, e4⟩ := g2 k _ e1
    obtain ⟨i, rfl, _⟩ := toSl_io e4
    obtain ⟨v, f1, b, f2, f3⟩ := rg.2 k _ e3
    subst f2
    rw [e2] at f1; cases f1
    exact n i (mem_refs.mpr (List.mem_of_getElem? e3)) f3
  · obtain ⟨k, ds, b, fs, ws, h1, h2, h3, h4, h5, h6, h7, h8⟩ := look i hi
    rw [h3] at e2; cases e2
    refine ⟨ws, h7, ?_⟩
    have : es = fs := by
      rcases b3 k i fs h1 h6 ⟨ds, h2⟩ with ⟨d, z1, z2⟩ | ⟨d, z1, z2⟩ <;> rw [z2] at e1 <;> cases e1 <;> rfl
    rw [this]
    exact h8
end
def sCallV (m : Mf) (sg : SG) : SE := fun S => (sCall m sg S).bind fun x S1 => R.opt (asV x) S1
def sCallN (m : Mf) (sg : SG) : SN := fun S => (sCall m sg S).bind fun x S1 => R.opt (asN x) S1
variable {x : Str} {p : Pos} {f : Addr} {fd : FuncData} {ps : List Str} {k n : Nat} {m : Mf}
theorem run_callV {gw : World → Prop} {σ : St} {H : Hp} {Q : VK} (h : xE X.K X.mg W C (sCallV m sg) σ H Q) (hn : ∀ S gs S1, sg S = .ok gs S1 → gs.length = n) (hgw : gw C.w) : tCallS (spG gw X.K X.mg m n) (WE W) (xAg X.K X.mg W C sg) σ H Q := by
  obtain ⟨ow, S, r, q⟩ := h
  change pst X.K X.mg W C (relE X.K) ow σ H Q ((sCall m sg S).bind fun x S1 => R.opt (asV x) S1) at q
  unfold sCall at q
  have hn' := hn S
  refine ⟨ow, S, r, ?_⟩
  show pst X.K X.mg W C (relG X.K) ow σ H _ (sg S)
  cases e : sg S with
  | no => rw [e] at q; exact q
  | ex c S' => rw [e] at q; exact q
  | ok gs S1 =>
    rw [e] at q
    intro vs H1 r1 x1 rg
    refine ⟨by rw [rg.1]; exact hn' gs S1 e, ?_⟩
    change pst X.K X.mg W C (relE X.K) ow σ H Q ((match argS S1 gs with
      | none => R.no
      | some S0 => match m S0 with
        | .ok d T => .ok d (back gs T S1)
        | .ex c T => .ex c (back gs T S1)
        | .no => .no).bind fun x S1 => R.opt (asV x) S1) at q
    cases ea : argS S1 gs with
    | none => rw [ea] at q; exact q.elim
    | some S0 =>
      simp only [ea] at q
      refine ⟨av C ow, S0, hgw, (r1.pre rg ea).2, ?_⟩
      cases em : m S0 with
      | no => simp only [em] at q; exact q.elim
      | ex c T =>
        simp only [em] at q
        intro H' p
        obtain ⟨r2, x2⟩ := r1.back rg ea p
        exact fun d hd => q H' r2 (x1.trans (Grow.refl _ _) x2) d (hd.less fun a z => .inl z)
      | ok d T =>
        simp only [em, bind_ok] at q
        cases ed : asV d with
        | none => rw [ed] at q; exact q.elim
        | some z =>
          rw [ed] at q
          have ed' := asV_some ed
          subst ed'
          intro v H' p rd
          obtain ⟨r2, x2⟩ := r1.back rg ea p
          exact q v H' r2 (x1.trans (Grow.refl _ _) x2) rd
theorem run_callN {gw : World → Prop} {σ : St} {H : Hp} {Q : VK} (h : xN X.K X.mg W C (sCallN m sg) σ H Q) (hn : ∀ S gs S1, sg S = .ok gs S1 → gs.length = n) (hgw : gw C.w) : tCallS (spG gw X.K X.mg m n) (WE W) (xAg X.K X.mg W C sg) σ H Q := by
  obtain ⟨ow, S, r, q⟩ := h
  change pst X.K X.mg W C (relN X.K) ow σ H Q ((sCall m sg S).bind fun x S1 => R.opt (asN x) S1) at q
  unfold sCall at q
  have hn' := hn S
  refine ⟨ow, S, r, ?_⟩
  show pst X.K X.mg W C (relG X.K) ow σ H _ (sg S)
  cases e : sg S with
  | no => rw [e] at q; exact q
  | ex c S' => rw [e] at q; exact q
  | ok gs S1 =>
    rw [e] at q
    intro vs H1 r1 x1 rg
    refine ⟨by rw [rg.1]; exact hn' gs S1 e, ?_⟩
    change pst X.K X.mg W C (relN X.K) ow σ H Q ((match argS S1 gs with
      | none => R.no
      | some S0 => match m S0 with
        | .ok d T => .ok d (back gs T S1)
        | .ex c T => .ex c (back gs T S1)
        | .no => .no).bind fun x S1 => R.opt (asN x) S1) at q
    cases ea : argS S1 gs with
    | none => rw [ea] at q; exact q.elim
    | some S0 =>
      simp only [ea] at q
      refine ⟨av C ow, S0, hgw, (r1.pre rg ea).2, ?_⟩
      cases em : m S0 with
      | no => simp only [em] at q; exact q.elim
      | ex c T =>
        simp only [em] at q
        intro H' p
        obtain ⟨r2, x2⟩ := r1.back rg ea p
        exact fun d hd => q H' r2 (x1.trans (Grow.refl _ _) x2) d (hd.less fun a z => .inl z)
      | ok d T =>
        simp only [em, bind_ok] at q
        cases ed : asN d with
        | none => rw [ed] at q; exact q.elim
        | some z =>
          rw [ed] at q
          have ed' := asN_some ed
          subst ed'
          intro a ws Hm p na rds
          obtain ⟨r2, x2⟩ := r1.back rg ea p
          exact q (.ref a) _ (r2.same (same_new na)) ((x1.trans (Grow.refl _ _) x2).trans (Grow.refl _ _) (Ext.same (same_new na))) ⟨a, ws, Hm, rfl, na, rfl, x1.trans (Grow.refl _ _) x2, r2, rds⟩
/-- the call itself -/
theorem pe_callG {sp : Sp} (F : FnG X.prog X.w X.K X.mg X.base k f fd ps sp) (gd : X.A.guards = some []) (hr : Room k X.A) (hg : Gl X x) (hm : X.mg x = some (.ref f)) (hk : PySem.W.keepIn X.K (.ref f) = true) (hb : Binds X.K fd ps []) (tk : Takes X W) {t : TA}
    (ha : PA X (e :: es) t) (hdb : (x == ("__debug__" : Str)) = false) (he : starEach (e :: es) X.env = (false, eval e X.env) :: starEach es X.env) (hpl : (backTo pos (starEach es X.env)).any (·.1) = false) : PE X (.Call (.Name x p) (e :: es) [] pos) (tCallS sp (WE W) t) := by
  refine ⟨fun pins s σ H Q I h => wpAny_Call_Name_kw (ld_glob I hg hm ?_ hdb)⟩
  refine PySem.W.callWith_K (h₀ := X.base) I.ok.mod.kin hk (thn (ha.run pos pins s σ H _ I h) fun us s1 ⟨vs, H1, I1, r, q⟩ => ⟨I1.kIn, ?_⟩) he hpl
  have hl : us.length = ps.length := r.length.symm.trans (F.len _ _ _ _ q)
  have b := hb s1 us I1.kIn (by rw [List.append_nil]; exact hl)
  rw [List.append_nil] at b
  refine wpAny_call (codeAny_mono (F.run X.A X.stack s1 H1 ⟨us, []⟩ us vs Q (WE W σ) gd hr I1.env0 b r q) fun o s' hq => ?_)
  match o, hq with
  | .error e, hq => exact passAt tk σ pins H1 s1 e s' I1 hq
  | .ok (.ret u), hq => exact I1.after hq
  | .ok .next, hq => exact hq.elim
  | .ok .brk, hq => exact hq.elim
  | .ok .cont, hq => exact hq.elim
theorem e_call {gw : World → Prop} (F : FnG X.prog X.w X.K X.mg X.base k f fd ps (spG gw X.K X.mg m n)) (gd : X.A.guards = some []) (hr : Room k X.A) (hg : Gl X x) (hm : X.mg x = some (.ref f)) (hk : PySem.W.keepIn X.K (.ref f) = true) (hb : Binds X.K fd ps []) (tk : Takes X W)
    (ha : PA X (e :: es) (xAg X.K X.mg W C sg)) (hn : ∀ S gs S1, sg S = .ok gs S1 → gs.length = n) (hdb : (x == ("__debug__" : Str)) = false := by decide) (he : starEach (e :: es) X.env = (false, eval e X.env) :: starEach es X.env := by rfl) (hpl : (backTo pos (starEach es X.env)).any (·.1) = false := by rfl) (hgw : gw C.w := by first | exact trivial | assumption) :
    PE X (.Call (.Name x p) (e :: es) [] pos) (xE X.K X.mg W C (sCallV m sg)) :=
  pe_imp (pe_callG F gd hr hg hm hk hb tk ha hdb he hpl) fun _ _ _ h => run_callV h hn hgw
theorem n_call {gw : World → Prop} (F : FnG X.prog X.w X.K X.mg X.base k f fd ps (spG gw X.K X.mg m n)) (gd : X.A.guards = some []) (hr : Room k X.A) (hg : Gl X x) (hm : X.mg x = some (.ref f)) (hk : PySem.W.keepIn X.K (.ref f) = true) (hb : Binds X.K fd ps []) (tk : Takes X W)
    (ha : PA X (e :: es) (xAg X.K X.mg W C sg)) (hn : ∀ S gs S1, sg S = .ok gs S1 → gs.length = n) (hdb : (x == ("__debug__" : Str)) = false := by decide) (he : starEach (e :: es) X.env = (false, eval e X.env) :: starEach es X.env := by rfl) (hpl : (backTo pos (starEach es X.env)).any (·.1) = false := by rfl) (hgw : gw C.w := by first | exact trivial | assumption) :
    PE X (.Call (.Name x p) (e :: es) [] pos) (xN X.K X.mg W C (sCallN m sg)) :=
  pe_imp (pe_callG F gd hr hg hm hk hb tk ha hdb he hpl) fun _ _ _ h => run_callN h hn hgw
/-- how many arguments -/
theorem ln0 : ∀ S gs S1, sG0 S = .ok gs S1 → gs.length = 0 := fun S gs S1 h => by cases h; rfl
theorem lnv {n : Nat} (h : ∀ S gs S1, sg S = .ok gs S1 → gs.length = n) : ∀ S gs S1, sGv se sg S = .ok gs S1 → gs.length = n + 1 := fun S gs S1 e => by
  unfold sGv at e
  cases e1 : se S with
  | no => rw [e1] at e; cases e
  | ex c T => rw [e1] at e; cases e
  | ok d T =>
    rw [e1, bind_ok] at e
    cases e2 : sg T with
    | no => rw [e2] at e; cases e
    | ex c T => rw [e2] at e; cases e
    | ok ds T2 =>
      rw [e2, bind_ok] at e
      cases e
      rw [List.length_cons, h T ds _ e2]
theorem lnr {n : Nat} (h : ∀ S gs S1, sg S = .ok gs S1 → gs.length = n) : ∀ S gs S1, sGr i sg S = .ok gs S1 → gs.length = n + 1 := fun S gs S1 e => by
  unfold sGr at e
  split at e
  · cases e2 : sg S with
    | no => rw [e2] at e; cases e
    | ex c T => rw [e2] at e; cases e
    | ok ds T2 =>
      rw [e2, bind_ok] at e
      cases e
      rw [List.length_cons, h S ds _ e2]
  · cases e
end
end Ds
end
section
set_option Elab.async false
set_option linter.all false
set_option maxRecDepth 100000
set_option maxHeartbeats 4000000
namespace Ds
open PySem PySem.Spec PyProof.Rows L2
/-- from H on the walk J gives the data ds -/
def ItD (K : PySem.W.Frag) (J : It) (av1 : Av) (H : Hp) (ds : List PyData) : Prop :=
  ∀ (av2 : Av) (H1 : Hp), Ext av1 H H1 → Grow av1 av2 H → av2.w = av1.w → (∀ a, av2 a → ∃ o, H1 a = some o) →
    (∀ i, i < ds.length → J.go i H1) ∧ J.stop ds.length H1 ∧ ∀ (i : Nat) d v H2, ds[i]? = some d → J.yld i H1 v H2 → Same H1 H2 ∧ RD K av2 H2 v d
def relI (K : PySem.W.Frag) : Rel It (List PyData) := fun C ow _ _ _ H' J ds => ItD K J (av C ow) H' ds
theorem early_I {K : PySem.W.Frag} : Early K (relI K) := fun _ _ _ _ _ _ _ _ _ _ _ _ _ _ h => h
abbrev xI (K : PySem.W.Frag) (mg : Str → Option Value) (W : WX) (C : Cn) (s : SN) : TI := xG K mg W C (relI K) s
section
variable {X : Cx} {W : WX} {C : Cn} {pos : Pos} {e tg iter : Expr} {se : SE} {sn : SN} {i : Nat}
theorem pi_imp {t t' : TI} (h : PI X tg iter t) (f : ∀ σ H R, t' σ H R → t σ H R) : PI X tg iter t' := ⟨fun pins s σ H Q I q => h.run pins s σ H Q I (f σ H Q q)⟩
theorem itd_list {K : PySem.W.Frag} {av1 : Av} {H : Hp} {a : Addr} {vs : List V} {ds : List PyData} (h : LK K av1 H a vs) (r : RDs K av1 H vs ds) : ItD K (Itl K a) av1 H ds := fun av2 H1 x g gw _ => by
  have q := (h.mono x g).sq
  have r' := RDs.mono x g ds vs r
  have hl := r.len
  refine ⟨fun i hi => ⟨vs, vs[i]'(by omega), q, List.getElem?_eq_getElem _⟩, ⟨vs, q, by omega⟩, fun i d v H2 e y => ?_⟩
  obtain ⟨y1, y2⟩ := y
  subst y1
  obtain ⟨w, e1, e2⟩ := r'.get e
  have := y2 vs q
  rw [e1] at this
  cases this
  exact ⟨Same.refl _, e2⟩
theorem itd_tup {K : PySem.W.Frag} {av1 : Av} {H : Hp} {a : Addr} {vs : List V} {ds : List PyData} (h : TK K av1 H a vs) (r : RDs K av1 H vs ds) : ItD K (Itt K a) av1 H ds := fun av2 H1 x g gw _ => by
  have q := (h.mono x g).sq
  have r' := RDs.mono x g ds vs r
  have hl := r.len
  refine ⟨fun i hi => ⟨vs, vs[i]'(by omega), q, List.getElem?_eq_getElem _⟩, ⟨vs, q, by omega⟩, fun i d v H2 e y => ?_⟩
  obtain ⟨y1, y2⟩ := y
  subst y1
  obtain ⟨w, e1, e2⟩ := r'.get e
  have := y2 vs q
  rw [e1] at this
  cases this
  exact ⟨Same.refl _, e2⟩
def sIL (se : SE) : SN := fun S => (se S).bind fun d S1 => R.opt (asL d) S1
def asT (d : PyData) : Option (List PyData) := match d with
  | .tuple ds => some ds
  | _ => none
theorem asT_some {d : PyData} {ds : List PyData} (h : asT d = some ds) : d = .tuple ds := by
  match d, h with
  | .tuple _, h => cases h; rfl
def sIT (se : SE) : SN := fun S => (se S).bind fun d S1 => R.opt (asT d) S1
/-- over a list, a tuple -/
theorem i_list (h : PE X e (xE X.K X.mg W C se)) : PI X tg e (xI X.K X.mg W C (sIL se)) := pi_imp (pi_list h) fun σ H R ⟨ow, S, r, q⟩ =>
  seq early_I r q fun S1 d v H1 r1 x1 rd k => by
    cases e : asL d with
    | none => rw [e] at k; exact k.elim
    | some ds =>
      rw [e] at k
      have ed := asL_some e
      subst ed
      cases rd with
      | lst h1 h2 => exact ⟨_, rfl, ⟨_, h1.sq⟩, pst_ok r1 k (itd_list h1 h2)⟩
theorem i_tup (h : PE X e (xE X.K X.mg W C se)) : PI X tg e (xI X.K X.mg W C (sIT se)) := pi_imp (pi_tup h) fun σ H R ⟨ow, S, r, q⟩ =>
  seq early_I r q fun S1 d v H1 r1 x1 rd k => by
    cases e : asT d with
    | none => rw [e] at k; exact k.elim
    | some ds =>
      rw [e] at k
      have ed := asT_some e
      subst ed
      cases rd with
      | tup h1 h2 => exact ⟨_, rfl, ⟨_, h1.sq⟩, pst_ok r1 k (itd_tup h1 h2)⟩
theorem itd_range {K : PySem.W.Frag} {av1 : Av} {H : Hp} {lo : Int} {n : Nat} : ItD K (Itr lo n) av1 H ((List.range n).map fun i => .int (lo + (i : Nat))) := fun av2 H1 x g gw _ => by
  refine ⟨fun i hi => by show i < n; simpa using hi, by show n ≤ _; simp, fun i d v H2 e y => ?_⟩
  obtain ⟨y1, y2⟩ := y
  subst y1
  subst y2
  rw [List.getElem?_map] at e
  cases q : (List.range n)[i]? with
  | none => rw [q] at e; cases e
  | some j =>
    rw [q] at e
    cases e
    have hi := (List.getElem?_eq_some_iff.mp q)
    obtain ⟨h1, h2⟩ := hi
    rw [List.getElem_range] at h2
    subst h2
    exact ⟨Same.refl _, .int _⟩
def rng (lo hi : Int) : List PyData := (List.range (hi - lo).toNat).map fun i => .int (lo + (i : Nat))
def smallI (i : Int) : Bool := decide (-(2 ^ 62) ≤ i) && decide (i < 2 ^ 62)
theorem smallI_of {i : Int} (h : smallI i = true) : -(2 ^ 62) ≤ i ∧ i < 2 ^ 62 := by
  unfold smallI at h
  rw [Bool.and_eq_true] at h
  exact ⟨of_decide_eq_true h.1, of_decide_eq_true h.2⟩
def rng1 (ds : List PyData) : Option (List PyData) := match ds with
  | [.int j] => if smallI j = true then some (rng 0 j) else none
  | _ => none
def rng2 (ds : List PyData) : Option (List PyData) := match ds with
  | [.int i, .int j] => if smallI i = true ∧ smallI j = true then some (rng i j) else none
  | _ => none
def sRng1 (sr : SN) : SN := fun S => (sr S).bind fun ds S1 => R.opt (rng1 ds) S1
def sRng2 (sr : SN) : SN := fun S => (sr S).bind fun ds S1 => R.opt (rng2 ds) S1
theorem i_rng1 {a : Expr} {sr : SN} {p : Pos} (hg : Gl X "range") (hm : X.mg "range" = none) (ha : PA X [a] (xA X.K X.mg W C sr)) (hs : starEach [a] X.env = [(false, eval a X.env)] := by rfl) : PI X tg (.Call (.Name "range" p) [a] [] pos) (xI X.K X.mg W C (sRng1 sr)) :=
  pi_imp (pi_range1 hg hm ha hs) fun σ H Q ⟨ow, S, r, q⟩ => seq early_I r q fun S1 ds vs H1 r1 x1 rd k => by
    match ds, rd, k with
    | [.int j], .cons (.int _) .nil, k =>
      change pst X.K X.mg W C (relI X.K) ow σ H1 Q (R.opt (if smallI j = true then some (rng 0 j) else none) S1) at k
      by_cases z : smallI j = true
      · rw [if_pos z] at k
        have b := smallI_of z
        refine ⟨j, rfl, b.1, b.2, pst_ok r1 k ?_⟩
        have := itd_range (K := X.K) (av1 := av C ow) (H := H1) (lo := 0) (n := j.toNat)
        unfold rng
        rw [Int.sub_zero]
        exact this
      · rw [if_neg z] at k
        exact k.elim
def Tch (ts : List Nat) (σ σ' : St) : Prop := σ'.length = σ.length ∧ ∀ j, j ∉ ts → σ'[j]? = σ[j]?
abbrev GT := PyData → En → RS
def xT (K : PySem.W.Frag) (C : Cn) (g : GT) (ts : List Nat) : TG := fun v σ H Q => ∃ ow S d, Rl K C ow S σ H ∧ RD K (av C ow) H v d ∧ match g d S with
  | .nx S' => ∀ σ' H', Rl K C ow S' σ' H' → Ext (av C ow) H H' → Tch ts σ σ' → Q σ' H'
  | _ => False
abbrev GTs := List PyData → En → RS
def xTs (K : PySem.W.Frag) (C : Cn) (g : GTs) (ts : List Nat) : TGs := fun vs σ H Q => ∃ ow S ds, Rl K C ow S σ H ∧ RDs K (av C ow) H vs ds ∧ match g ds S with
  | .nx S' => ∀ σ' H', Rl K C ow S' σ' H' → Ext (av C ow) H H' → Tch ts σ σ' → Q σ' H'
  | _ => False
theorem pg_imp {t t' : TG} (h : PG X tg t) (f : ∀ v σ H Q, t' v σ H Q → t v σ H Q) : PG X tg t' := ⟨fun pins s σ H v u Q I r q => h.run pins s σ H v u Q I r (f v σ H Q q)⟩
theorem pgs_imp {tgs : List Expr} {t t' : TGs} (h : PGs X tgs t) (f : ∀ v σ H Q, t' v σ H Q → t v σ H Q) : PGs X tgs t' := ⟨fun pins s σ H v u Q I r q => h.run pins s σ H v u Q I r (f v σ H Q q)⟩
/-- a slot that owns nothing -/
def bare (o : Option Sl) : Bool := match o with
  | some .nil => true
  | some (.val _) => true
  | _ => false
theorem bare_noio {o : Option Sl} (h : bare o = true) : noio o = true ∧ own? o = none := by
  match o, h with
  | some .nil, _ => exact ⟨rfl, rfl⟩
  | some (.val _), _ => exact ⟨rfl, rfl⟩
theorem Rl.owNone {K : PySem.W.Frag} {ow : Ow} {S : En} {σ : St} {H : Hp} (r : Rl K C ow S σ H) {i : Nat} (h : own? S[i]? = none) (hn : nn S[i]? = true) (hi : i < 4096) : ow i = none := by
  cases e : ow i with
  | none => rfl
  | some a =>
    rcases r.ows i a e with ⟨ds, z⟩ | z
    · rw [h] at z; cases z
    · exact absurd rfl (z.ne hn hi)
theorem Rl.lt4 {K : PySem.W.Frag} {ow : Ow} {S : En} {σ : St} {H : Hp} (r : Rl K C ow S σ H) {i : Nat} {x : Sl} (h : S[i]? = some x) : i < 4096 := by
  have := (List.getElem?_eq_some_iff.mp h).1
  have := r.ns.big
  omega
theorem bare_lt {K : PySem.W.Frag} {ow : Ow} {S : En} {σ : St} {H : Hp} (r : Rl K C ow S σ H) {i : Nat} (h : bare S[i]? = true) : nn S[i]? = true ∧ i < 4096 := by
  cases e : S[i]? with
  | none => rw [e] at h; cases h
  | some x =>
    refine ⟨?_, r.lt4 e⟩
    rw [e] at h
    match x, h with
    | .nil, _ => rfl
    | .val _, _ => rfl
theorem owSet_id {ow : Ow} {i : Nat} {o : Option Addr} (h : ow i = o) : owSet ow i o = ow := by
  funext j
  unfold owSet
  by_cases e : j = i
  · rw [if_pos e, e, h]
  · rw [if_neg e]
def gNm (i : Nat) : GT := fun d S => if bare S[i]? = true then .nx (S.set i (.val d)) else .no
theorem g_name (h : PG X tg (gName i)) : PG X tg (xT X.K C (gNm i) [i]) := pg_imp h fun v σ H Q ⟨ow, S, d, r, rd, q⟩ => by
  unfold gNm at q
  by_cases hi : bare S[i]? = true
  · rw [if_pos hi] at q
    have b := bare_noio hi
    have p := r.putV b.1 rd
    rw [owSet_id (r.owNone b.2 (bare_lt r hi).1 (bare_lt r hi).2)] at p
    exact q _ H p (Ext.refl _ _) ⟨List.length_set, fun j hj => List.getElem?_set_ne fun z => hj (by simp [z])⟩
  · rw [if_neg hi] at q
    exact q.elim
def gN0 : GTs := fun ds S => match ds with
  | [] => .nx S
  | _ => .no
def gNC (g : GT) (gs : GTs) : GTs := fun ds S => match ds with
  | d :: ds => match g d S with
    | .nx S1 => gs ds S1
    | _ => .no
  | [] => .no
theorem gs_nil : PGs X [] (xTs X.K C gN0 []) := pgs_imp pgs_nil fun vs σ H Q ⟨ow, S, ds, r, rd, q⟩ => by
  cases rd with
  | nil => exact ⟨rfl, q σ H r (Ext.refl _ _) ⟨rfl, fun _ _ => rfl⟩⟩
  | cons h1 h2 => exact q.elim
theorem gs_cons {tgs : List Expr} {g : GT} {gs : GTs} {ts us : List Nat} (h1 : PG X tg (xT X.K C g ts)) (h2 : PGs X tgs (xTs X.K C gs us)) (hs : (assignEach (tg :: tgs) X.env).map (·.2) = assign tg X.env :: (assignEach tgs X.env).map (·.2) := by rfl) : PGs X (tg :: tgs) (xTs X.K C (gNC g gs) (ts ++ us)) :=
  pgs_imp (pgs_cons h1 h2 hs) fun vs σ H Q ⟨ow, S, ds, r, rd, q⟩ => by
    cases rd with
    | nil => exact q.elim
    | @cons v vs d ds h1 h2 =>
      refine ⟨v, vs, rfl, ow, S, d, r, h1, ?_⟩
      change (match (match g d S with | .nx S1 => gs ds S1 | _ => .no) with | .nx S' => ∀ σ' H', Rl X.K C ow S' σ' H' → Ext (av C ow) H H' → Tch (ts ++ us) σ σ' → Q σ' H' | _ => False) at q
      cases e : g d S with
      | nx S1 =>
        simp only [e] at q
        intro σ1 H1 r1 x1 c1
        refine ⟨ow, S1, ds, r1, RDs.mono x1 (Grow.refl _ _) ds vs h2, ?_⟩
        cases e2 : gs ds S1 with
        | nx S2 =>
          simp only [e2] at q
          exact fun σ2 H2 r2 x2 c2 => q σ2 H2 r2 (x1.trans (Grow.refl _ _) x2) ⟨c2.1.trans c1.1, fun j hj => (c2.2 j fun z => hj (List.mem_append_right _ z)).trans (c1.2 j fun z => hj (List.mem_append_left _ z))⟩
        | _ => simp only [e2] at q
      | _ => simp only [e] at q
def gTp (gs : GTs) : GT := fun d S => match d with
  | .tuple ds => gs ds S
  | _ => .no
theorem g_tup {tgs : List Expr} {gs : GTs} {k n : Nat} {ts : List Nat} (hc : X.calm = true) (h : PGs X tgs (xTs X.K C gs ts)) (hl : ∀ ds S S', gs ds S = .nx S' → ds.length = n) (hn : (assignEach tgs X.env).length = n := by rfl) (hst : (assignEach tgs X.env).findIdx? (·.1) = none := by rfl) :
    PG X (.Tuple tgs k pos) (xT X.K C (gTp gs) ts) := pg_imp (pg_tup hc h hn hst) fun v σ H Q ⟨ow, S, d, r, rd, q⟩ => by
  cases rd with
  | @tup a xs ds h1 h2 =>
    change (match gs ds S with | .nx S' => ∀ σ' H', Rl X.K C ow S' σ' H' → Ext (av C ow) H H' → Tch ts σ σ' → Q σ' H' | _ => False) at q
    refine ⟨a, xs, rfl, h1.sq, ?_, ow, S, ds, r, h2, q⟩
    cases e : gs ds S with
    | nx S' => rw [h2.len]; exact hl ds S S' e
    | _ => simp only [e] at q
  | _ => exact q.elim
theorem gl0 : ∀ ds S S', gN0 ds S = .nx S' → ds.length = 0 := fun ds S S' h => by
  cases ds with
  | nil => rfl
  | cons d ds => cases h
theorem glc {g : GT} {gs : GTs} {n : Nat} (h : ∀ ds S S', gs ds S = .nx S' → ds.length = n) : ∀ ds S S', gNC g gs ds S = .nx S' → ds.length = n + 1 := fun ds S S' e => by
  cases ds with
  | nil => cases e
  | cons d ds =>
    change (match g d S with | .nx S1 => gs ds S1 | _ => .no) = .nx S' at e
    cases e2 : g d S with
    | nx S1 => simp only [e2] at e; rw [List.length_cons, h ds S1 S' e]
    | _ => simp only [e2] at e; cases e
/-- target = e -/
def sAsg (g : GT) (se : SE) : SS := fun S => (se S).st fun d S1 => g d S1
theorem sst_g {ow : Ow} {S : En} {σ : St} {H : Hp} {D : Ends} {g : GT} {d : PyData} {v : V} {ts : List Nat} (hg : ∀ d S, (∃ S', g d S = .nx S') ∨ g d S = .no) (r : Rl X.K C ow S σ H) (rd : RD X.K (av C ow) H v d) (k : sst X.K X.mg W C ow H D (g d S)) : xT X.K C g ts v σ H D.nx := by
  refine ⟨ow, S, d, r, rd, ?_⟩
  rcases hg d S with ⟨S', e⟩ | e
  · rw [e] at k ⊢
    exact fun σ' H' r' x _ => k ow σ' H' r' x (Grow.refl _ _)
  · rw [e] at k
    exact k.elim
def Plain (g : GT) : Prop := ∀ d S, (∃ S', g d S = .nx S') ∨ g d S = .no
def Plains (g : GTs) : Prop := ∀ d S, (∃ S', g d S = .nx S') ∨ g d S = .no
theorem plain_nm : Plain (gNm i) := fun d S => by
  unfold gNm
  split
  · exact .inl ⟨_, rfl⟩
  · exact .inr rfl
theorem plains_0 : Plains gN0 := fun ds S => by
  cases ds with
  | nil => exact .inl ⟨S, rfl⟩
  | cons d ds => exact .inr rfl
theorem plains_c {g : GT} {gs : GTs} (h1 : Plain g) (h2 : Plains gs) : Plains (gNC g gs) := fun ds S => by
  cases ds with
  | nil => exact .inr rfl
  | cons d ds =>
    show (∃ S', (match g d S with | .nx S1 => gs ds S1 | _ => .no) = .nx S') ∨ (match g d S with | .nx S1 => gs ds S1 | _ => .no) = .no
    rcases h1 d S with ⟨S1, e⟩ | e
    · rw [e]
      exact h2 ds S1
    · rw [e]
      exact .inr rfl
theorem plain_t {gs : GTs} (h : Plains gs) : Plain (gTp gs) := fun d S => by
  cases d with
  | tuple ds => exact h ds S
  | _ => exact .inr rfl
theorem s_asg {g : GT} {ts : List Nat} (hp : Plain g) (he : PE X e (xE X.K X.mg W C se)) (hg : PG X tg (xT X.K C g ts)) (hp2 : ∀ {t : TE} {u : TG}, PE X e t → PG X tg u → PS X (.Assign [tg] e pos) (tAsg t u)) : PS X (.Assign [tg] e pos) (xS X.K X.mg W C (sAsg g se)) :=
  ps_imp (hp2 he hg) fun D σ H ⟨ow, S, r, q⟩ => seqS r q fun S1 d v H1 r1 x1 rd k => sst_g hp r1 rd k
def loopL (g : GT) (b : SS) : List PyData → SS
  | [], S => .nx S
  | d :: ds, S => match g d S with
    | .nx S1 => match b S1 with
      | .nx S2 => loopL g b ds S2
      | .ct S2 => loopL g b ds S2
      | .bk S2 => .nx S2
      | r => r
    | r => r
def sFor (it : SN) (g : GT) (b : SS) : SS := fun S => (it S).st fun ds S1 => loopL g b ds S1
theorem s_for {body : List Stmt} {g : GT} {sb : SS} {it : SN} {ts : List Nat} (hp : PassesOwn (model X.prog X.w) X.A X.env X.xe) (hc : X.calm = true) (hpl : Plain g) (hi : PI X tg iter (xI X.K X.mg W C it)) (hg : PG X tg (xT X.K C g ts)) (hb : PSs X body (xS X.K X.mg W C sb))
    (hs : ∀ x, foldedSetIterable iter X.env x = pure x := by intro _; rfl) : PS X (.For tg iter body [] pos) (xS X.K X.mg W C (sFor it g sb)) :=
  ps_imp (ps_for hp hc hi hg hb hs) fun D σ H ⟨ow, S, r, q⟩ => seqS r q fun S1 ds J H1 r1 x1 id k => by
    refine ⟨fun i m σ2 H2 => m = ds.length - i ∧ i ≤ ds.length ∧ ∃ ow2 S2, Rl X.K C ow2 S2 σ2 H2 ∧ Ext (av C ow) H1 H2 ∧ Grow (av C ow) (av C ow2) H1 ∧ sst X.K X.mg W C ow2 H2 D (loopL g sb (ds.drop i) S2),
      ⟨ds.length, by omega, by omega, ow, S1, r1, Ext.refl _ _, Grow.refl _ _, k⟩, ?_⟩
    rintro i m σ2 H2 ⟨rfl, hi, ow2, S2, r2, x2, g2, k2⟩
    obtain ⟨w1, w2, w3⟩ := id (av C ow2) H2 x2 g2 rfl r2.tracked
    by_cases hlt : i < ds.length
    · refine .inr ⟨w1 i hlt, _, fun σ3 H3 z => ⟨ds.length - (i + 1), by omega, z⟩, fun v H3 y => ?_⟩
      have ed : ds[i]? = some ds[i] := List.getElem?_eq_getElem hlt
      obtain ⟨sm, rd⟩ := w3 i ds[i] v H3 ed y
      rw [List.drop_eq_getElem_cons hlt] at k2
      change sst X.K X.mg W C ow2 H2 D (match g ds[i] S2 with
        | .nx S1 => match sb S1 with
          | .nx S2 => loopL g sb (ds.drop (i + 1)) S2
          | .ct S2 => loopL g sb (ds.drop (i + 1)) S2
          | .bk S2 => .nx S2
          | r => r
        | r => r) at k2
      refine ⟨ow2, S2, ds[i], r2.same sm, rd, ?_⟩
      rcases hpl ds[i] S2 with ⟨S3, e⟩ | e
      · rw [e] at k2 ⊢
        intro σ3 H4 r3 x3 _
        have x23 : Ext (av C ow2) H2 H4 := (Ext.same sm).trans (Grow.refl _ _) x3
        have g23 : Grow (av C ow2) (av C ow2) H2 := Grow.refl _ _
        refine ⟨ow2, S3, r3, ?_⟩
        have k3 := sst_from x23 g23 k2
        change sst X.K X.mg W C ow2 H4 D (match sb S3 with
          | .nx S2 => loopL g sb (ds.drop (i + 1)) S2
          | .ct S2 => loopL g sb (ds.drop (i + 1)) S2
          | .bk S2 => .nx S2
          | r => r) at k3
        cases eb : sb S3 with
        | nx S4 =>
          rw [eb] at k3
          exact fun ow4 σ4 H5 r4 x4 g4 => ⟨rfl, hlt, ow4, S4, r4, (x2.trans g2 (x23.trans g23 x4)), g2.trans x2 (g23.trans x23 g4), sst_from x4 g4 k3⟩
        | ct S4 =>
          rw [eb] at k3
          exact fun ow4 σ4 H5 r4 x4 g4 => ⟨rfl, hlt, ow4, S4, r4, (x2.trans g2 (x23.trans g23 x4)), g2.trans x2 (g23.trans x23 g4), sst_from x4 g4 k3⟩
        | bk S4 => rw [eb] at k3; exact k3
        | rt v S4 => rw [eb] at k3; exact k3
        | ex c S4 => rw [eb] at k3; exact k3
        | no => rw [eb] at k3; exact k3
      · rw [e] at k2
        exact k2.elim
    · have e : i = ds.length := by omega
      subst e
      rw [List.drop_length] at k2
      exact .inl ⟨w2, k2 ow2 σ2 H2 r2 (Ext.refl _ _) (Grow.refl _ _)⟩
end
end Ds
end
section
set_option Elab.async false
set_option linter.all false
set_option maxRecDepth 100000
set_option maxHeartbeats 4000000
namespace Ds
open PySem PySem.Spec PyProof.Rows L2
/-- one more owned address -/
def Cn.plus (C : Cn) (p : Addr) (vs : List V) : Cn := ⟨fun a => C.A0 a ∨ a = p, upd C.H0 p (.lst vs), C.io, C.w⟩
section
variable {K : PySem.W.Frag} {C : Cn} {ow : Ow} {S S' : En} {σ : St} {H H' : Hp} {p : Addr} {us : List V}
theorem av_plus {a : Addr} : av (C.plus p us) ow a ↔ av C ow a ∨ a = p := by
  constructor
  · rintro ((h | h) | h)
    · exact .inl (.inl h)
    · exact .inr h
    · exact .inl (.inr h)
  · rintro ((h | h) | h)
    · exact .inl (.inl h)
    · exact .inr h
    · exact .inl (.inr h)
theorem grow_plus (hp : H p = none) : Grow (av C ow) (av (C.plus p us) ow) H := fun a h => (av_plus.mp h).imp id fun e => by rw [e]; exact hp
/-- a new list at p is kept aside -/
theorem Rl.plus (r : Rl K C ow S σ H) (hp : H p = none) (vs : List V) : Rl K (C.plus p vs) ow S σ (upd H p (.lst vs)) := by
  have sm : Same H (upd H p (.lst vs)) := same_new hp
  have f0 := r.fresh0 hp
  have n := r.fresh hp
  refine ⟨r.len, fun i d e => ?_, fun i ds e => ?_, r.ows, r.inj, fun i ds a h1 h2 => ?_, r.ios, fun i a e => ?_, fun a h => ?_, fun a o h1 h2 => ?_, r.ns.move r.ns.big (fun _ _ q => q) (fun _ _ => rfl) (fun _ _ _ _ => rfl) (fun _ a o _ _ q => sm a o q) (fun ws ds q => RDs.mono (Ext.same sm) (grow_plus hp) ds ws q) (fun j a _ q z => ?_)⟩
  · obtain ⟨v, h1, h2⟩ := r.val i d e
    exact ⟨v, h1, RD.mono (Ext.same sm) (grow_plus hp) d v h2⟩
  · obtain ⟨a, ws, h1, h2, h3, h4⟩ := r.own i ds e
    exact ⟨a, ws, h1, h2, sm a _ h3, RDs.mono (Ext.same sm) (grow_plus hp) ds ws h4⟩
  · obtain ⟨g1, g2⟩ := r.frs i ds a h1 h2
    have ne : a ≠ p := fun e => n (by rw [← e]; exact .inr ⟨i, h2⟩)
    refine ⟨?_, fun z => z.elim g2 ne⟩
    show upd C.H0 p (.lst vs) a = none
    rw [upd_ne ne]
    exact g1
  · obtain ⟨g1, g2⟩ := r.iok i a e
    exact ⟨.inl g1, g2⟩
  · rcases h with h | h
    · obtain ⟨o, e⟩ := r.trk a h
      exact ⟨o, sm a o e⟩
    · rw [h]; exact ⟨_, upd_same⟩
  · change upd C.H0 p (.lst vs) a = some o at h1
    by_cases e : a = p
    · rw [e, upd_same] at h1 ⊢
      exact h1
    · rw [upd_ne e] at h1
      exact sm a o (r.ext a o h1 h2)
  · have ne : a ≠ p := fun e => n (by rw [← e]; exact .inr ⟨j, q⟩)
    refine ⟨?_, fun w => w.elim z.2 ne⟩
    show upd C.H0 p (.lst vs) a = none
    rw [upd_ne ne]
    exact z.1
/-- its content -/
theorem Rl.at (r : Rl K (C.plus p us) ow S σ H) (hA : ¬ C.A0 p) (hio : ∀ i a, C.io i = some a → C.A0 a) : H p = some (.lst us) :=
  r.ext p _ (show upd C.H0 p (.lst us) p = _ from upd_same) fun i z => hA (hio i p z)
/-- it changes -/
theorem Rl.replus (r : Rl K (C.plus p us) ow S σ H) (hA : ¬ C.A0 p) (hio : ∀ i a, C.io i = some a → C.A0 a) (ws : List V) : Rl K (C.plus p ws) ow S σ (upd H p (.lst ws)) := by
  have ap : av (C.plus p us) ow p := .inl (.inr rfl)
  have x : Ext (av (C.plus p us) ow) H (upd H p (.lst ws)) := fun a o n e => by
    rw [upd_ne (show a ≠ p from fun z => n (by rw [z]; exact ap))]
    exact e
  have np : ∀ i ds, S[i]? = some (.own ds) → ow i ≠ some p := fun i ds h z => (r.frs i ds p h z).2 (.inr rfl)
  have np2 : ∀ i ds, own? S[i]? = some ds → ow i ≠ some p := fun i ds e z => by
    cases q : S[i]? with
    | none => rw [q] at e; cases e
    | some x =>
      rw [q] at e
      cases x with
      | own d => exact np i d q z
      | io d => exact hA (hio i p ((r.ios i d q).trans z))
      | nil => cases e
      | val d => cases e
      | nst d => cases e
      | pair d ds => cases e
  have np3 : ∀ i a, NstAt S i → ow i = some a → a ≠ p := fun i a h e z => (r.ns.frn i a h e).2 (by rw [z]; exact .inr rfl)
  refine ⟨r.len, fun i d e => ?_, fun i ds e => ?_, r.ows, r.inj, fun i ds a h1 h2 => ?_, r.ios, r.iok, fun a h => ?_, fun a o h1 h2 => ?_, r.ns.move r.ns.big (fun _ _ q => q) (fun _ _ => rfl) (fun _ _ _ _ => rfl) (fun j a o q e1 e2 => by rw [upd_ne (np3 j a q e1)]; exact e2) (fun ws' ds q => RDs.mono x (Grow.refl _ _) ds ws' q) (fun j a q e z => ⟨?_, z.2⟩)⟩
  · obtain ⟨v, h1, h2⟩ := r.val i d e
    exact ⟨v, h1, RD.mono x (Grow.refl _ _) d v h2⟩
  · obtain ⟨a, vs, h1, h2, h3, h4⟩ := r.own i ds e
    refine ⟨a, vs, h1, h2, ?_, RDs.mono x (Grow.refl _ _) ds vs h4⟩
    rw [upd_ne (show a ≠ p from fun z => np2 i ds e (by rw [h1, z]))]
    exact h3
  · obtain ⟨g1, g2⟩ := r.frs i ds a h1 h2
    refine ⟨?_, g2⟩
    have ne : a ≠ p := fun z => np i ds h1 (by rw [h2, z])
    change upd C.H0 p (.lst us) a = none at g1
    show upd C.H0 p (.lst ws) a = none
    rw [upd_ne ne] at g1 ⊢
    exact g1
  · by_cases e : a = p
    · rw [e]; exact ⟨_, upd_same⟩
    · rw [upd_ne e]; exact r.trk a h
  · change upd C.H0 p (.lst ws) a = some o at h1
    by_cases e : a = p
    · rw [e, upd_same] at h1 ⊢
      exact h1
    · rw [upd_ne e] at h1 ⊢
      exact r.ext a o (show upd C.H0 p (.lst us) a = some o by rw [upd_ne e]; exact h1) h2
  · have ne := np3 j a q e
    have z1 := z.1
    change upd C.H0 p (.lst us) a = none at z1
    show upd C.H0 p (.lst ws) a = none
    rw [upd_ne ne] at z1 ⊢
    exact z1
/-- it is forgotten -/
theorem Rl.minus (r : Rl K (C.plus p us) ow S σ H) (h0 : C.H0 p = none) (hA : ¬ C.A0 p) (hio : ∀ i a, C.io i = some a → C.A0 a) : Rl K C ow S σ (del H p) := by
  have ap : av (C.plus p us) ow p := .inl (.inr rfl)
  have lt : ∀ a, av C ow a → av (C.plus p us) ow a := fun a z => av_plus.mpr (.inl z)
  have np3 : ∀ i a, NstAt S i → ow i = some a → a ≠ p := fun i a h e z => (r.ns.frn i a h e).2 (by rw [z]; exact .inr rfl)
  have np : ∀ i, ow i ≠ some p := fun i z => by
    by_cases eN : NstAt S i
    · exact np3 i p eN z rfl
    obtain ⟨ds, e⟩ := (r.ows i p z).resolve_right eN
    cases q : S[i]? with
    | none => rw [q] at e; cases e
    | some x =>
      rw [q] at e
      cases x with
      | own d => exact (r.frs i d p q z).2 (.inr rfl)
      | io d => exact hA (hio i p ((r.ios i d q).trans z))
      | nil => cases e
      | val d => cases e
      | nst d => cases e
      | pair d ds => cases e
  refine ⟨r.len, fun i d e => ?_, fun i ds e => ?_, r.ows, r.inj, fun i ds a h1 h2 => ?_, r.ios, fun i a e => ?_, fun a h => ?_, fun a o h1 h2 => ?_, r.ns.move r.ns.big (fun _ _ q => q) (fun _ _ => rfl) (fun _ _ _ _ => rfl) (fun j a o q e1 e2 => by rw [del_ne (np3 j a q e1)]; exact e2) (fun ws' ds q => RDs.mono (ext_del ap) (fun a z => .inl (lt a z)) ds ws' q) (fun j a q e z => ⟨?_, fun w => z.2 (.inl w)⟩)⟩
  · obtain ⟨v, h1, h2⟩ := r.val i d e
    exact ⟨v, h1, RD.mono (ext_del ap) (fun a z => .inl (lt a z)) d v h2⟩
  · obtain ⟨a, ws, h1, h2, h3, h4⟩ := r.own i ds e
    refine ⟨a, ws, h1, h2, ?_, RDs.mono (ext_del ap) (fun a z => .inl (lt a z)) ds ws h4⟩
    rw [del_ne (show a ≠ p from fun z => np i (by rw [h1, z]))]
    exact h3
  · obtain ⟨g1, g2⟩ := r.frs i ds a h1 h2
    refine ⟨?_, fun z => g2 (.inl z)⟩
    have ne : a ≠ p := fun z => np i (by rw [h2, z])
    change upd C.H0 p (.lst us) a = none at g1
    rw [upd_ne ne] at g1
    exact g1
  · exact ⟨hio i a e, (r.iok i a e).2⟩
  · rw [del_ne (show a ≠ p from fun z => hA (by rw [← z]; exact h))]
    exact r.trk a (.inl h)
  · have ne : a ≠ p := fun z => by rw [z, h0] at h1; cases h1
    rw [del_ne ne]
    exact r.ext a o (show upd C.H0 p (.lst us) a = some o by rw [upd_ne ne]; exact h1) h2
  · have ne := np3 j a q e
    have z1 := z.1
    change upd C.H0 p (.lst us) a = none at z1
    rw [upd_ne ne] at z1
    exact z1
/-- a slot that owns nothing is emptied -/
theorem Rl.wipe1 (r : Rl K C ow S σ H) {i : Nat} (hi : own? S[i]? = none) (hn : nn S[i]? = true) : Rl K C ow (S.set i .nil) (σ.set i none) H := by
  have gs : ∀ j, j ≠ i → (S.set i .nil)[j]? = S[j]? := fun j e => List.getElem?_set_ne (Ne.symm e)
  have gσ : ∀ j, j ≠ i → (σ.set i none)[j]? = σ[j]? := fun j e => List.getElem?_set_ne (Ne.symm e)
  have gi : ∀ x, (S.set i .nil)[i]? = some x → x = .nil := fun x h => by
    by_cases hl : i < S.length
    · rw [List.getElem?_set_self hl] at h; cases h; rfl
    · rw [List.getElem?_eq_none (by rw [List.length_set]; omega)] at h; cases h
  have key : ∀ j, own? (S.set i .nil)[j]? = own? S[j]? := fun j => by
    by_cases hj : j = i
    · subst hj
      rw [hi]
      cases e : (S.set j .nil)[j]? with
      | none => rfl
      | some x => rw [gi x e]; rfl
    · rw [gs j hj]
  refine ⟨by rw [List.length_set, List.length_set]; exact r.len, fun j d e => ?_, fun j ds e => ?_, fun j a e => ?_, r.inj, fun j ds a h1 h2 => ?_, fun j ds e => ?_, fun j a e => ?_, r.trk, r.ext, r.ns.move (by rw [List.length_set]; exact r.ns.big) (fun _ _ q => (nst_set hn rfl).mp q) (fun _ _ => rfl) (fun j d q _ => gσ j fun z => by rw [← z, q] at hn; cases hn) (fun _ _ _ _ _ q => q) (fun _ _ q => q) (fun _ _ _ _ z => z)⟩
  · by_cases hj : j = i
    · subst hj; have := gi _ e; cases this
    · rw [gs j hj] at e
      rw [gσ j hj]
      exact r.val j d e
  · rw [key j] at e
    obtain ⟨a, vs, h1, h2, h3, h4⟩ := r.own j ds e
    refine ⟨a, vs, h1, ?_, h3, h4⟩
    rw [gσ j fun z => by rw [z, hi] at e; cases e]
    exact h2
  · rw [key j]; exact (r.ows j a e).imp id fun z => z.of fun _ _ q => (nst_set hn rfl).mpr q
  · by_cases hj : j = i
    · subst hj; have := gi _ h1; cases this
    · rw [gs j hj] at h1
      exact r.frs j ds a h1 h2
  · by_cases hj : j = i
    · subst hj; have := gi _ e; cases this
    · rw [gs j hj] at e
      exact r.ios j ds e
  · obtain ⟨h1, ds, h2⟩ := r.iok j a e
    refine ⟨h1, ds, ?_⟩
    rw [gs j fun z => by rw [← z, h2] at hi; cases hi]
    exact h2
def wipeS : List Nat → En → En
  | [], S => S
  | v :: vs, S => (wipeS vs S).set v .nil
theorem wipeS_own {vs : List Nat} (h : ∀ v ∈ vs, own? S[v]? = none) : ∀ j : Nat, own? (wipeS vs S)[j]? = own? S[j]? := by
  induction vs with
  | nil => exact fun _ => rfl
  | cons v vs ih =>
    intro j
    have ih := ih fun w hw => h w (List.mem_cons_of_mem _ hw)
    show own? ((wipeS vs S).set v .nil)[j]? = own? S[j]?
    by_cases hj : v = j
    · subst hj
      rw [h v List.mem_cons_self]
      by_cases hl : v < (wipeS vs S).length
      · rw [List.getElem?_set_self hl]; rfl
      · rw [List.getElem?_eq_none (by rw [List.length_set]; omega)]; rfl
    · rw [List.getElem?_set_ne hj, ih]
theorem wipeS_nn {vs : List Nat} (h : ∀ v ∈ vs, nn S[v]? = true) : ∀ j : Nat, nn S[j]? = true → nn (wipeS vs S)[j]? = true := by
  induction vs with
  | nil => exact fun _ h => h
  | cons v vs ih =>
    intro j hj
    have ih := ih (fun w hw => h w (List.mem_cons_of_mem _ hw)) j hj
    show nn ((wipeS vs S).set v .nil)[j]? = true
    by_cases e : v = j
    · subst e
      by_cases hl : v < (wipeS vs S).length
      · rw [List.getElem?_set_self hl]; rfl
      · rw [List.getElem?_eq_none (by rw [List.length_set]; omega)]; rfl
    · rw [List.getElem?_set_ne e]; exact ih
theorem Rl.wipe (r : Rl K C ow S σ H) : ∀ {vs : List Nat}, (∀ v ∈ vs, own? S[v]? = none ∧ nn S[v]? = true) → Rl K C ow (wipeS vs S) (L2.wipe σ vs) H
  | [], _ => r
  | v :: vs, h => (Rl.wipe r fun w hw => h w (List.mem_cons_of_mem _ hw)).wipe1 (by rw [wipeS_own fun w hw => (h w (List.mem_cons_of_mem _ hw)).1]; exact (h v List.mem_cons_self).1) (wipeS_nn (fun w hw => (h w (List.mem_cons_of_mem _ hw)).2) v (h v List.mem_cons_self).2)
theorem Rl.quiet {C' : Cn} {S4 : En} {σ4 : St} {H4 : Hp} {w : Nat} (r : Rl K C ow S σ H) (h : own? S[w]? = none ∧ nn S[w]? = true) (r5 : Rl K C' ow S4 σ4 H4) : own? S4[w]? = none ∧ nn S4[w]? = true := by
  by_cases hw : w < 4096
  · have on := r.owNone h.1 h.2 hw
    refine ⟨?_, ?_⟩
    · cases e : own? S4[w]? with
      | none => rfl
      | some ds =>
        obtain ⟨a, _, h1, _⟩ := r5.own w ds e
        rw [on] at h1; cases h1
    · cases e : S4[w]? with
      | none => rfl
      | some x =>
        cases x with
        | nst d =>
          obtain ⟨a, h1, _⟩ := r5.ns.slot e
          rw [on] at h1; cases h1
        | _ => rfl
  · have := r5.ns.big
    rw [List.getElem?_eq_none (by omega)]
    exact ⟨rfl, rfl⟩
theorem Rl.wiped {vs : List Nat} {w : Nat} (r : Rl K C ow S (L2.wipe σ vs) H) (hw : (L2.wipe σ vs)[w]? = none ∨ (L2.wipe σ vs)[w]? = some none) : own? S[w]? = none ∧ nn S[w]? = true := by
  refine ⟨?_, ?_⟩
  · cases e : own? S[w]? with
    | none => rfl
    | some ds =>
      obtain ⟨a, _, _, h1, _⟩ := r.own w ds e
      rcases hw with hw | hw <;> rw [hw] at h1 <;> cases h1
  · cases e : S[w]? with
    | none => rfl
    | some x =>
      cases x with
      | nst d =>
        obtain ⟨a, _, h1⟩ := r.ns.slot e
        rcases hw with hw | hw <;> rw [hw] at h1 <;> cases h1
      | _ => rfl
/-- the slots vs as they were in S0 -/
def unwipe : List Nat → En → En → En
  | [], _, S => S
  | v :: vs, S0, S => match S0[v]? with
    | some x => (unwipe vs S0 S).set v x
    | none => unwipe vs S0 S
theorem unwipe_len : ∀ {vs : List Nat} {S0 S : En}, (unwipe vs S0 S).length = S.length
  | [], _, _ => rfl
  | v :: vs, S0, S => by
    unfold unwipe
    split
    · rw [List.length_set, unwipe_len]
    · exact unwipe_len
theorem unwipe_get : ∀ {vs : List Nat} {S0 S : En}, S0.length = S.length → ∀ j, (unwipe vs S0 S)[j]? = if j ∈ vs then S0[j]? else S[j]?
  | [], _, _, _, j => by rw [if_neg (by simp)]; rfl
  | v :: vs, S0, S, hl, j => by
    have ih := unwipe_get (vs := vs) hl
    unfold unwipe
    by_cases hj : v = j
    · subst hj
      rw [if_pos List.mem_cons_self]
      split
      · rename_i x e
        have := (List.getElem?_eq_some_iff.mp e).1
        rw [List.getElem?_set_self (by rw [unwipe_len]; omega), e]
      · rename_i e
        rw [ih v]
        have h1 := List.getElem?_eq_none_iff.mp e
        have h2 : S[v]? = none := List.getElem?_eq_none_iff.mpr (by omega)
        split <;> simp [e, h2]
    · have : ∀ T : En, (if j ∈ v :: vs then S0[j]? else S[j]?) = if j ∈ vs then S0[j]? else S[j]? := fun _ => by
        have : j ∈ v :: vs ↔ j ∈ vs := by
          rw [List.mem_cons]
          exact ⟨fun z => z.elim (fun z => absurd z.symm hj) id, .inr⟩
        simp only [this]
      rw [this S]
      split
      · rw [List.getElem?_set_ne hj, ih j]
      · exact ih j
theorem Rl.unwipe {C2 : Cn} {S0 : En} {H0 : Hp} {vs : List Nat} (r : Rl K C2 ow S (L2.wipe σ vs) H) (r0 : Rl K C ow S0 σ H0) (x : Ext (av C ow) H0 H) (gw : Grow (av C ow) (av C2 ow) H0) (h0' : ∀ v ∈ vs, own? S0[v]? = none ∧ nn S0[v]? = true) (hcw : C2.w = C.w := by first | rfl | assumption) : Rl K C2 ow (Ds.unwipe vs S0 S) σ H := by
  have hl : S0.length = S.length := by rw [r0.len, r.len, wipe_length]
  have g := unwipe_get (vs := vs) hl
  have h0 : ∀ v ∈ vs, own? S0[v]? = none := fun v hv => (h0' v hv).1
  have nS : ∀ v ∈ vs, own? S[v]? = none := fun v hv => (r0.quiet (h0' v hv) r).1
  have nN : ∀ (j : Nat) dss, (Ds.unwipe vs S0 S)[j]? = some (.nst dss) ↔ S[j]? = some (.nst dss) := fun j dss => by
    rw [g j]
    by_cases hj : j ∈ vs
    · rw [if_pos hj]
      have h1 := (h0' j hj).2
      have h2 := (r0.quiet (h0' j hj) r).2
      constructor
      · intro z; rw [z] at h1; cases h1
      · intro z; rw [z] at h2; cases h2
    · rw [if_neg hj]
  have key : ∀ j, own? (Ds.unwipe vs S0 S)[j]? = own? S[j]? := fun j => by
    rw [g j]
    by_cases hj : j ∈ vs
    · rw [if_pos hj, h0 j hj, nS j hj]
    · rw [if_neg hj]
  refine ⟨by rw [unwipe_len, r.len, wipe_length], fun j d e => ?_, fun j ds e => ?_, fun j a e => ?_, r.inj, fun j ds a h1 h2 => ?_, fun j ds e => ?_, fun j a e => ?_, r.trk, r.ext, r.ns.move (by rw [unwipe_len]; exact r.ns.big) (fun j d q => (nN j d).mp q) (fun _ _ => rfl) (fun j d q _ => ?_) (fun _ _ _ _ _ q => q) (fun _ _ q => q) (fun _ _ _ _ z => z)⟩
  · rw [g j] at e
    by_cases hj : j ∈ vs
    · rw [if_pos hj] at e
      obtain ⟨v, h1, h2⟩ := r0.val j d e
      exact ⟨v, h1, RD.mono x gw d v h2⟩
    · rw [if_neg hj] at e
      obtain ⟨v, h1, h2⟩ := r.val j d e
      exact ⟨v, (wipe_some h1).1, h2⟩
  · rw [key j] at e
    obtain ⟨a, ws, h1, h2, h3, h4⟩ := r.own j ds e
    exact ⟨a, ws, h1, (wipe_some h2).1, h3, h4⟩
  · rw [key j]; exact (r.ows j a e).imp id fun z => z.of fun j d q => (nN j d).mpr q
  · rw [g j] at h1
    by_cases hj : j ∈ vs
    · rw [if_pos hj] at h1
      have := h0 j hj
      rw [h1] at this; cases this
    · rw [if_neg hj] at h1
      exact r.frs j ds a h1 h2
  · have e' := e
    rw [g j] at e
    by_cases hj : j ∈ vs
    · rw [if_pos hj] at e
      have := h0 j hj
      rw [e] at this; cases this
    · rw [if_neg hj] at e
      exact r.ios j ds e
  · obtain ⟨h1, ds, h2⟩ := r.iok j a e
    refine ⟨h1, ds, ?_⟩
    rw [g j, if_neg fun hj => ?_]
    · exact h2
    · have := nS j hj
      rw [h2] at this; cases this
  · obtain ⟨a, _, h1⟩ := r.ns.slot q
    rw [h1, (wipe_some h1).1]
end
def lcL (g : GT) (t : STt) (e : SE) (vs : List Nat) : List PyData → En → R (List PyData)
  | [], S => .ok [] S
  | d :: ds, S => match g d S with
    | .nx S2 => (t S2).bind fun b S3 => if b = true then (e S3).bind fun y S4 => (lcL g t e vs ds (wipeS vs S4)).bind fun ys S5 => .ok (y :: ys) S5 else lcL g t e vs ds (wipeS vs S3)
    | _ => .no
def noEx {α : Type} (x : R α) : R α := match x with
  | .ok a S => .ok a S
  | _ => .no
@[simp] theorem noEx_ok {α : Type} (a : α) (S : En) : noEx (.ok a S) = .ok a S := rfl
def sLc (it : SN) (g : GT) (t : STt) (e : SE) (vs : List Nat) : SN := fun S => (it S).bind fun ds S1 =>
  if (vs.all fun v => (own? S1[v]?).isNone && nn S1[v]?) = true ∧ ds.length < sizeLine then (noEx (lcL g t e vs ds (wipeS vs S1))).bind fun ys S2 => .ok ys (unwipe vs S1 S2) else .no
def sYes : STt := fun S => .ok true S
abbrev W0 : WX := fun _ _ _ _ => False
section
variable {X : Cx} {W : WX} {C : Cn} {elt tg iter : Expr} {ifs : List Expr} {pos : Pos} {it : SN} {g : GT} {t : STt} {se : SE} {vs : List Nat}
theorem ts_nil : PTs X [] (xB X.K X.mg W C sYes) := ⟨fun pins s σ H Q I ⟨ow, S, r, q⟩ => pts_nil.run pins s σ H Q I (pst_ok (mg := X.mg) (W := W) (rel := relB) (d := true) r q rfl)⟩
theorem wipe_get : ∀ {vs : List Nat} {σ : St} (j : Nat), (L2.wipe σ vs)[j]? = if j ∈ vs then (σ[j]?).map (fun _ => none) else σ[j]?
  | [], σ, j => by rw [if_neg (by simp)]; rfl
  | v :: vs, σ, j => by
    have ih := wipe_get (vs := vs) (σ := σ) j
    show ((L2.wipe σ vs).set v none)[j]? = _
    by_cases hj : v = j
    · subst hj
      rw [if_pos List.mem_cons_self]
      by_cases hl : v < (L2.wipe σ vs).length
      · have hl' : v < σ.length := by rw [← wipe_length σ vs]; exact hl
        rw [List.getElem?_set_self hl, List.getElem?_eq_getElem hl']
        rfl
      · have hl' : ¬ v < σ.length := by rw [← wipe_length σ vs]; exact hl
        rw [List.getElem?_eq_none (by rw [List.length_set]; omega), List.getElem?_eq_none (by omega)]
        rfl
    · rw [List.getElem?_set_ne hj, ih]
      have : j ∈ v :: vs ↔ j ∈ vs := by
        rw [List.mem_cons]
        exact ⟨fun z => z.elim (fun z => absurd z.symm hj) id, .inr⟩
      simp only [this]
theorem wipe_eq {vs : List Nat} {σ σ' : St} (hl : σ'.length = σ.length) (h : ∀ j, j ∉ vs → σ'[j]? = (L2.wipe σ vs)[j]?) : L2.wipe σ' vs = L2.wipe σ vs := by
  apply List.ext_getElem?
  intro j
  rw [wipe_get j]
  by_cases hj : j ∈ vs
  · rw [if_pos hj, wipe_get j, if_pos hj]
    by_cases h1 : j < σ.length
    · rw [List.getElem?_eq_getElem h1, List.getElem?_eq_getElem (by omega : j < σ'.length)]
      rfl
    · rw [List.getElem?_eq_none (by omega : σ.length ≤ j), List.getElem?_eq_none (by omega : σ'.length ≤ j)]
  · rw [if_neg hj]
    exact h j hj
/-- the loop of a comprehension -/
def tLcP (P : Hp → Prop) (wi : TI) (g : TG) (tt : TT) (te : TE) (vs : List Nat) : TE := fun σ H Q => wi σ H fun J H1 => ∀ D, H1 D = none →
  ∃ W : Nat → Nat → Hp → Prop, (∃ m, W 0 m (upd H1 D (.lst []))) ∧ ∀ i m H, W i m H → P H ∧
    ((J.stop i H ∧ Q (.ref D) H) ∨ (J.go i H ∧ ∃ Nx : Hp → Prop, (∀ H', Nx H' → ∃ m', m' < m ∧ W (i + 1) m' H') ∧ ∀ x H', J.yld i H x H' →
      g x (wipe σ vs) H' fun σ2 H2 => wipe σ2 vs = wipe σ vs ∧ tt σ2 H2 fun b H3 =>
        if b = true then te σ2 H3 fun y H4 => ∃ acc, H4 D = some (.lst acc) ∧ acc.length < sizeLine ∧ Nx (upd H4 D (.lst (acc ++ [y]))) else Nx H3))
theorem lc_finP {σ : St} {H : Hp} {Q : VK} {K : PySem.W.Frag} {mg : Str → Option Value} {ts : List Nat} {Pr : Hp → Prop} (hpl : Plain g) (hts : ∀ j ∈ ts, j ∈ vs)
    (hPr : ∀ {ow : Ow} {T : En} {σ2 : St} {H1 H2 : Hp} {S1 : En} {D : Addr} {acc : List V}, Rl K C ow S1 σ H1 → H1 D = none → Rl K (C.plus D acc) ow T σ2 H2 → Pr H2) (h : xN K mg W C (sLc it g t se vs) σ H Q) :
    tLcP Pr (xI K mg W C it) (fun v σ' H' Q' => ∃ C' : CnW C, xT K C' g ts v σ' H' Q') (fun σ' H' Q' => ∃ C' : CnW C, xB K mg W0 C' t σ' H' Q') (fun σ' H' Q' => ∃ C' : CnW C, xE K mg W0 C' se σ' H' Q') vs σ H Q := by
  obtain ⟨ow, S, r, q⟩ := h
  change pst K mg W C (relN K) ow σ H Q (sLc it g t se vs S) at q
  unfold sLc at q
  refine ⟨ow, S, r, ?_⟩
  show pst K mg W C (relI K) ow σ H _ (it S)
  cases e0 : it S with
  | no => rw [e0] at q; exact q
  | ex c S' => rw [e0] at q; exact q
  | ok ds S1 =>
    rw [e0, bind_ok] at q
    intro J H1 r1 x1 id D hD
    by_cases z : (vs.all fun v => (own? S1[v]?).isNone && nn S1[v]?) = true ∧ ds.length < sizeLine
    · rw [if_pos z] at q
      have hv : ∀ v ∈ vs, own? S1[v]? = none ∧ nn S1[v]? = true := fun v hv => by
        have w := List.all_eq_true.mp z.1 v hv
        rw [Bool.and_eq_true] at w
        exact ⟨Option.isNone_iff_eq_none.mp w.1, w.2⟩
      have wz : ∀ w ∈ vs, (L2.wipe σ vs)[w]? = none ∨ (L2.wipe σ vs)[w]? = some none := fun w hw => by
        rw [wipe_get w, if_pos hw]
        cases σ[w]? with
        | none => exact .inl rfl
        | some o => exact .inr rfl
      have f0 := r1.fresh0 hD
      have hio : ∀ i a, C.io i = some a → C.A0 a := fun i a e => (r1.iok i a e).1
      have nD : ¬ av C ow D := r1.fresh hD
      cases eL : lcL g t se vs ds (wipeS vs S1) with
      | no => rw [eL] at q; exact q.elim
      | ex c S' => rw [eL] at q; exact q.elim
      | ok zs S2 =>
        rw [eL, noEx_ok, bind_ok] at q
        refine ⟨fun i m H2 => m = ds.length - i ∧ i ≤ ds.length ∧ ∃ T acc ys us, Rl K (C.plus D acc) ow T (wipe σ vs) H2 ∧ Ext (av C ow) H1 (del H2 D) ∧ H2 D = some (.lst acc) ∧ RDs K (av (C.plus D acc) ow) H2 acc ys ∧ acc.length ≤ i ∧ lcL g t se vs (ds.drop i) T = .ok us S2 ∧ ys ++ us = zs,
          ⟨ds.length, by omega, by omega, wipeS vs S1, [], [], zs, (r1.plus hD []).wipe hv, fun a o n e => ?_, upd_same, .nil, Nat.le_refl _, eL, rfl⟩, ?_⟩
        · have ne : a ≠ D := fun w => by rw [w, hD] at e; cases e
          rw [del_ne ne, upd_ne ne]
          exact e
        rintro i m H2 ⟨rfl, hi, T, acc, ys, us, r2, x2, hacc, rds, hlen, eT, eys⟩
        refine ⟨hPr r1 hD r2, ?_⟩
        have xD : ∀ {A B : Hp}, Ext (av C ow) A (del B D) → Ext (av C ow) A B := fun {A B} x a o n e => by
          have w := x a o n e
          by_cases ne : a = D
          · rw [ne, del_same] at w; cases w
          · rw [del_ne ne] at w; exact w
        obtain ⟨w1, w2, w3⟩ := id (av (C.plus D acc) ow) H2 (xD x2) (grow_plus hD) rfl r2.tracked
        by_cases hlt : i < ds.length
        · refine .inr ⟨w1 i hlt, _, fun H3 z => ⟨ds.length - (i + 1), by omega, z⟩, fun v H3 y => ?_⟩
          have ed : ds[i]? = some ds[i] := List.getElem?_eq_getElem hlt
          obtain ⟨sm, rd⟩ := w3 i ds[i] v H3 ed y
          rw [List.drop_eq_getElem_cons hlt] at eT
          change (match g ds[i] T with
            | .nx S2 => (t S2).bind fun b S3 => if b = true then (se S3).bind fun y S4 => (lcL g t se vs (ds.drop (i + 1)) (wipeS vs S4)).bind fun ys S5 => .ok (y :: ys) S5 else lcL g t se vs (ds.drop (i + 1)) (wipeS vs S3)
            | _ => .no) = .ok us S2 at eT
          refine ⟨⟨C.plus D acc, rfl⟩, ow, T, ds[i], r2.same sm, rd, ?_⟩
          rcases hpl ds[i] T with ⟨S3, e⟩ | e
          · rw [e] at eT ⊢
            simp only at eT
            intro σ3 H4 r3 x3 c3
            have ew : L2.wipe σ3 vs = L2.wipe σ vs := wipe_eq (c3.1.trans (wipe_length σ vs)) fun j hj => c3.2 j fun w => hj (hts j w)
            refine ⟨ew, ⟨C.plus D acc, rfl⟩, ow, S3, r3, ?_⟩
            -- what stays
            have xx : ∀ {B : Hp}, Ext (av (C.plus D acc) ow) H4 B → Ext (av C ow) H1 (del B D) := fun {B} x a o n e => by
              have e2 := x2 a o n e
              have ne : a ≠ D := fun w => by rw [w, hD] at e; cases e
              rw [del_ne ne] at e2 ⊢
              have nn : ¬ av (C.plus D acc) ow a := fun w => (av_plus.mp w).elim n ne
              exact x a o nn (x3 a o nn (sm a o e2))
            show pst K mg W0 (C.plus D acc) relB ow σ3 H4 _ (t S3)
            cases et : t S3 with
            | no => rw [et] at eT; cases eT
            | ex c S' => rw [et] at eT; cases eT
            | ok b S4 =>
              rw [et, bind_ok] at eT
              intro b' H5 r5 x5 eb
              have eb' : b' = b := eb
              subst eb'
              have r5w := r5.wipe (vs := vs) fun w hw => r2.quiet (r2.wiped (wz w hw)) r5
              rw [ew] at r5w
              have sA : Ext (av (C.plus D acc) ow) H2 H5 := (Ext.same sm).trans (Grow.refl _ _) (x3.trans (Grow.refl _ _) x5)
              cases b' with
              | false => exact iteF ⟨rfl, hlt, wipeS vs S4, acc, ys, us, r5w, xx x5, r5.at f0.2 hio, RDs.mono sA (Grow.refl _ _) ys acc rds, by omega, eT, eys⟩
              | true =>
                refine iteT ⟨⟨C.plus D acc, rfl⟩, ow, S4, r5, ?_⟩
                show pst K mg W0 (C.plus D acc) (relE K) ow σ3 H5 _ (se S4)
                simp only [if_true] at eT
                cases es : se S4 with
                | no => rw [es] at eT; cases eT
                | ex c S' => rw [es] at eT; cases eT
                | ok yd S6 =>
                  rw [es, bind_ok] at eT
                  intro yv H6 r6 x6 ry
                  cases eR : lcL g t se vs (ds.drop (i + 1)) (wipeS vs S6) with
                  | no => rw [eR] at eT; cases eT
                  | ex c S' => rw [eR] at eT; cases eT
                  | ok us' S7 =>
                    rw [eR, bind_ok] at eT
                    cases eT
                    have r6w := r6.wipe (vs := vs) fun w hw => r5w.quiet (r5w.wiped (wz w hw)) r6
                    rw [ew] at r6w
                    have rp := r6w.replus f0.2 hio (acc ++ [yv])
                    have nx : Ext (av (C.plus D acc) ow) H6 (upd H6 D (.lst (acc ++ [yv]))) := fun a o n e => by
                      rw [upd_ne (show a ≠ D from fun w => n (by rw [w]; exact .inl (.inr rfl)))]
                      exact e
                    refine ⟨acc, r6.at f0.2 hio, by omega, rfl, hlt, wipeS vs S6, acc ++ [yv], ys ++ [yd], us', rp, xx ((x5.trans (Grow.refl _ _) x6).trans (Grow.refl _ _) nx), upd_same, ?_, by rw [List.length_append, List.length_singleton]; omega, eR, by rw [List.append_assoc]; exact eys⟩
                    have q1 := RDs.mono ((sA.trans (Grow.refl _ _) x6).trans (Grow.refl _ _) nx) (Grow.refl _ _) ys acc rds
                    exact q1.append (.cons (RD.mono nx (Grow.refl _ _) yd yv ry) .nil)
          · rw [e] at eT
            cases eT
        · have e : i = ds.length := by omega
          subst e
          rw [List.drop_length] at eT
          cases eT
          rw [List.append_nil] at eys
          subst eys
          refine .inl ⟨w2, ?_⟩
          have rm := r2.minus f0.1 f0.2 hio
          have r0 := rm.unwipe r1 x2 (Grow.refl _ _) hv
          have rds' := RDs.mono (ext_del (H := H2) (av := av (C.plus D acc) ow) (.inl (.inr rfl))) (fun a w => .inl (av_plus.mpr (.inl w))) ys acc rds
          have e2 : H2 = upd (del H2 D) D (.lst acc) := (upd_del hacc).symm
          rw [e2]
          exact q _ _ (r0.same (same_new del_same)) ((x1.trans (Grow.refl _ _) x2).trans (Grow.refl _ _) (Ext.same (same_new del_same))) ⟨D, acc, del H2 D, rfl, del_same, rfl, x1.trans (Grow.refl _ _) x2, r0, rds'⟩
    · rw [if_neg z] at q
      exact q.elim
theorem lc_fin {σ : St} {H : Hp} {Q : VK} {K : PySem.W.Frag} {mg : Str → Option Value} {ts : List Nat} (hpl : Plain g) (hts : ∀ j ∈ ts, j ∈ vs) (h : xN K mg W C (sLc it g t se vs) σ H Q) :
    tLc (xI K mg W C it) (fun v σ' H' Q' => ∃ C' : CnW C, xT K C' g ts v σ' H' Q') (fun σ' H' Q' => ∃ C' : CnW C, xB K mg W0 C' t σ' H' Q') (fun σ' H' Q' => ∃ C' : CnW C, xE K mg W0 C' se σ' H' Q') vs σ H Q := by
  have w := lc_finP (Pr := fun _ => True) hpl hts (fun _ _ _ => trivial) h
  obtain ⟨ow, S, r, q⟩ := w
  refine ⟨ow, S, r, pst_imp q fun J H1 q2 D hD => ?_⟩
  obtain ⟨Wv, h0, hs⟩ := q2 D hD
  exact ⟨Wv, h0, fun i m H3 w => (hs i m H3 w).2⟩
end
end Ds
end
section
set_option Elab.async false
set_option linter.all false
set_option maxRecDepth 100000
set_option maxHeartbeats 4000000
namespace Ds
open PySem PySem.Spec PyProof.Rows L2
section
variable {X : Cx} {W : WX} {C : Cn} {elt tg iter e : Expr} {ifs : List Expr} {pos : Pos} {it sn : SN} {g : GT} {t : STt} {se : SE} {vs ts : List Nat} {scope : Scope} {own : List (Str × Nat)} {i : Nat}
theorem n_lc (hc : X.calm = true) (hN : X.N.Nodup) (hpl : Plain g) (hts : ∀ j ∈ ts, j ∈ own.map (·.2)) (hi : PI X tg iter (xI X.K X.mg W C it)) (ok : BlkOk X.N X.env.scope scope own)
    (hg : ∀ (s : Shared) (H : Hp) (A : Addr) (cl : List (Str × Addr)) (fp : List Addr) (C' : CnW C), PG (X.blk s H scope (compEnvC scope cl A X.env) fp) tg (xT X.K C' g ts))
    (ht : ∀ (s : Shared) (H : Hp) (A : Addr) (cl : List (Str × Addr)) (fp : List Addr) (C' : CnW C), PTs (X.blk s H scope (compEnvC scope cl A X.env) fp) ifs (xB X.K X.mg W0 C' t))
    (he : ∀ (s : Shared) (H : Hp) (A : Addr) (cl : List (Str × Addr)) (fp : List Addr) (C' : CnW C), PE (X.blk s H scope (compEnvC scope cl A X.env) fp) elt (xE X.K X.mg W0 C' se))
    (hs : ∀ x, foldedSetIterable iter X.env x = pure x := by intro _; rfl) : PE X (.ListComp elt [⟨tg, iter, ifs, 0⟩] scope pos) (xN X.K X.mg W C (sLc it g t se (own.map (·.2)))) :=
  pe_imp (pe_lc (g := fun v σ' H' Q' => ∃ C' : CnW C, xT X.K C' g ts v σ' H' Q') (tt := fun σ' H' Q' => ∃ C' : CnW C, xB X.K X.mg W0 C' t σ' H' Q') (te := fun σ' H' Q' => ∃ C' : CnW C, xE X.K X.mg W0 C' se σ' H' Q') hc hN hi ok
    (fun s H A cl fp => ⟨fun pins s' σ H' v u Q I r ⟨C', q⟩ => (hg s H A cl fp C').run pins s' σ H' v u Q I r q⟩)
    (fun s H A cl fp => ⟨fun pins s' σ H' Q I ⟨C', q⟩ => (ht s H A cl fp C').run pins s' σ H' Q I q⟩)
    (fun s H A cl fp => ⟨fun pins s' σ H' Q I ⟨C', q⟩ => (he s H A cl fp C').run pins s' σ H' Q I q⟩) hs) fun σ H Q h => lc_fin hpl hts h
theorem asgE {σ : St} {H : Hp} {D : Ends} (h : xS X.K X.mg W C (sSet i (sNE sn)) D σ H) : xN X.K X.mg W C sn σ H fun v H1 => D.nx (σ.set i (some v)) H1 := by
  obtain ⟨ow, S, r, q⟩ := h
  change sst X.K X.mg W C ow H D (((sn S).bind fun ds S' => .ok (.list ds) S').st fun d S' => put i (.val d) S') at q
  refine ⟨ow, S, r, ?_⟩
  show pst X.K X.mg W C (relN X.K) ow σ H _ (sn S)
  cases e : sn S with
  | no => rw [e] at q; exact q
  | ex c S' => rw [e] at q; exact fun H' r' x => q ow σ H' r' x (Grow.refl _ _)
  | ok ds S' =>
    rw [e] at q
    rintro v H' r' x ⟨a, ws, Hm, h1, h2, h3, h4, h5, h6⟩
    subst h1
    subst h3
    exact put_val r' (rd_newL h5.tracked h6 h2) (sst_from x (Grow.refl _ _) q)
section
variable {y : Str} {py spos : Pos}
theorem lc_set {P : TS} (hc : X.calm = true) (hN : X.N.Nodup) (hy : X.N[i]? = some y) (hyl : X.env.scope.names.lookup y = some .local) (hsw : swapsWith (.ListComp elt [⟨tg, iter, ifs, 0⟩] scope pos) (some (.Name y py)) spos.line X.env = pure true)
    (hpl : Plain g) (hts : ∀ j ∈ ts, j ∈ own.map (·.2)) (hi : PI X tg iter (xI X.K X.mg W C it)) (ok : BlkOk X.N X.env.scope scope own)
    (hg : ∀ (s : Shared) (H : Hp) (A : Addr) (cl : List (Str × Addr)) (fp : List Addr) (C' : CnW C), PG (X.blk s H scope (compEnvC scope cl A X.env) fp) tg (xT X.K C' g ts))
    (ht : ∀ (s : Shared) (H : Hp) (A : Addr) (cl : List (Str × Addr)) (fp : List Addr) (C' : CnW C), PTs (X.blk s H scope (compEnvC scope cl A X.env) fp) ifs (xB X.K X.mg W0 C' t))
    (he : ∀ (s : Shared) (H : Hp) (A : Addr) (cl : List (Str × Addr)) (fp : List Addr) (C' : CnW C), PE (X.blk s H scope (compEnvC scope cl A X.env) fp) elt (xE X.K X.mg W0 C' se))
    (hsn : ∀ D σ H, P D σ H → xN X.K X.mg W C (sLc it g t se (own.map (·.2))) σ H fun v H1 => D.nx (σ.set i (some v)) H1)
    (hs : ∀ x, foldedSetIterable iter X.env x = pure x := by intro _; rfl) : PS X (.Assign [.Name y py] (.ListComp elt [⟨tg, iter, ifs, 0⟩] scope pos) spos) P :=
  ps_imp (ps_setLc (g := fun v σ' H' Q' => ∃ C' : CnW C, xT X.K C' g ts v σ' H' Q') (tt := fun σ' H' Q' => ∃ C' : CnW C, xB X.K X.mg W0 C' t σ' H' Q') (te := fun σ' H' Q' => ∃ C' : CnW C, xE X.K X.mg W0 C' se σ' H' Q') hc hN hy hyl hsw hi ok
    (fun s H A cl fp => ⟨fun pins s' σ H' v u Q I r ⟨C', q⟩ => (hg s H A cl fp C').run pins s' σ H' v u Q I r q⟩)
    (fun s H A cl fp => ⟨fun pins s' σ H' Q I ⟨C', q⟩ => (ht s H A cl fp C').run pins s' σ H' Q I q⟩)
    (fun s H A cl fp => ⟨fun pins s' σ H' Q I ⟨C', q⟩ => (he s H A cl fp C').run pins s' σ H' Q I q⟩) hs) fun D σ H h => lc_fin hpl hts (hsn D σ H h)
end
theorem Rl.freeze {K : PySem.W.Frag} {ow : Ow} {S : En} {σ : St} {H : Hp} (r : Rl K C ow S σ H) {ds : List PyData} (hi : S[i]? = some (.own ds)) : ∃ ow', Rl K C ow' (S.set i (.val (.list ds))) σ H ∧ Grow (av C ow) (av C ow') H := by
  obtain ⟨p, vs, h1, h2, h3, h4⟩ := r.own i ds (by rw [hi]; rfl)
  have hl : i < S.length := (List.getElem?_eq_some_iff.mp hi).1
  have f := r.frs i ds p hi h1
  have lt : ∀ a, av C (owSet ow i none) a → av C ow a := fun a z => (av_set z).elim id fun z => by cases z
  have np : ¬ av C (owSet ow i none) p := fun z => by
    rcases z with z | ⟨j, z⟩
    · exact f.2 z
    · unfold owSet at z
      by_cases hj : j = i
      · rw [if_pos hj] at z; cases z
      · rw [if_neg hj] at z
        exact hj (r.inj j i p z h1)
  have gs : ∀ j, j ≠ i → (S.set i (.val (.list ds)))[j]? = S[j]? := fun j e => List.getElem?_set_ne (Ne.symm e)
  have gi : (S.set i (.val (.list ds)))[i]? = some (.val (.list ds)) := List.getElem?_set_self hl
  have oj : ∀ j, j ≠ i → owSet ow i none j = ow j := fun j e => if_neg e
  have oi : owSet ow i none i = none := if_pos rfl
  have hn : nn S[i]? = true := by rw [hi]; rfl
  have h4' : i < 4096 := Nat.lt_of_lt_of_le hl r.ns.big
  refine ⟨owSet ow i none, ⟨by rw [List.length_set]; exact r.len, fun j d e => ?_, fun j es e => ?_, fun j a e => ?_, fun j k a e1 e2 => ?_, fun j es a e1 e2 => ?_, fun j es e => ?_, fun j a e => ?_, r.trk, r.ext, r.ns.move (by rw [List.length_set]; exact r.ns.big) (fun _ _ q => (nst_set hn rfl).mp q) (fun j q => oj j (q.ne hn h4')) (fun _ _ _ _ => rfl) (fun _ _ _ _ _ q => q) (fun _ _ q => rds_less q lt) (fun _ _ _ _ z => z)⟩, fun a z => .inl (lt a z)⟩
  · by_cases hj : j = i
    · subst hj
      rw [gi] at e
      cases e
      exact ⟨.ref p, h2, .lst (.inl ⟨.inl h3, np⟩) (rds_less h4 lt)⟩
    · rw [gs j hj] at e
      obtain ⟨w, e1, e2⟩ := r.val j d e
      exact ⟨w, e1, rd_less e2 lt⟩
  · by_cases hj : j = i
    · subst hj; rw [gi] at e; cases e
    · rw [gs j hj] at e
      obtain ⟨a, ws, e1, e2, e3, e4⟩ := r.own j es e
      exact ⟨a, ws, by rw [oj j hj]; exact e1, e2, e3, rds_less e4 lt⟩
  · by_cases hj : j = i
    · subst hj; rw [oi] at e; cases e
    · rw [oj j hj] at e
      rw [gs j hj]
      exact (r.ows j a e).imp id fun z => z.of fun _ _ q => (nst_set hn rfl).mpr q
  · by_cases hj : j = i
    · subst hj; rw [oi] at e1; cases e1
    · by_cases hk : k = i
      · subst hk; rw [oi] at e2; cases e2
      · rw [oj j hj] at e1
        rw [oj k hk] at e2
        exact r.inj j k a e1 e2
  · by_cases hj : j = i
    · subst hj; rw [gi] at e1; cases e1
    · rw [gs j hj] at e1
      rw [oj j hj] at e2
      exact r.frs j es a e1 e2
  · by_cases hj : j = i
    · subst hj; rw [gi] at e; cases e
    · rw [gs j hj] at e
      rw [oj j hj]
      exact r.ios j es e
  · obtain ⟨g1, es, g2⟩ := r.iok j a e
    refine ⟨g1, es, ?_⟩
    rw [gs j fun z => by rw [z, hi] at g2; cases g2]
    exact g2
def sFrz (i : Nat) (s : SS) : SS := fun S => match own1? S[i]? with
  | some ds => s (S.set i (.val (.list ds)))
  | none => .no
theorem ss_frz {sts : List Stmt} {s : SS} (i : Nat) (h : PSs X sts (xS X.K X.mg W C s)) : PSs X sts (xS X.K X.mg W C (sFrz i s)) := pss_imp h fun D σ H ⟨ow, S, r, q⟩ => by
  change sst X.K X.mg W C ow H D (sFrz i s S) at q
  unfold sFrz at q
  cases e : own1? S[i]? with
  | none => rw [e] at q; exact q.elim
  | some ds =>
    rw [e] at q
    obtain ⟨ow', r', g'⟩ := r.freeze (own1?_some e)
    exact ⟨ow', _, r', sst_from (Ext.refl _ _) g' q⟩
def setI (ds : List PyData) (k d : PyData) : Option (List PyData) := match k with
  | .int j => if 0 ≤ j ∧ j < ds.length then some (ds.set j.toNat d) else none
  | _ => none
def sSetIx (i : Nat) (sk se : SE) : SS := fun S => (se S).st fun d S1 => if (own? S1[i]?).isSome = true then (sk S1).st fun k S2 => match own? S2[i]? with
  | some ds => match setI ds k d with
    | some es => .nx (upL i es S2)
    | none => .no
  | none => .no
  else .no
theorem s_setIx {sk : SE} {k : Expr} (he : PE X e (xE X.K X.mg W C se)) (hk : PE X k (xE X.K X.mg W C sk)) (hp : ∀ {t u : TE}, PE X e t → PE X k u → PS X (.Assign [tg] e pos) (tAsg t (gSub (tVar i) u rSetL))) : PS X (.Assign [tg] e pos) (xS X.K X.mg W C (sSetIx i sk se)) :=
  ps_imp (hp he hk) fun D σ H ⟨ow, S, r, q⟩ => seqS r q fun S1 d x H1 r1 x1 rd k1 => by
    cases e1 : own? S1[i]? with
    | none => rw [e1] at k1; exact k1.elim
    | some ds =>
      rw [e1] at k1
      obtain ⟨a, vs, h0, h1, h2, h3⟩ := r1.own i ds e1
      refine ⟨.ref a, h1, seqS r1 k1 fun S2 kd kv H2 r2 x2 rk k2 => ?_⟩
      cases e2 : own? S2[i]? with
      | none => rw [e2] at k2; exact k2.elim
      | some es =>
        rw [e2] at k2
        obtain ⟨b, ws, g0, g1, g2, g3⟩ := r2.own i es e2
        rw [h0] at g0; cases g0
        cases rk with
        | int j =>
          change sst X.K X.mg W C ow H2 D (match setI es (.int j) d with | some es => .nx (upL i es S2) | none => .no) at k2
          unfold setI at k2
          by_cases z : 0 ≤ j ∧ j < es.length
          · simp only [if_pos z] at k2
            have hw : ws.length = es.length := g3.len
            obtain ⟨r3, x3⟩ := r2.up (es := es.set j.toNat d) (vs := ws.set j.toNat x) e2 h0 (RDs.set (RD.mono x2 (Grow.refl _ _) d x rd) j.toNat g3)
            exact ⟨a, ws, j, j.toNat, rfl, rfl, g2, by unfold ixN; rw [if_pos z.1, if_pos (by omega)], k2 ow σ _ r3 x3 (Grow.refl _ _)⟩
          · simp only [if_neg z] at k2
            exact k2.elim
        | _ => exact k2.elim
/-- a new list at p, kept aside, comes into slot i -/
theorem Rl.adopt {K : PySem.W.Frag} {ow : Ow} {S : En} {σ : St} {H : Hp} {p : Addr} {vs : List V} {ds : List PyData} (r : Rl K (C.plus p vs) ow S σ H) (h0 : C.H0 p = none) (hA : ¬ C.A0 p) (hio : ∀ i a, C.io i = some a → C.A0 a) (hi : noio S[i]? = true) (rd : RDs K (av (C.plus p vs) ow) H vs ds) :
    Rl K C (owSet ow i (some p)) (S.set i (.own ds)) (σ.set i (some (.ref p))) H := by
  have hm := r.minus h0 hA hio
  have e := r.at hA hio
  have rd' := RDs.mono (ext_del (H := H) (av := av (C.plus p vs) ow) (.inl (.inr rfl))) (fun a w => .inl (av_plus.mpr (.inl w))) ds vs rd
  have := hm.putN hi del_same rd'
  rw [upd_del e] at this
  exact this
/-- x, y = e1, e2, two new lists -/
def sPar (i j : Nat) (s1 s2 : SN) : SS := fun S => (s1 S).st fun ds S1 => (noEx (s2 S1)).st fun es S2 => match put i (.own ds) S2 with
  | .nx S3 => put j (.own es) S3
  | _ => .no
theorem s_par {e1 e2 : Expr} {s1 s2 : SN} {j : Nat} {tgs : List Expr} {k2 pt2} (h1 : PE X e1 (xN X.K X.mg W C s1)) (h2 : ∀ C', PE X e2 (xN X.K X.mg W C' s2)) (hij : i ≠ j)
    (hp : ∀ {t u : TE}, PE X e1 t → PE X e2 u → PS X (.Assign tgs (.Tuple [e1, e2] k2 pt2) pos) (tPar i j (tCons t (tCons u tNil)))) : PS X (.Assign tgs (.Tuple [e1, e2] k2 pt2) pos) (xS X.K X.mg W C (sPar i j s1 s2)) :=
  ps_imp (hp (u := fun σ H Q => ∃ C', xN X.K X.mg W C' s2 σ H Q) h1 ⟨fun pins s σ H Q I ⟨C', q⟩ => (h2 C').run pins s σ H Q I q⟩) fun D σ H ⟨ow, S, r, q⟩ => by
    change sst X.K X.mg W C ow H D ((s1 S).st fun ds S1 => (noEx (s2 S1)).st fun es S2 => match put i (.own ds) S2 with | .nx S3 => put j (.own es) S3 | _ => .no) at q
    refine ⟨ow, S, r, ?_⟩
    show pst X.K X.mg W C (relN X.K) ow σ H _ (s1 S)
    cases ea : s1 S with
    | no => rw [ea] at q; exact q
    | ex c S' => rw [ea] at q; exact fun H' r' x => q ow σ H' r' x (Grow.refl _ _)
    | ok ds S1 =>
      rw [ea] at q
      rintro v H1 r1 x1 ⟨a, vs, Hm, e1, e2, e3, e4, e5, e6⟩
      subst e1
      subst e3
      have f0 := e5.fresh0 e2
      have hio : ∀ i a, C.io i = some a → C.A0 a := fun i a e => (e5.iok i a e).1
      have rp := e5.plus e2 vs
      refine ⟨C.plus a vs, ow, S1, rp, ?_⟩
      show pst X.K X.mg W (C.plus a vs) (relN X.K) ow σ _ _ (s2 S1)
      rw [st_ok] at q
      cases eb : s2 S1 with
      | no => rw [eb] at q; exact q
      | ex c S' => rw [eb] at q; exact q.elim
      | ok es S2 =>
        rw [eb, noEx_ok, st_ok] at q
        rintro w H2 r2 x2 ⟨b, ws, Hn, g1, g2, g3, g4, g5, g6⟩
        subst g1
        subst g3
        refine ⟨.ref a, .ref b, rfl, ?_⟩
        unfold put at q
        by_cases hi : noio S2[i]? = true
        · simp only [if_pos hi] at q
          by_cases hj : noio (S2.set i (.own ds))[j]? = true
          · simp only [if_pos hj] at q
            have rds := RDs.mono ((Ext.same (same_new e2)).trans (grow_plus (us := vs) e2) g4) (grow_plus (us := vs) e2) ds vs e6
            have ra := g5.adopt (i := i) f0.1 f0.2 hio hi rds
            have ex1 : Ext (av C ow) Hm Hn := fun c o n e => g4 c o (fun z => (av_plus.mp z).elim n fun z => by rw [z, e2] at e; cases e) ((same_new e2) c o e)
            have gr : Grow (av C ow) (av C (owSet ow i (some a))) Hm := grow_set fun c z => by cases z; exact e2
            have g6' : RDs X.K (av C (owSet ow i (some a))) Hn ws es := rds_less g6 fun c z => av_plus.mpr ((av_set z).imp id fun z => by cases z; rfl)
            have rb := ra.putN (i := j) hj g2 g6'
            refine q _ _ _ rb ?_ ?_
            · exact (e4.trans (Grow.refl _ _) ex1).trans (Grow.refl _ _) (Ext.same (same_new g2))
            · exact Grow.trans (Grow.refl _ _) e4 (gr.trans ex1 (grow_set fun c z => by cases z; exact g2))
          · simp only [if_neg hj] at q
            exact q.elim
        · simp only [if_neg hi] at q
          exact q.elim
end
end Ds
end
section
set_option Elab.async false
set_option linter.all false
set_option maxRecDepth 100000
set_option maxHeartbeats 4000000
namespace Ds
open PySem PySem.Spec PyProof.Rows L2
section
variable {X : Cx}
/-- l + m for lists of any kind -/
def rCatS (K : PySem.W.Frag) : R2 := fun x y H Q => ∃ l b xs zs, x = .ref l ∧ y = .ref b ∧ SqL K H l xs ∧ SqL K H b zs ∧ xs.length + zs.length ≤ sizeLine ∧ ∀ p, H p = none → Q (.ref p) (upd H p (.lst (xs ++ zs)))
theorem op_catS : OpR X (binaryOp .Add) (rCatS X.K) := by
  intro pins s σ H x y v u Q I rx ry h
  obtain ⟨l, b, xs, zs, rfl, rfl, hH, hB, hz, q⟩ := h
  cases rx
  cases ry
  obtain ⟨its, r, p1, z1⟩ := I.list hH
  obtain ⟨its2, r2, p2, z2⟩ := I.list hB
  obtain ⟨⟨c, dd, dt, sl⟩, n, e, h1, h2, h3⟩ := p1
  obtain ⟨⟨c', dd', dt', sl'⟩, n', e', h1', h2', h3'⟩ := p2
  simp only at h1 h2 h3 h1' h2' h3'
  subst h1 h2 h3 h1' h2' h3'
  have es : its.toArray ++ its2.toArray = (its ++ its2).toArray := by simp
  refine concat_meets ⟨_, e, rfl⟩ ⟨_, e', rfl⟩ noFill_list_add seq_list_add PySem.F.slot_list_add PySem.F.entry_list_add (PySem.F.args_list_add_2 _ _) (list_addW l b its.toArray its2.toArray n n' none none sl sl' (by rw [List.size_toArray, List.size_toArray, ← r.length, ← r2.length]; exact hz)) ⟨e, e', ?_⟩
  rw [es]
  exact ⟨.ref _, _, I.lnew (t' := s.toks) (r.append r2) (by rw [List.length_append]; exact hz), rfl, q _ I.fresh⟩
variable {K : PySem.W.Frag}
/-- x + y -/
def gAdd : PyData → PyData → Option PyData
  | .int i, .int j => some (.int (i + j))
  | .str x, .str y => if x.length + y.length ≤ sizeLine then some (.str (x ++ y)) else none
  | .tuple xs, .tuple ys => if xs.length + ys.length ≤ sizeLine then some (.tuple (xs ++ ys)) else none
  | .list xs, .list ys => if xs.length + ys.length ≤ sizeLine then some (.list (xs ++ ys)) else none
  | _, _ => none
def rCatF (K : PySem.W.Frag) : R2 := fun x y H Q => ∃ a b xs ys, x = .ref a ∧ y = .ref b ∧ SqT K H a xs ∧ SqT K H b ys ∧ xs.length + ys.length ≤ sizeLine ∧ (xs = [] → Q (.ref b) H) ∧ (xs ≠ [] → ys = [] → Q (.ref a) H) ∧ (xs ≠ [] → ys ≠ [] → NT H (xs ++ ys) Q)
theorem op_catF {X : Cx} : OpR X (binaryOp .Add) (rCatF X.K) := by
  intro pins s σ H x y v u Q I rx ry h
  obtain ⟨a, b, xs, ys, rfl, rfl, ha, hb, hz, q0, q1, q2⟩ := h
  cases rx
  cases ry
  obtain ⟨us, r1, p1, _⟩ := I.tuple ha
  obtain ⟨ws, r2, p2, _⟩ := I.tuple hb
  by_cases hx : xs = []
  · subst hx
    cases r1
    exact cat_tup0 p1 p2 ⟨.ref b, H, I, rfl, q0 rfl⟩
  · refine HT.cat_tup p1 p2 (fun z => hx (r1.nil_iff.mp z)) (fun z => ⟨.ref a, H, I, rfl, q1 hx (r2.nil_iff.mp z)⟩) (fun z => ?_) (by rw [← r1.length, ← r2.length]; exact hz)
    exact (q2 hx fun w => z (r2.nil_iff.mpr w)).run (tk := s.toks) I (r1.append r2) (by rw [List.length_append]; exact hz)
def rAddA (K : PySem.W.Frag) : R2 := fun x y H Q => (rI0 fun i j => .int (i + j)) x y H Q ∨ ((∃ i j, x = .str i ∧ y = .str j ∧ i.length + j.length ≤ sizeLine ∧ Q (.str (i ++ j)) H) ∨ (rCatF K x y H Q ∨ rCatS K x y H Q))
theorem or_add : OpR X (binaryOp .Add) (rAddA X.K) := op_add.or (op_add_str.or (op_catF.or op_catS))
theorem od_add : OpD K (rAddA K) gAdd := fun av H x y d e z Q tr rx ry g q => by
  cases rx with
  | int i =>
    cases ry with
    | int j =>
      cases g
      exact .inl ⟨i, j, rfl, rfl, q _ H (Same.refl H) (.int _)⟩
    | _ => cases g
  | str a =>
    cases ry with
    | str b =>
      change (if a.length + b.length ≤ sizeLine then some (PyData.str (a ++ b)) else none) = some z at g
      by_cases h : a.length + b.length ≤ sizeLine
      · rw [if_pos h] at g
        cases g
        exact .inr (.inl ⟨a, b, rfl, rfl, h, q _ H (Same.refl H) (.str _)⟩)
      · rw [if_neg h] at g; cases g
    | _ => cases g
  | @tup a xs ds h1 h2 =>
    cases ry with
    | @tup b ys es h3 h4 =>
      change (if ds.length + es.length ≤ sizeLine then some (PyData.tuple (ds ++ es)) else none) = some z at g
      by_cases h : ds.length + es.length ≤ sizeLine
      · rw [if_pos h] at g
        cases g
        refine .inr (.inr (.inl ⟨a, b, xs, ys, rfl, rfl, h1.sq, h3.sq, by rw [h2.len, h4.len]; exact h, fun e => ?_, fun _ e => ?_, fun _ _ p o np d c => ?_⟩))
        · subst e
          cases h2
          exact q _ H (Same.refl H) (.tup h3 h4)
        · subst e
          cases h4
          rw [List.append_nil] at q
          exact q _ H (Same.refl H) (.tup h1 h2)
        · exact q _ _ (same_new np) (rd_newT tr (h2.append h4) np d c)
      · rw [if_neg h] at g; cases g
    | _ => cases g
  | @lst a xs ds h1 h2 =>
    cases ry with
    | @lst b ys es h3 h4 =>
      change (if ds.length + es.length ≤ sizeLine then some (PyData.list (ds ++ es)) else none) = some z at g
      by_cases h : ds.length + es.length ≤ sizeLine
      · rw [if_pos h] at g
        cases g
        exact .inr (.inr (.inr ⟨a, b, xs, ys, rfl, rfl, h1.sq, h3.sq, by rw [h2.len, h4.len]; exact h, fun p np => q _ _ (same_new np) (rd_newL tr (h2.append h4) np)⟩))
      · rw [if_neg h] at g; cases g
    | _ => cases g
  | _ => cases ry <;> cases g
def gII (C : Int → Int → Bool) (f : Int → Int → Int) : PyData → PyData → Option PyData
  | .int i, .int j => if C i j = true then some (.int (f i j)) else none
  | _, _ => none
theorem od_II {C : Int → Int → Bool} {P : Int → Int → Prop} {f : Int → Int → Int} (h : ∀ i j, C i j = true → P i j) : OpD K (rI P fun i j => .int (f i j)) (gII C f) := fun av H x y d e z Q tr rx ry g q => by
  cases rx with
  | int i =>
    cases ry with
    | int j =>
      change (if C i j = true then some (PyData.int (f i j)) else none) = some z at g
      by_cases c : C i j = true
      · rw [if_pos c] at g
        cases g
        exact ⟨i, j, rfl, rfl, h i j c, q _ H (Same.refl H) (.int _)⟩
      · rw [if_neg c] at g; cases g
    | _ => cases g
  | _ => cases ry <;> cases g
theorem od_I0 {f : Int → Int → Int} : OpD K (rI0 fun i j => .int (f i j)) (gII (fun _ _ => true) f) := fun av H x y d e z Q tr rx ry g q => by
  cases rx with
  | int i =>
    cases ry with
    | int j => cases g; exact ⟨i, j, rfl, rfl, q _ H (Same.refl H) (.int _)⟩
    | _ => cases g
  | _ => cases ry <;> cases g
def gSub_ : PyData → PyData → Option PyData := gII (fun _ _ => true) fun i j => i - j
theorem od_sub : OpD K (rI0 fun i j => .int (i - j)) gSub_ := od_I0
/-- products: together less than a million bits -/
def cMul (i j : Int) : Bool := decide (i.natAbs.log2 + j.natAbs.log2 < 1000000)
def gMul : PyData → PyData → Option PyData := gII cMul fun i j => i * j
theorem od_mul : OpD K (rI CMulW fun i j => .int (i * j)) gMul := od_II fun i j h => by
  show i.natAbs.log2 + j.natAbs.log2 < 1000000
  exact of_decide_eq_true h
def cDiv (_ j : Int) : Bool := decide (0 < j) && decide (j.natAbs.log2 < 9000)
def gDiv : PyData → PyData → Option PyData := gII cDiv fun i j => i / j
theorem od_div : OpD K (rI CDivW fun i j => .int (i / j)) gDiv := od_II fun _ j h => by
  unfold cDiv at h
  rw [Bool.and_eq_true] at h
  exact ⟨of_decide_eq_true h.1, of_decide_eq_true h.2⟩
def cMod (_ j : Int) : Bool := decide (0 < j)
def gMod : PyData → PyData → Option PyData := gII cMod fun i j => i % j
theorem od_mod : OpD K (rI (fun _ j => 0 < j) fun i j => .int (i % j)) gMod := od_II fun _ _ h => of_decide_eq_true h
def cPow (i j : Int) : Bool := decide (0 ≤ j ∧ j ≤ 1000000 ∧ i.natAbs < 2 ^ 64)
def gPow : PyData → PyData → Option PyData := gII cPow fun i j => i ^ j.toNat
theorem od_pow : OpD K (rI CPow fun i j => .int (i ^ j.toNat)) gPow := od_II fun i j h => by
  show 0 ≤ j ∧ j ≤ 1000000 ∧ i.natAbs < 2 ^ 64
  exact of_decide_eq_true h
/-- comparisons of ints -/
def gCI (f : Int → Int → Bool) : PyData → PyData → Option PyData
  | .int i, .int j => some (.bool (f i j))
  | _, _ => none
theorem od_CI {f : Int → Int → Bool} : OpD K (rI0 fun i j => .bl (f i j)) (gCI f) := fun av H x y d e z Q tr rx ry g q => by
  cases rx with
  | int i =>
    cases ry with
    | int j => cases g; exact ⟨i, j, rfl, rfl, q _ H (Same.refl H) (.bl _)⟩
    | _ => cases g
  | _ => cases ry <;> cases g
def gLt := gCI fun i j => decide (i < j)
def gLe := gCI fun i j => decide (i ≤ j)
def gGt := gCI fun i j => decide (j < i)
def gGe := gCI fun i j => decide (j ≤ i)
theorem od_lt : OpD K (rI0 fun i j => .bl (decide (i < j))) gLt := od_CI
theorem od_le : OpD K (rI0 fun i j => .bl (decide (i ≤ j))) gLe := od_CI
theorem od_gt : OpD K (rI0 fun i j => .bl (decide (j < i))) gGt := od_CI
theorem od_ge : OpD K (rI0 fun i j => .bl (decide (j ≤ i))) gGe := od_CI
/-- == of data without dicts -/
def okEq (d : PyData) : Bool := SeqAt.shaped d && !PyData.hasDict d && (match d with | .dict _ => false | _ => true)
theorem okEq_of {d : PyData} (h : okEq d = true) : SeqAt.shaped d = true ∧ PyData.hasDict d = false ∧ d ≠ .dict [] := by
  unfold okEq at h
  rw [Bool.and_eq_true, Bool.and_eq_true] at h
  refine ⟨h.1.1, by simpa using h.1.2, fun e => ?_⟩
  rw [e] at h
  simp at h
def bothS : PyData → PyData → Option Bool
  | .str x, .str y => some (x == y)
  | _, _ => none
theorem bothS_some {d e : PyData} {b : Bool} (h : bothS d e = some b) : ∃ x y, d = .str x ∧ e = .str y ∧ b = (x == y) := by
  cases d with
  | str x =>
    cases e with
    | str y => cases h; exact ⟨x, y, rfl, rfl, rfl⟩
    | _ => cases h
  | _ => cases h
def gEq (d e : PyData) : Option PyData := match bothS d e with
  | some b => some (.bool b)
  | none => if okEq d = true ∧ okEq e = true then some (.bool (PyData.eqv d e)) else none
def gNe (d e : PyData) : Option PyData := match bothS d e with
  | some b => some (.bool (!b))
  | none => if okEq d = true ∧ okEq e = true then some (.bool (!PyData.eqv d e)) else none
def rEqA (K : PySem.W.Frag) : R2 := fun x y H Q => rEq x y H Q ∨ rEqD K x y H Q
def rNeA (K : PySem.W.Frag) : R2 := fun x y H Q => rNe x y H Q ∨ rNeD K x y H Q
theorem op_eqA (hu : X.A.units + 64 < cLine) : OpR X (compareOp .Eq) (rEqA X.K) := op_eq.or (op_eqD hu)
theorem op_neA (hu : X.A.units + 64 < cLine) : OpR X (compareOp .NotEq) (rNeA X.K) := op_ne.or (op_neD hu)
theorem decS {x y : Str} : decide (V.str x = V.str y) = (x == y) := by
  rw [Bool.eq_iff_iff]; simp
theorem od_eq : OpD K (rEqA K) gEq := fun av H x y d e z Q tr rx ry g q => by
  unfold gEq at g
  cases c0 : bothS d e with
  | some b =>
    rw [c0] at g
    cases g
    obtain ⟨u, v, rfl, rfl, rfl⟩ := bothS_some c0
    cases rx
    cases ry
    exact .inl ⟨rfl, by rw [decS]; exact q _ H (Same.refl H) (.bl _)⟩
  | none =>
    rw [c0] at g
    by_cases c : okEq d = true ∧ okEq e = true
    · simp only [if_pos c] at g
      cases g
      obtain ⟨a1, a2, a3⟩ := okEq_of c.1
      obtain ⟨b1, b2, b3⟩ := okEq_of c.2
      exact .inr ⟨d, e, RD.dp d x rx a3 a2, RD.dp e y ry b3 b2, a1, b1, q _ H (Same.refl H) (.bl _)⟩
    · simp only [if_neg c] at g; cases g
theorem od_ne : OpD K (rNeA K) gNe := fun av H x y d e z Q tr rx ry g q => by
  unfold gNe at g
  cases c0 : bothS d e with
  | some b =>
    rw [c0] at g
    cases g
    obtain ⟨u, v, rfl, rfl, rfl⟩ := bothS_some c0
    cases rx
    cases ry
    exact .inl ⟨rfl, by rw [decS]; exact q _ H (Same.refl H) (.bl _)⟩
  | none =>
    rw [c0] at g
    by_cases c : okEq d = true ∧ okEq e = true
    · simp only [if_pos c] at g
      cases g
      obtain ⟨a1, a2, a3⟩ := okEq_of c.1
      obtain ⟨b1, b2, b3⟩ := okEq_of c.2
      exact .inr ⟨d, e, RD.dp d x rx a3 a2, RD.dp e y ry b3 b2, a1, b1, q _ H (Same.refl H) (.bl _)⟩
    · simp only [if_neg c] at g; cases g
/-- x[i] of a tuple, a list, a text -/
def gIx : PyData → PyData → Option PyData
  | .tuple ds, .int i => atI ds i
  | .list ds, .int i => atI ds i
  | .str z, .int i => if z.length ≤ sizeLine then (atI z.cps.toList i).map fun c => .str ⟨#[c]⟩ else none
  | _, _ => none
theorem RDs.atI {av : Av} {H : Hp} {vs : List V} {ds : List PyData} (h : RDs K av H vs ds) {i : Int} {d : PyData} (e : L2.atI ds i = some d) : ∃ v, L2.atI vs i = some v ∧ RD K av H v d := by
  unfold L2.atI at e ⊢
  rw [h.len]
  cases q : ixN ds.length i with
  | none => rw [q] at e; cases e
  | some j =>
    rw [q] at e
    exact h.get (i := j) e
theorem od_ix : OpD K (rIx K) gIx := fun av H x y d e z Q tr rx ry g q => by
  cases rx with
  | @tup a xs ds h1 h2 =>
    cases ry with
    | int i =>
      obtain ⟨v, e1, e2⟩ := h2.atI (i := i) g
      exact .inr (.inl ⟨a, xs, i, v, rfl, rfl, h1.sq, e1, q v H (Same.refl H) e2⟩)
    | _ => cases g
  | @lst a xs ds h1 h2 =>
    cases ry with
    | int i =>
      obtain ⟨v, e1, e2⟩ := h2.atI (i := i) g
      exact .inl ⟨a, xs, i, v, rfl, rfl, h1.sq, e1, q v H (Same.refl H) e2⟩
    | _ => cases g
  | str w =>
    cases ry with
    | int i =>
      change (if w.length ≤ sizeLine then (atI w.cps.toList i).map fun c => PyData.str ⟨#[c]⟩ else none) = some z at g
      by_cases c : w.length ≤ sizeLine
      · rw [if_pos c] at g
        cases e : atI w.cps.toList i with
        | none => rw [e] at g; cases g
        | some k =>
          rw [e] at g
          cases g
          exact .inr (.inr ⟨w, i, k, rfl, rfl, c, e, q _ H (Same.refl H) (.str _)⟩)
      · rw [if_neg c] at g; cases g
    | _ => cases g
  | _ => cases ry <;> cases g
/-- l[i], the list of a slot -/
def sIxL (sl : SN) (sb : SE) : SE := fun S => (sl S).bind fun ds S1 => (sb S).bind fun k _ => R.opt (gIx (.list ds) k) S1
variable {W : WX} {C : Cn} {a b e : Expr} {pos : Pos} {sa sb : SE} {i : Nat}
/-- the index is a constant or a name -/
def sIxV (i : Nat) (sb : SE) : SE := fun S => if (lst? S[i]?).isSome = true then (sb S).bind fun k S1 => match lst? S1[i]? with
  | some ds => R.opt (gIx (.list ds) k) S1
  | none => .no
  else .no
theorem e_ixV (ho : PE X a (tVar i)) (hb : PE X b (xE X.K X.mg W C sb)) (hs : PlainIx b) : PE X (.Subscript a b pos) (xE X.K X.mg W C (sIxV i sb)) := pe_imp (pe_ix ix_seq ho hb hs) fun σ H Q ⟨ow, S, r, q⟩ => by
  change pst X.K X.mg W C (relE X.K) ow σ H Q (sIxV i sb S) at q
  unfold sIxV at q
  cases e : lst? S[i]? with
  | none => rw [e] at q; exact q.elim
  | some ds =>
    rw [e] at q
    obtain ⟨p, vs, h1, _⟩ := r.list e
    refine ⟨.ref p, h1, seq early_E r q fun S1 k x H1 r1 x1 rk k1 => ?_⟩
    cases e1 : lst? S1[i]? with
    | none => rw [e1] at k1; exact k1.elim
    | some es =>
      rw [e1] at k1
      obtain ⟨p2, ws, g1, g2, g3⟩ := r1.list e1
      rw [h1] at g1; cases g1
      cases rk with
      | int j =>
        change pst X.K X.mg W C (relE X.K) ow σ H1 Q (R.opt (atI es j) S1) at k1
        cases e2 : atI es j with
        | none => rw [e2] at k1; exact k1.elim
        | some d =>
          rw [e2] at k1
          obtain ⟨v, e3, e4⟩ := g3.atI (i := j) e2
          exact .inl ⟨p, ws, j, v, rfl, rfl, g2, e3, pst_ok r1 k1 e4⟩
      | _ => exact k1.elim
/-- -e -/
def sNeg (sa : SE) : SE := fun S => (sa S).bind fun d S1 => match d with
  | .int i => .ok (.int (-i)) S1
  | _ => .no
end
end Ds
end
section
set_option Elab.async false
set_option linter.all false
set_option maxRecDepth 100000
set_option maxHeartbeats 4000000
namespace Ds
open PySem PySem.Spec PyProof.Rows L2
section
variable {X : Cx} {K : PySem.W.Frag} {W : WX} {C : Cn} {a b c e : Expr} {pos : Pos} {sa sb sc se : SE} {sn sl sr : SN} {i : Nat}
def gLen : List PyData → Option PyData
  | [.tuple ds] => some (.int ds.length)
  | [.list ds] => some (.int ds.length)
  | [.str x] => if x.length ≤ sizeLine then some (.int x.length) else none
  | _ => none
def rLenD (K : PySem.W.Frag) : List V → Hp → VK → Prop := fun xs H Q => ∃ x n, xs = [x] ∧ LenV K x H n ∧ Q (.int n) H
theorem cd_len : CallD K (rLenD K) gLen := fun av H xs ds z Q tr r g q => by
  match ds, r, g with
  | [.tuple es], .cons (.tup h1 h2) .nil, g => cases g; exact ⟨_, _, rfl, .inr ⟨_, h1.sq, rfl⟩, by rw [h2.len]; exact q _ H (Same.refl H) (.int _)⟩
  | [.list es], .cons (.lst h1 h2) .nil, g => cases g; exact ⟨_, _, rfl, .inl ⟨_, h1.sq, rfl⟩, by rw [h2.len]; exact q _ H (Same.refl H) (.int _)⟩
  | [.str x], .cons (.str _) .nil, g =>
    change (if x.length ≤ sizeLine then some (PyData.int x.length) else none) = some z at g
    by_cases h : x.length ≤ sizeLine
    · rw [if_pos h] at g; cases g
      exact ⟨_, _, rfl, ⟨h, rfl⟩, q _ H (Same.refl H) (.int _)⟩
    · rw [if_neg h] at g; cases g
/-- a reader of one list -/
def sRd (g : List PyData → Option PyData) (sl : SN) : SE := fun S => (sl S).bind fun ds S1 => R.opt (g ds) S1
def LstD (K : PySem.W.Frag) (r : List V → Hp → VK → Prop) (g : List PyData → Option PyData) : Prop :=
  ∀ (av : Av) (H : Hp) (p : Addr) (vs : List V) (ds : List PyData) (z : PyData) (Q : VK), (∀ a, av a → ∃ o, H a = some o) → SqL K H p vs → RDs K av H vs ds → g ds = some z → (∀ v H', Same H H' → RD K av H' v z → Q v H') → r [.ref p] H Q
theorem rd_tCB {rr : List V → Hp → VK → Prop} {g : List PyData → Option PyData} (hd : LstD X.K rr g) {σ : St} {H : Hp} {Q : VK} (h : xE X.K X.mg W C (sRd g sl) σ H Q) : tCB rr (tCons (xL X.K X.mg W C sl) tNil) σ H Q := by
  obtain ⟨ow, S, rl, q⟩ := h
  refine seq early_E rl q fun S1 ds v H1 r1 x1 rd k1 => ?_
  obtain ⟨p, vs, h1, h2, h3⟩ := rd
  subst h1
  refine fin_opt (H' := H1) r1 k1 fun z ez f => ?_
  exact hd (av C ow) H1 p vs ds z Q r1.tracked h2 h3 ez f
theorem e_rdB {id : String} {x : Str} {p : Pos} {rr : List V → Hp → VK → Prop} {g : List PyData → Option PyData} (hc : CallR X (.builtin id) rr) (hd : LstD X.K rr g) (hg : Gl X x) (hm : X.mg x = none) (hv : bootBuiltins x = some (.builtin id)) (ha : PE X a (xL X.K X.mg W C sl)) (hn : x ≠ "__name__" := by decide) (hdb : (x == ("__debug__" : Str)) = false := by decide)
    (hs : starEach (a :: []) X.env = (false, eval a X.env) :: starEach [] X.env := by rfl) (hpl : (backTo pos (starEach [] X.env)).any (·.1) = false := by rfl) : PE X (.Call (.Name x p) [a] [] pos) (xE X.K X.mg W C (sRd g sl)) :=
  pe_imp (pe_callB hc hg hm hv (pa_cons ha pa_nil hs) hn hdb hs hpl) fun _ _ _ h => rd_tCB hd h
theorem e_rdT {id : String} {x : Str} {p : Pos} {rr : List V → Hp → VK → Prop} {g : List PyData → Option PyData} (hc : CallR X (.type id) rr) (hd : LstD X.K rr g) (hg : Gl X x) (hm : X.mg x = none) (hv : bootBuiltins x = some (.type id)) (ha : PE X a (xL X.K X.mg W C sl)) (hn : x ≠ "__name__" := by decide) (hdb : (x == ("__debug__" : Str)) = false := by decide)
    (hs : starEach (a :: []) X.env = (false, eval a X.env) :: starEach [] X.env := by rfl) (hpl : (backTo pos (starEach [] X.env)).any (·.1) = false := by rfl) : PE X (.Call (.Name x p) [a] [] pos) (xE X.K X.mg W C (sRd g sl)) :=
  pe_imp (pe_callTy hc hg hm hv (pa_cons ha pa_nil hs) hn hdb hs hpl) fun _ _ _ h => rd_tCB hd h
def lLen (ds : List PyData) : Option PyData := some (.int ds.length)
theorem ld_len : LstD K (rLenD K) lLen := fun av H p vs ds z Q tr h r g q => by
  cases g
  exact ⟨_, _, rfl, .inl ⟨vs, h, rfl⟩, by rw [r.len]; exact q _ H (Same.refl H) (.int _)⟩
/-- all, any of a list of bools -/
def bls : List PyData → Option (List Bool)
  | [] => some []
  | .bool b :: ds => (bls ds).map (b :: ·)
  | _ => none
theorem bls_map : ∀ {ds : List PyData} {bs : List Bool}, bls ds = some bs → ds = bs.map PyData.bool
  | [], bs, h => by cases h; rfl
  | .bool b :: ds, bs, h => by
    change (bls ds).map (b :: ·) = some bs at h
    cases e : bls ds with
    | none => rw [e] at h; cases h
    | some cs =>
      rw [e] at h
      cases h
      rw [List.map_cons, ← bls_map e]
def lAll (ds : List PyData) : Option PyData := (bls ds).map fun bs => .bool (bs.all id)
theorem ld_all : LstD K (rAll K) lAll := fun av H p vs ds z Q tr h r g q => by
  unfold lAll at g
  cases e : bls ds with
  | none => rw [e] at g; cases g
  | some bs =>
    rw [e] at g; cases g
    have ed := bls_map e
    subst ed
    have ev := r.bls
    subst ev
    exact ⟨p, bs, rfl, h, q _ H (Same.refl H) (.bl _)⟩
/-- sum of intsOf -/
def intsOf : List PyData → Option (List Int)
  | [] => some []
  | .int b :: ds => (intsOf ds).map (b :: ·)
  | _ => none
/-- tuple(l), tuple(t) -/
def rTupF (K : PySem.W.Frag) : List V → Hp → VK → Prop := fun xs H Q => ∃ p ys, xs = [.ref p] ∧ ((SqL K H p ys ∧ NT H ys Q) ∨ (SqT K H p ys ∧ Q (.ref p) H))
theorem call_tupF {X : Cx} : CallR X (.type "tuple") (rTupF X.K) := by
  intro pins s σ H xs us Q I r h
  obtain ⟨p, ys, rfl, h⟩ := h
  obtain ⟨u, rfl, rx⟩ := vals1 r
  cases rx
  rcases h with ⟨sq, q⟩ | ⟨sq, q⟩
  · obtain ⟨ws, rw, pl, hz⟩ := I.list sq
    have el := rw.length
    refine call_tuple_list pl.isList (fun h2 kp => ?_) (by simp only [List.size_toArray] <;> omega)
    exact q.run (tk := s.toks) (s := { s with heap := h2 }) (I.kept (t' := s.toks) kp) rw hz
  · obtain ⟨ws, _, pt, _⟩ := I.tuple sq
    exact call_tuple_same pt ⟨.ref p, H, I, rfl, q⟩
def lTup (ds : List PyData) : Option PyData := some (.tuple ds)
theorem ld_tup : LstD K (rTupF K) lTup := fun av H p vs ds z Q tr h r g q => by
  cases g
  exact ⟨p, vs, rfl, .inl ⟨h, fun l o nl d c => q _ _ (same_new nl) (rd_newT tr r nl d c)⟩⟩
def gTupT : List PyData → Option PyData
  | [.tuple ds] => some (.tuple ds)
  | [.list ds] => some (.tuple ds)
  | _ => none
theorem cd_tup : CallD K (rTupF K) gTupT := fun av H xs ds z Q tr r g q => by
  match ds, r, g with
  | [.tuple es], .cons (.tup h1 h2) .nil, g => cases g; exact ⟨_, _, rfl, .inr ⟨h1.sq, q _ H (Same.refl H) (.tup h1 h2)⟩⟩
  | [.list es], .cons (.lst h1 h2) .nil, g => cases g; exact ⟨_, _, rfl, .inl ⟨h1.sq, fun l o nl d c => q _ _ (same_new nl) (rd_newT tr h2 nl d c)⟩⟩
/-- list(l), list(t): a new list -/
def seqOf : List PyData → Option (List PyData)
  | [.tuple ds] => some ds
  | [.list ds] => some ds
  | _ => none
def sListN (sr : SN) : SN := fun S => (sr S).bind fun ds S1 => R.opt (seqOf ds) S1
theorem n_list {x : Str} {p : Pos} (hg : Gl X x) (hm : X.mg x = none) (hv : bootBuiltins x = some (.type "list")) (ha : PA X [a] (xA X.K X.mg W C sr)) (hn : x ≠ "__name__" := by decide) (hdb : (x == ("__debug__" : Str)) = false := by decide)
    (he : starEach (a :: []) X.env = (false, eval a X.env) :: starEach [] X.env := by rfl) (hpl : (backTo pos (starEach [] X.env)).any (·.1) = false := by rfl) : PE X (.Call (.Name x p) [a] [] pos) (xN X.K X.mg W C (sListN sr)) :=
  pe_imp (pe_callTy call_list_of hg hm hv ha hn hdb he hpl) fun σ H Q ⟨ow, S, r, q⟩ => seq early_N r q fun S1 ds vs H1 r1 x1 rd k => by
    match ds, rd, k with
    | [.tuple es], .cons (.tup h1 h2) .nil, k => exact ⟨_, _, rfl, .inr h1.sq, fun l nl => pst_same r1 k (same_new nl) ⟨l, _, H1, rfl, nl, rfl, Ext.refl _ _, r1, h2⟩⟩
    | [.list es], .cons (.lst h1 h2) .nil, k => exact ⟨_, _, rfl, .inl h1.sq, fun l nl => pst_same r1 k (same_new nl) ⟨l, _, H1, rfl, nl, rfl, Ext.refl _ _, r1, h2⟩⟩
/-- x in t, not in -/
def gIn (neg : Bool) (d e : PyData) : Option PyData := match e with
  | .str y => match d with
    | .str x => some (.bool (if neg then !(!(Builtin.Str.occurrences y x 0 y.length 1).isEmpty) else !(Builtin.Str.occurrences y x 0 y.length 1).isEmpty))
    | _ => none
  | _ => none
def rInS : R2 := fun x y H Q => ∃ i j, x = .str i ∧ y = .str j ∧ Q (.bl (!(Builtin.Str.occurrences j i 0 j.length 1).isEmpty)) H
theorem od_in : OpD K rInS (gIn false) := fun av H x y d e z Q tr rx ry g q => by
  cases ry with
  | str y =>
    cases rx with
    | str x => cases g; exact ⟨x, y, rfl, rfl, q _ H (Same.refl H) (.bl _)⟩
    | _ => cases g
  | _ => cases g
/-- flat data in a tuple, a list -/
def flatD : PyData → Bool
  | .none => true
  | .bool _ => true
  | .int _ => true
  | .str _ => true
  | _ => false
def inD (d : PyData) (es : List PyData) : Bool := es.any fun e => PyData.eqv e d
def gInT (neg : Bool) (d e : PyData) : Option PyData := match e with
  | .tuple es => if flatD d = true ∧ es.all flatD = true then some (.bool (if neg then !inD d es else inD d es)) else none
  | .list es => if flatD d = true ∧ es.all flatD = true then some (.bool (if neg then !inD d es else inD d es)) else none
  | _ => none
theorem flat_rd {av : Av} {H : Hp} {v : V} {d : PyData} (h : RD K av H v d) (f : flatD d = true) : flatV v = true := by
  cases h <;> first | rfl | cases f
theorem flat_rds {av : Av} {H : Hp} : ∀ {vs : List V} {ds : List PyData}, RDs K av H vs ds → ds.all flatD = true → vs.all flatV = true
  | _, _, .nil, _ => rfl
  | _, _, .cons h t, f => by
    rw [List.all_cons, Bool.and_eq_true] at f
    rw [List.all_cons, flat_rd h f.1, flat_rds t f.2]
    rfl
theorem eqv_rd {av : Av} {H : Hp} {v w : V} {d e : PyData} (h : RD K av H v d) (h' : RD K av H w e) (f : flatD d = true) (f' : flatD e = true) : eqV v w = PyData.eqv d e := by
  cases h with
  | non => cases h' <;> first | rfl | cases f' | simp [eqV, PyData.eqv]
  | bl b => cases h' <;> first | rfl | cases f' | simp [eqV, PyData.eqv]
  | int b => cases h' <;> first | rfl | cases f' | simp [eqV, PyData.eqv]
  | str b => cases h' <;> first | rfl | cases f' | simp [eqV, PyData.eqv]
  | _ => cases f
theorem inD_rd {av : Av} {H : Hp} {v : V} {d : PyData} (h : RD K av H v d) (f : flatD d = true) : ∀ {vs : List V} {ds : List PyData}, RDs K av H vs ds → ds.all flatD = true → inV v vs = inD d ds
  | _, _, .nil, _ => rfl
  | _, _, .cons r t, g => by
    rw [List.all_cons, Bool.and_eq_true] at g
    have ih := inD_rd h f t g.2
    unfold inV inD at ih ⊢
    rw [List.any_cons, List.any_cons, ih, eqv_rd r h g.1 f]
def tyN : PyData → String
  | .none => "NoneType"
  | .bool _ => "bool"
  | .int _ => "int"
  | .str _ => "str"
  | .list _ => "list"
  | .tuple _ => "tuple"
  | .dict _ => "dict"
theorem ty_rd {av : Av} {H : Hp} {v : V} {d : PyData} (h : RD K av H v d) : TyX K H v (.type (tyN d)) ∨ (∃ a c fs, v = .ref a ∧ d = .dict ((.none, .str c) :: fs) ∧ ExcAny K H a c) ∨ ((∃ ns, d = scrD ns) ∧ TyX K H v (.type "list")) ∨ ∃ a o ks t0 d0 kvs, v = .ref a ∧ d = .dict ((.tuple t0, d0) :: kvs) ∧ H a = some (.frz o (dtO av.w a ks)) := by
  cases h with
  | dct h1 _ _ _ _ _ => exact .inr (.inr (.inr ⟨_, _, _, _, _, _, rfl, rfl, h1⟩))
  | non => exact .inl <| .base .non
  | bl b => exact .inl <| .base (.bl b)
  | int b => exact .inl <| .base (.int b)
  | str b => exact .inl <| .base (.str b)
  | lst h1 h2 =>
    exact .inl <| .base (.lst h1.get.1)
  | tup h1 h2 =>
    rcases h1 with ⟨⟨o, h1, _⟩, _⟩ | ⟨(h1 | ⟨o, h1⟩) | ⟨o, its, n, e, c, _⟩, _⟩
    · exact .inl <| .fTuple h1
    · cases h1
    · cases h1
    · exact .inl <| .kTuple e c
  | dic h1 _ => exact .inl <| .base (.dK h1)
  | exc h1 h2 => exact .inr (.inl ⟨_, _, _, rfl, rfl, (let ⟨_, e, x⟩ := rd_exc (RD.exc h1 h2); by cases e; exact x)⟩)
  | exf h1 h2 h3 => exact .inr (.inl ⟨_, _, _, rfl, rfl, (let ⟨_, e, x⟩ := rd_exc (RD.exf h1 h2 h3); by cases e; exact x)⟩)
  | scr h1 =>
    refine .inr (.inr (.inl ⟨⟨_, rfl⟩, ?_⟩))
    rcases h1 with ⟨⟨o, h1⟩, _⟩ | ((h1 | ⟨o, h1⟩) | ⟨o, its, n, e, c, _⟩)
    · exact .base (.frz h1)
    · cases h1
    · cases h1
    · exact .kList e c
/-- isinstance(e, c), e a kept error -/
def rIsX (K : PySem.W.Frag) : List V → Hp → VK → Prop := fun xs H Q => ∃ (a : Addr) (oe : Obj) (D : Addr) (dx : Option Addr) (c : V) (u : Value) (b : Bool), xs = [.ref a, c] ∧ H a = some (kepO a oe) ∧ (Zc (.ref D) dx oe ∧ keptD H dx) ∧ (∃ vs, oe.data = .fields vs) ∧ ExcC K D ∧ ClsV c u ∧ PySem.W.kitOne K (.ref D) u = some b ∧ Q (.bl b) H
theorem kept_inst {P : Program} {w : World} {H : Hp} {h : Heap} {a D : Addr} {oe : Obj} (k : HOk P w H h) (e : H a = some (kepO a oe)) {dx : Option Addr} (z : Zc (.ref D) dx oe ∧ keptD H dx) (f : ∃ vs, oe.data = .fields vs) : ∃ od, PySem.W.InstAt h a oe D od := by
  have g : h.get? a = some oe := (k a _ e).1
  obtain ⟨vs, hv⟩ := f
  obtain ⟨oc, od, oda, osl⟩ := oe
  obtain ⟨⟨z1, z2⟩, kd⟩ := z
  dsimp only at z1 z2 hv
  subst z1 z2 hv
  cases od with
  | none => exact ⟨none, g, rfl, rfl, trivial⟩
  | some dd =>
    obtain ⟨fs, hd⟩ := kd dd rfl
    obtain ⟨mA, ⟨o, es, ep, ho, hr⟩, rel⟩ : ∃ mA, h.Ns1 dd mA ∧ ∀ f, RelO (fs.lookup f) (mA f) := k dd _ hd
    exact ⟨some o, g, rfl, rfl, ho⟩
theorem cls_some {K : PySem.W.Frag} {D : Addr} (h : PySem.W.hasDictIn K D = true) : (PySem.W.clsIn K D).isSome = true := by
  obtain ⟨cd, hc, _⟩ := PySem.W.any_some h
  rw [hc]; rfl
theorem call_isX : CallR X (.builtin "isinstance") (rIsX X.K) := by
  intro pins s σ H xs us Q I r h
  obtain ⟨a, oe, D, dx, c, u, b, rfl, ha, hz, hf, C, k, e, q⟩ := h
  obtain ⟨od, ia⟩ := kept_inst I.hok ha hz hf
  obtain ⟨u1, u2, rfl, r1, r2⟩ := vals2 r
  cases (show u1 = Value.ref a from r1)
  have e2 := k.eq r2
  subst e2
  exact PySem.W.kia_one (PySem.W.kitx_exc (cls_some C.hd) C.hg C.hk C.hs C.ha C.hn C.ht C.hm) I.kIn ia e (fun z => nomatch z) fun tk => ⟨.bl b, H, I.tok tk, rfl, q⟩
/-- isinstance(d, c), d a dict whose keys are tuples -/
def rIsD (K : PySem.W.Frag) : List V → Hp → VK → Prop := fun xs H Q => ∃ (a : Addr) (o : Obj) (ks : List (NestedKey × Addr × V)) (w : World) (c : V) (u : Value) (b : Bool), xs = [.ref a, c] ∧ H a = some (.frz o (dtO w a ks)) ∧ ClsV c u ∧ PySem.W.kitOne K (.type "dict") u = some b ∧ Q (.bl b) H
theorem call_isD : CallR X (.builtin "isinstance") (rIsD X.K) := by
  intro pins s σ H xs us Q I r h
  obtain ⟨a, o, ks, w, c, u, b, rfl, ha, k, e, q⟩ := h
  obtain ⟨u1, u2, rfl, r1, r2⟩ := vals2 r
  cases (show u1 = Value.ref a from r1)
  have e2 := k.eq r2
  subst e2
  obtain ⟨_, _, _, o, _, _, _, h1, h2, _⟩ := (I.hok a _ ha).2.1
  exact PySem.W.kia_one PySem.W.kitx_dict I.kIn ⟨o, h1, h2.1⟩ e (fun z => nomatch z) fun tk => ⟨.bl b, H, I.tok tk, rfl, q⟩
theorem kit_lst : ∀ T ∈ isiTs, T ≠ "list" → kitB "list" T = some false := by decide +kernel
theorem kit_dict : ∀ T ∈ isiTs, kitB "dict" T = some false := by decide +kernel
def sIsi (T : String) (sa : SE) : SE := fun S => (sa S).bind fun d S1 => R.opt ((kitB (tyN d) T).map .bool) S1
theorem e_isi {T : String} {p : Pos} (hg : Gl X "isinstance") (hm : X.mg "isinstance" = none) (ha : PE X a (xE X.K X.mg W C sa)) (hb : PE X b (tC (.ty T)))
    (h1 : starEach (a :: [b]) X.env = (false, eval a X.env) :: starEach [b] X.env := by rfl) (h2 : starEach (b :: []) X.env = (false, eval b X.env) :: starEach [] X.env := by rfl) (hpl : (backTo pos (starEach [b] X.env)).any (·.1) = false := by rfl) (hT : T ∈ isiTs := by decide) (hT2 : T ≠ "list" := by decide) :
    PE X (.Call (.Name "isinstance" p) [a, b] [] pos) (xE X.K X.mg W C (sIsi T sa)) :=
  pe_imp (pe_callB (call_isi.or (call_isX.or call_isD)) hg hm (by decide +kernel) (pa_cons ha (pa_cons hb pa_nil h2) h1) (by decide) (by decide) h1 hpl) fun σ H Q ⟨ow, S, r, q⟩ => seq early_E r q fun S1 d v H1 r1 x1 rd k => by
    cases e : kitB (tyN d) T with
    | none => rw [e] at k; exact k.elim
    | some z =>
      rw [e] at k
      rcases ty_rd rd with ty | ⟨a, c, fs, rfl, rfl, oe, D, dx, g1, g2, g3, g3b, g4, g5⟩ | ⟨⟨ns, rfl⟩, ty⟩ | ⟨a, o, ks, _, _, _, rfl, rfl, ha⟩
      · exact .inl ⟨v, .ty T, _, _, z, rfl, .ty T, ty, kit_ty e, pst_ok r1 k (.bl z)⟩
      · have e' : kitB "dict" T = some z := e
        rw [kit_dict T hT] at e'
        cases e'
        exact .inr <| .inl ⟨a, oe, D, dx, .ty T, _, false, rfl, g1, ⟨g3.zc, g3b⟩, g4, g5.c, .ty T, g5.no T hT, pst_ok r1 k (.bl false)⟩
      · have e' : kitB "dict" T = some z := e
        rw [kit_dict T hT] at e'
        cases e'
        exact .inl ⟨v, .ty T, _, _, false, rfl, .ty T, ty, kit_ty (kit_lst T hT hT2), pst_ok r1 k (.bl false)⟩
      · have e' : kitB "dict" T = some z := e
        exact .inr (.inr ⟨a, o, ks, _, .ty T, _, z, rfl, ha, .ty T, kit_ty e', pst_ok r1 k (.bl z)⟩)
def sCh (g g' : PyData → PyData → Option PyData) (sa sb sc : SE) : SE := fun S => (sa S).bind fun x S1 => (sb S1).bind fun y S2 => match g x y with
  | some (.bool true) => (sc S2).bind fun z S3 => R.opt (g' y z) S3
  | some (.bool false) => .ok (.bool false) S2
  | _ => .no
variable {r r' : R2} {g g' : PyData → PyData → Option PyData}
theorem chain_t (hd : OpD X.K r g) (hd' : OpD X.K r' g') {σ : St} {H : Hp} {Q : VK} (h : xE X.K X.mg W C (sCh g g' sa sb sc) σ H Q) : tChain r r' (xE X.K X.mg W C sa) (xE X.K X.mg W C sb) (xE X.K X.mg W C sc) σ H Q := by
  obtain ⟨ow, S, rl, q⟩ := h
  refine seq early_E rl q fun S1 d x H1 r1 x1 rd k1 => ?_
  refine seq early_E r1 k1 fun S2 e y H2 r2 x2 re k2 => ?_
  have rd2 := RD.mono x2 (Grow.refl _ _) d x rd
  cases eg : g d e with
  | none => rw [eg] at k2; exact k2.elim
  | some z =>
    rw [eg] at k2
    refine hd (av C ow) H2 x y d e z _ r2.tracked rd2 re eg fun v H3 sm rz => ?_
    have r3 := r2.same sm
    have re3 := rd_same re sm
    cases rz with
    | bl k =>
      refine ⟨k, rfl, ?_⟩
      cases k with
      | false => exact iteF (pst_same r2 k2 sm (.bl false))
      | true =>
        refine iteT (seq early_E r3 (pst_from early_E r2 r3 (Ext.same sm) k2) fun S4 w u H4 r4 x4 ru k4 => ?_)
        refine fin_opt (H' := H4) r4 k4 fun z' ez' f => ?_
        exact hd' (av C ow) H4 y u e w z' Q r4.tracked (RD.mono x4 (Grow.refl _ _) e y re3) ru ez' f
    | _ => exact k2.elim
theorem e_chain {op op' : CmpOp} (ho : OpR X (compareOp op) r) (ho' : OpR X (compareOp op') r') (hd : OpD X.K r g) (hd' : OpD X.K r' g') (ha : PE X a (xE X.K X.mg W C sa)) (hb : PE X b (xE X.K X.mg W C sb)) (hc : PE X c (xE X.K X.mg W C sc))
    (hm : lastMarks [op, op'] [b, c] = false := by with_unfolding_all rfl) : PE X (.Compare a [op, op'] [b, c] pos) (xE X.K X.mg W C (sCh g g' sa sb sc)) := pe_imp (pe_chain ho ho' ha hb hc hm) fun _ _ _ h => chain_t hd hd' h
theorem t_chain {op op' : CmpOp} (ho : OpR X (compareOp op) r) (ho' : OpR X (compareOp op') r') (hd : OpD X.K r g) (hd' : OpD X.K r' g') (ha : PE X a (xE X.K X.mg W C sa)) (hb : PE X b (xE X.K X.mg W C sb)) (hc : PE X c (xE X.K X.mg W C sc))
    (hm : lastMarks [op, op'] [b, c] = false := by with_unfolding_all rfl) : PT X (.Compare a [op, op'] [b, c] pos) (xB X.K X.mg W C (sTst (sCh g g' sa sb sc))) := pt_imp (pt_chain ho ho' ha hb hc hm) fun _ _ _ h => tst_tB h fun _ q => chain_t hd hd' q
def gMax : List PyData → Option PyData
  | [.int i, .int j] => some (.int (if j > i then j else i))
  | _ => none
def gMin : List PyData → Option PyData
  | [.int i, .int j] => some (.int (if j < i then j else i))
  | _ => none
theorem cd_max : CallD K (fun xs H Q => ∃ i j, xs = [.int i, .int j] ∧ Q (.int (if j > i then j else i)) H) gMax := fun av H xs ds z Q tr r g q => by
  match ds, r, g with
  | [.int i, .int j], .cons (.int _) (.cons (.int _) .nil), g => cases g; exact ⟨i, j, rfl, q _ H (Same.refl H) (.int _)⟩
theorem cd_min : CallD K (fun xs H Q => ∃ i j, xs = [.int i, .int j] ∧ Q (.int (if j < i then j else i)) H) gMin := fun av H xs ds z Q tr r g q => by
  match ds, r, g with
  | [.int i, .int j], .cons (.int _) (.cons (.int _) .nil), g => cases g; exact ⟨i, j, rfl, q _ H (Same.refl H) (.int _)⟩
def gInt1 : List PyData → Option PyData
  | [.int i] => some (.int i)
  | [.bool k] => some (.int (if k then 1 else 0))
  | _ => none
theorem cd_int : CallD K (fun xs H Q => (∃ i, xs = [.int i] ∧ Q (.int i) H) ∨ ∃ k, xs = [.bl k] ∧ Q (.int (if k then 1 else 0)) H) gInt1 := fun av H xs ds z Q tr r g q => by
  match ds, r, g with
  | [.int i], .cons (.int _) .nil, g => cases g; exact .inl ⟨i, rfl, q _ H (Same.refl H) (.int _)⟩
  | [.bool k], .cons (.bl _) .nil, g => cases g; exact .inr ⟨k, rfl, q _ H (Same.refl H) (.int _)⟩
abbrev SP := En → R (Option Int)
def relP : Rel (Option Int) (Option Int) := fun _ _ _ _ _ _ a b => a = b
theorem early_P {K : PySem.W.Frag} : Early K (relP) := fun _ _ _ _ _ _ _ _ _ _ _ _ _ _ h => h
abbrev xP (K : PySem.W.Frag) (mg : Str → Option Value) (W : WX) (C : Cn) (s : SP) : TO := xG K mg W C relP s
theorem po_imp {o : Option Expr} {t t' : TO} (h : PO X o t) (f : ∀ σ H Q, t' σ H Q → t σ H Q) : PO X o t' := ⟨fun pins s σ H Q I q => h.run pins s σ H Q I (f σ H Q q)⟩
def sP0 : SP := fun S => .ok none S
def sP1 (se : SE) : SP := fun S => (se S).bind fun d S1 => match d with
  | .int i => .ok (some i) S1
  | _ => .no
theorem p_none : PO X none (xP X.K X.mg W C sP0) := po_imp po_none fun σ H Q ⟨ow, S, r, q⟩ => pst_ok (mg := X.mg) (W := W) (rel := relP) (d := none) r q rfl
theorem p_some (h : PE X e (xE X.K X.mg W C se)) : PO X (some e) (xP X.K X.mg W C (sP1 se)) := po_imp (po_some h) fun σ H Q ⟨ow, S, r, q⟩ => seq early_P r q fun S1 d v H1 r1 x1 rd k => by
  cases rd with
  | int i => exact ⟨i, rfl, pst_ok r1 k rfl⟩
  | _ => exact k.elim
def cutD (ds : List PyData) (lo hi : Option Int) : List PyData := (ds.drop (HT.sIx ds.length 0 lo)).take (HT.sIx ds.length ds.length hi - HT.sIx ds.length 0 lo)
theorem RDs.cut {av : Av} {H : Hp} {vs : List V} {ds : List PyData} (h : RDs K av H vs ds) (lo hi : Option Int) : RDs K av H (cutV vs lo hi) (cutD ds lo hi) := by
  unfold cutV cutD
  rw [h.len]
  exact (h.drop _).take _
/-- t[lo:hi], s[lo:hi] -/
def gCut (d : PyData) (lo hi : Option Int) : Option PyData := match d with
  | .tuple ds => some (.tuple (cutD ds lo hi))
  | .str z => if z.length ≤ sizeLine then some (.str (cutS z lo hi)) else none
  | .list ds => some (.list (cutD ds lo hi))
  | .dict [(.bool true, .list ds)] => some (.list (cutD ds lo hi))
  | _ => none
def sCut (sa : SE) (l u : SP) : SE := fun S => (sa S).bind fun d S1 => (l S1).bind fun lo S2 => (u S2).bind fun hi S3 => R.opt (gCut d lo hi) S3
def rSlF (K : PySem.W.Frag) : V → Option Int → Option Int → Hp → VK → Prop := fun x lo hi H Q => ∃ a xs, x = .ref a ∧ SqT K H a xs ∧
  (HT.sIx xs.length 0 lo = 0 ∧ HT.sIx xs.length xs.length hi = xs.length → Q (.ref a) H) ∧ (¬ (HT.sIx xs.length 0 lo = 0 ∧ HT.sIx xs.length xs.length hi = xs.length) → NT H (cutV xs lo hi) Q)
theorem sl_tupF {X : Cx} : SlR X (rSlF X.K) := by
  intro pins s σ H x v vl vu lo hi sl Q I rx hs pl pu h
  obtain ⟨a, xs, rfl, hx, q1, q2⟩ := h
  cases rx
  obtain ⟨ws, r, ht, hz⟩ := I.tuple hx
  have el : ws.toArray.size = xs.length := by rw [List.size_toArray]; exact r.length.symm
  refine ⟨"tuple", _, PyProof.Rows.slot_tuple_getitem.lookup, ht.typeIs, ?_⟩
  by_cases hw : HT.sIx xs.length 0 lo = 0 ∧ HT.sIx xs.length xs.length hi = xs.length
  · exact getItem_tuple_whole ht hs pl pu (by rw [el]; exact hw) ⟨.ref a, H, I, rfl, q1 hw⟩
  · refine HT.getItem_tuple_cut ht hs pl pu (by rw [el]; exact hw) ?_ (by rw [el]; exact hz)
    rw [el]
    exact (q2 hw).run (tk := s.toks) I ((r.drop (HT.sIx xs.length 0 lo)).take (HT.sIx xs.length xs.length hi - HT.sIx xs.length 0 lo)) (Nat.le_trans (cutV_length xs lo hi) hz)
theorem cut_whole {α : Type} {ds : List α} {lo hi : Option Int} (h : HT.sIx ds.length 0 lo = 0 ∧ HT.sIx ds.length ds.length hi = ds.length) : (ds.drop (HT.sIx ds.length 0 lo)).take (HT.sIx ds.length ds.length hi - HT.sIx ds.length 0 lo) = ds := by
  rw [h.1, h.2, Nat.sub_zero, List.drop_zero, List.take_length]
theorem e_cut {lo hi : Option Expr} {l u : SP} {p2 : Pos} (ha : PE X a (xE X.K X.mg W C sa)) (hl : PO X lo (xP X.K X.mg W C l)) (hu : PO X hi (xP X.K X.mg W C u)) : PE X (.Subscript a (.Slice lo hi none p2) pos) (xE X.K X.mg W C (sCut sa l u)) :=
  pe_imp (pe_slice (sl_list.or (sl_tupF.or sl_str)) ha hl hu) fun σ H Q ⟨ow, S, r, q⟩ => seq early_E r q fun S1 d v H1 r1 x1 rd k1 => seq early_E r1 k1 fun S2 lo lo' H2 r2 x2 e2 k2 => seq early_E r2 k2 fun S3 hi hi' H3 r3 x3 e3 k3 => by
    have e2' : lo' = lo := e2
    have e3' : hi' = hi := e3
    subst e2'
    subst e3'
    have rd3 := RD.mono ((x2).trans (Grow.refl _ _) x3) (Grow.refl _ _) d v rd
    cases rd3 with
    | @tup p xs ds h1 h2 =>
      change pst X.K X.mg W C (relE X.K) ow σ H3 Q (R.ok (.tuple (cutD ds lo' hi')) S3) at k3
      refine .inr (.inl ⟨p, xs, rfl, h1.sq, fun hw => ?_, fun _ l o nl d c => ?_⟩)
      · refine pst_ok r3 k3 ?_
        have : cutD ds lo' hi' = ds := cut_whole (by rw [← h2.len]; exact hw)
        rw [this]
        exact .tup h1 h2
      · exact pst_same r3 k3 (same_new nl) (rd_newT r3.tracked (h2.cut lo' hi') nl d c)
    | @lst p xs ds h1 h2 =>
      change pst X.K X.mg W C (relE X.K) ow σ H3 Q (R.ok (.list (cutD ds lo' hi')) S3) at k3
      exact .inl ⟨p, xs, rfl, h1.sq, fun l nl => pst_same r3 k3 (same_new nl) (rd_newL r3.tracked (h2.cut lo' hi') nl)⟩
    | @scr p ns h1 =>
      change pst X.K X.mg W C (relE X.K) ow σ H3 Q (R.ok (.list (cutD (ns.map PyData.int) lo' hi')) S3) at k3
      exact .inl ⟨p, _, rfl, h1.sq, fun l nl => pst_same r3 k3 (same_new nl) (rd_newL r3.tracked ((RDs.mkInts ns).cut lo' hi') nl)⟩
    | str z =>
      change pst X.K X.mg W C (relE X.K) ow σ H3 Q (R.opt (if z.length ≤ sizeLine then some (PyData.str (cutS z lo' hi')) else none) S3) at k3
      by_cases c : z.length ≤ sizeLine
      · rw [if_pos c] at k3
        exact .inr (.inr ⟨z, rfl, c, pst_ok r3 k3 (.str _)⟩)
      · rw [if_neg c] at k3
        exact k3.elim
    | _ => exact k3.elim
/-- sep.join(l) -/
def strsOf : List PyData → Option (List Str)
  | [] => some []
  | .str b :: ds => (strsOf ds).map (b :: ·)
  | _ => none
theorem strsOf_map : ∀ {ds : List PyData} {bs : List Str}, strsOf ds = some bs → ds = bs.map PyData.str
  | [], bs, h => by cases h; rfl
  | .str b :: ds, bs, h => by
    change (strsOf ds).map (b :: ·) = some bs at h
    cases e : strsOf ds with
    | none => rw [e] at h; cases h
    | some cs =>
      rw [e] at h
      cases h
      rw [List.map_cons, ← strsOf_map e]
def gJoin (d : PyData) (ds : List PyData) : Option PyData := match d, strsOf ds with
  | .str s, some ys => if (ys.map (·.length)).sum + ys.length * s.length ≤ 16777216 then some (.str (Txt.join s ys)) else none
  | _, _ => none
def sJoin (sa : SE) (sl : SN) : SE := fun S => (sa S).bind fun d S1 => match d with
  | .str s => (sl S1).bind fun ds S2 => R.opt (gJoin (.str s) ds) S2
  | _ => .no
/-- tuple(range(n)), list(range(n)) -/
def sTupRg (sa : SE) : SE := fun S => (sa S).bind fun d S1 => match d with
  | .int n => if 0 ≤ n ∧ n ≤ 16777216 then .ok (.tuple (rng 0 n)) S1 else .no
  | _ => .no
theorem rds_rg {av : Av} {H : Hp} (n : Int) : RDs K av H (rgV 0 n) (rng 0 n) := by
  have e1 : rgV 0 n = ((List.range (n - 0).toNat).map fun i => (0 : Int) + (i : Nat)).map V.int := by unfold rgV; rw [List.map_map]; rfl
  have e2 : rng 0 n = ((List.range (n - 0).toNat).map fun i => (0 : Int) + (i : Nat)).map PyData.int := by unfold rng; rw [List.map_map]; rfl
  rw [e1, e2]
  exact RDs.mkInts _
end
end Ds
end
section
set_option Elab.async false
set_option linter.all false
set_option maxRecDepth 100000
set_option maxHeartbeats 4000000
namespace Ds
open PySem PySem.Spec PyProof.Rows L2
section
variable {X : Cx} {K : PySem.W.Frag} {W : WX} {C : Cn} {a b c e tg : Expr} {pos : Pos} {sa sb sc se : SE} {sn sl sr : SN} {i : Nat} {pins : List (Addr × Obj)} {σ : St} {H : Hp} {s : Shared}
mutual
def dzD : PyData → Bool
  | .dict [] => true
  | .dict (_ :: _) => false
  | .list ds => dzDs ds
  | .tuple ds => dzDs ds
  | _ => true
def dzDs : List PyData → Bool
  | [] => true
  | d :: ds => dzD d && dzDs ds
end
mutual
theorem dz_of : ∀ d : PyData, d.hasDict = false → dzD d = true
  | .none, _ => by simp [dzD]
  | .bool _, _ => by simp [dzD]
  | .int _, _ => by simp [dzD]
  | .str _, _ => by simp [dzD]
  | .list ds, h => by simp only [dzD]; exact dzs_of ds (by simpa [PyData.hasDict] using h)
  | .tuple ds, h => by simp only [dzD]; exact dzs_of ds (by simpa [PyData.hasDict] using h)
  | .dict _, h => by simp [PyData.hasDict] at h
theorem dzs_of : ∀ ds : List PyData, PyData.hasDictAll ds = false → dzDs ds = true
  | [], _ => by simp [dzDs]
  | d :: ds, h => by
    have h' : d.hasDict = false ∧ PyData.hasDictAll ds = false := by simpa [PyData.hasDictAll] using h
    simp [dzDs, dz_of d h'.1, dzs_of ds h'.2]
end
mutual
theorem RD.shw (I : Inv X pins σ H s) {av : Av} : ∀ (d : PyData) (v : V) (u : Value), RD X.K av H v d → RelV v u → dzD d = true → d.showable = true → d.shown.length ≤ sizeLine → ∃ as bs, Reads s.heap u d as ∧ ReadAtMost s.heap d.depth bs ∧ ReprK X.prog X.w bs s.heap d.depth u d.shown
  | .none, _, _, h, r, _, h1, h2 => by
    cases h; cases r
    obtain ⟨bs, q1, q2⟩ := ReprK.of_reads (prog := X.prog) (w := X.w) (Reads.none (h := s.heap)) h1 (fun z => by simp [PyData.hasDict] at z) h2
    exact ⟨_, bs, .none, q1, q2⟩
  | .bool b, _, _, h, r, _, h1, h2 => by
    cases h; cases r
    obtain ⟨bs, q1, q2⟩ := ReprK.of_reads (prog := X.prog) (w := X.w) (Reads.bool (h := s.heap) b) h1 (fun z => by simp [PyData.hasDict] at z) h2
    exact ⟨_, bs, .bool b, q1, q2⟩
  | .int i, _, _, h, r, _, h1, h2 => by
    cases h; obtain ⟨t, rfl⟩ := r
    obtain ⟨bs, q1, q2⟩ := ReprK.of_reads (prog := X.prog) (w := X.w) (Reads.int (h := s.heap) i t) h1 (fun z => by simp [PyData.hasDict] at z) h2
    exact ⟨_, bs, .int i t, q1, q2⟩
  | .str x, _, _, h, r, _, h1, h2 => by
    cases h; obtain ⟨t, rfl⟩ := r
    obtain ⟨bs, q1, q2⟩ := ReprK.of_reads (prog := X.prog) (w := X.w) (Reads.str (h := s.heap) x t) h1 (fun z => by simp [PyData.hasDict] at z) h2
    exact ⟨_, bs, .str x t, q1, q2⟩
  | .list ds, _, _, h, r, hd, h1, h2 => by
    cases h with
    | @lst p xs _ g1 g2 =>
      cases r
      obtain ⟨its, rv, ⟨o, n, e, c1, _, c3⟩, _⟩ := I.list g1.sq
      have hz' : (listText (PyData.shownAll ds)).length ≤ sizeLine := by simpa only [PyData.shown] using h2
      obtain ⟨as, bs, q, hb, hk⟩ := RDs.shw I ds _ its g2 rv (by simpa [dzD] using hd) (by simpa [PyData.showable] using h1) (fun t ht => Nat.le_trans (listText_mem_le ht) hz')
      have r : Reads s.heap (.ref p) (.list ds) _ := .list e c1 c3 (by simpa using q)
      have hna : p ∉ bs := not_mem_of_deeper r (by simp only [PyData.depth]; omega) hb
      refine ⟨_, p :: bs, r, ReadAtMost.cons r (by simp only [PyData.depth]; omega) hb, ?_⟩
      simp only [PyData.depth, PyData.shown]
      cases its with
      | nil =>
        cases q
        simp only [PyData.shownAll, listText_nil]
        exact ReprK.listEmpty e c1 c3
      | cons x l => exact ReprK.list e c1 c3 hna (by simpa using hk.length_eq) (fun i y e => hk.item i y (by simpa using e))
  | .tuple ds, _, _, h, r, hd, h1, h2 => by
    cases h with
    | @tup p xs _ g1 g2 =>
      cases r
      obtain ⟨its, rv, ⟨o, e, c1, n, c3⟩, _⟩ := I.tuple g1.sq
      have hz' : (tupleText (PyData.shownAll ds)).length ≤ sizeLine := by simpa only [PyData.shown] using h2
      obtain ⟨as, bs, q, hb, hk⟩ := RDs.shw I ds _ its g2 rv (by simpa [dzD] using hd) (by simpa [PyData.showable] using h1) (fun t ht => Nat.le_trans (tupleText_mem_le ht) hz')
      have r : Reads s.heap (.ref p) (.tuple ds) _ := .tuple e c1 c3 (by simpa using q)
      have hna : p ∉ bs := not_mem_of_deeper r (by simp only [PyData.depth]; omega) hb
      refine ⟨_, p :: bs, r, ReadAtMost.cons r (by simp only [PyData.depth]; omega) hb, ?_⟩
      simp only [PyData.depth, PyData.shown]
      exact ReprK.tuple e c1 c3 hna (by simpa using hk)
  | .dict kvs, _, _, h, r, hd, h1, h2 => by
    cases h with
    | @dic p g1 g2 =>
      cases r
      obtain ⟨_, hm, vs, kv, o, es, ep, e1, e2, e3, e4⟩ := I.hok p _ g1
      cases kv
      have he : es.toList = [] := by
        cases q : es.toList with
        | nil => rfl
        | cons x r => have := e4.2.1; rw [q] at this; cases this
      have r : Reads s.heap (.ref p) (.dict []) (p :: [] ++ []) := .dict (es := es) (n := ep) (as := []) (bs := []) e1 e2.1 e3 (by rw [he]; exact .nil) (by rw [he]; exact .nil)
      obtain ⟨bs, q1, q2⟩ := ReprK.of_reads (prog := X.prog) (w := X.w) r h1 (fun _ => by
        simp
        exact fun z => by rw [z] at hm; simp at hm) h2
      exact ⟨_, bs, r, q1, q2⟩
    | exc g1 g2 => simp [dzD] at hd
    | exf g1 g2 g3 => simp [dzD] at hd
    | scr g1 => simp [scrD, dzD] at hd
    | dct _ _ _ _ _ _ => simp [dzD] at hd
theorem RDs.shw (I : Inv X pins σ H s) {av : Av} : ∀ (ds : List PyData) (vs : List V) (us : List Value), RDs X.K av H vs ds → Vals vs us → dzDs ds = true → PyData.showableAll ds = true → (∀ t ∈ PyData.shownAll ds, t.length ≤ sizeLine) → ∃ as bs, ReadsAll s.heap us ds as ∧ ReadAtMost s.heap (PyData.depthAll ds) bs ∧ ReprAllK X.prog X.w bs s.heap (PyData.depthAll ds) us (PyData.shownAll ds)
  | [], _, _, h, r, _, _, _ => by
    cases h; cases r
    exact ⟨_, [], .nil, (fun _ h => nomatch h), by simp only [PyData.shownAll]; exact .nil⟩
  | d :: ds, _, _, h, r, hd, h1, h2 => by
    cases h with
    | cons g1 g2 =>
      cases r with
      | cons r1 r2 =>
        have hd' : dzD d = true ∧ dzDs ds = true := by simpa [dzDs] using hd
        have hs' : d.showable = true ∧ PyData.showableAll ds = true := by simpa [PyData.showableAll] using h1
        obtain ⟨as, b1, q1, hb1, k1⟩ := RD.shw I d _ _ g1 r1 hd'.1 hs'.1 (h2 _ (by simp only [PyData.shownAll]; exact List.mem_cons_self ..))
        obtain ⟨as2, b2, q2, hb2, k2⟩ := RDs.shw I ds _ _ g2 r2 hd'.2 hs'.2 (fun t ht => h2 t (by simp only [PyData.shownAll]; exact List.mem_cons_of_mem _ ht))
        refine ⟨_, b1 ++ b2, .cons q1 q2, ?_, ?_⟩
        · simp only [PyData.depthAll]
          exact (hb1.mono (Nat.le_max_left _ _)).append (hb2.mono (Nat.le_max_right _ _))
        · simp only [PyData.depthAll, PyData.shownAll]
          exact .cons ((k1.more fun b hb => List.mem_append_left _ hb).level_le (Nat.le_max_left _ _)) (k2.more_le (fun b hb => List.mem_append_right _ hb) (Nat.le_max_right _ _))
end
def okR (d : PyData) : Prop := d.showable = true ∧ d.depth ≤ 64 ∧ d.shown.length ≤ sizeLine ∧ (PyData.hasDict d = false ∨ dzD d = true)
instance (d : PyData) : Decidable (okR d) := by
  unfold okR
  infer_instance
theorem okR.dz {d : PyData} (h : okR d) : dzD d = true := h.2.2.2.elim (dz_of d) id
theorem repr_list {A : Around} {E : Value → Shared → Prop} {Q : Value → Shared → Prop} (I : Inv X pins σ H s) {av : Av} {p : Addr} {xs : List V} {ds : List PyData} (g1 : SqL X.K H p xs) (g2 : RDs X.K av H xs ds) (ok : okR (.list ds)) (gd : A.guards = some []) (hu : A.units + 70 < cLine)
    (hQ : ∀ h' u tk, (∀ b o, s.heap.get? b = some o → h'.get? b = some o) → Q (.str (PyData.list ds).shown u) { s with heap := h', toks := tk }) : wpAny (model X.prog X.w) A (call (.builtin "repr") [.ref p]) Q E s := by
  obtain ⟨h1, h2, h3, _⟩ := id ok
  obtain ⟨its, rv, ⟨o, n, e, c1, _, c3⟩, _⟩ := I.list g1
  have hz' : (listText (PyData.shownAll ds)).length ≤ sizeLine := by simpa only [PyData.shown] using h3
  obtain ⟨as, bs, q, hb, hk⟩ := RDs.shw I ds _ its g2 rv (by simpa [dzD] using ok.dz) (by simpa [PyData.showable] using h1) (fun t ht => Nat.le_trans (listText_mem_le ht) hz')
  have r : Reads s.heap (.ref p) (.list ds) _ := .list e c1 c3 (by simpa using q)
  have hna : p ∉ bs := not_mem_of_deeper r (by simp only [PyData.depth]; omega) hb
  simp only [PyData.depth] at h2
  simp only [PyData.shown] at hQ
  refine call_repr_slot (by omega) ⟨o, e, c1⟩ PySem.F.slot_list_repr.toG ?_
  cases its with
  | nil =>
    cases q
    simp only [PyData.shownAll, listText_nil] at hQ
    exact call_list_repr_empty ⟨o, e, c1⟩ e c3 ⟨_, _, rfl, hQ s.heap _ _ fun _ _ e => e⟩
  | cons x l =>
    exact call_list_reprK e c1 c3 hna (by simpa using hk.length_eq) (fun i y e => hk.item i y (by simpa using e)) gd (fun b _ => Clear.nil b) (by show A.units + 1 + _ < cLine; omega) (fun _ _ e => e) (fun h' u tk hk => ⟨_, _, rfl, hQ h' u tk hk⟩) hz'
theorem repr_tup {A : Around} {E : Value → Shared → Prop} {Q : Value → Shared → Prop} (I : Inv X pins σ H s) {av : Av} {p : Addr} {xs : List V} {ds : List PyData} (g1 : SqT X.K H p xs) (g2 : RDs X.K av H xs ds) (ok : okR (.tuple ds)) (gd : A.guards = some []) (hu : A.units + 70 < cLine)
    (hQ : ∀ h' u tk, (∀ b o, s.heap.get? b = some o → h'.get? b = some o) → Q (.str (PyData.tuple ds).shown u) { s with heap := h', toks := tk }) : wpAny (model X.prog X.w) A (call (.builtin "repr") [.ref p]) Q E s := by
  obtain ⟨h1, h2, h3, _⟩ := id ok
  obtain ⟨its, rv, ⟨o, e, c1, n, c3⟩, _⟩ := I.tuple g1
  have hz' : (tupleText (PyData.shownAll ds)).length ≤ sizeLine := by simpa only [PyData.shown] using h3
  obtain ⟨as, bs, q, hb, hk⟩ := RDs.shw I ds _ its g2 rv (by simpa [dzD] using ok.dz) (by simpa [PyData.showable] using h1) (fun t ht => Nat.le_trans (tupleText_mem_le ht) hz')
  have r : Reads s.heap (.ref p) (.tuple ds) _ := .tuple e c1 c3 (by simpa using q)
  have hna : p ∉ bs := not_mem_of_deeper r (by simp only [PyData.depth]; omega) hb
  simp only [PyData.depth] at h2
  simp only [PyData.shown] at hQ
  refine call_repr_slot (by omega) ⟨o, e, c1⟩ PySem.F.slot_tuple_repr ?_
  exact call_tuple_reprK e c1 c3 hna (by simpa using hk) gd (fun b _ => Clear.nil b) (by show A.units + 1 + _ < cLine; omega) (fun _ _ e => e) (fun h' u tk hk => ⟨_, _, rfl, hQ h' u tk hk⟩) hz'
theorem call_repr (gd : X.A.guards = some []) (hu : X.A.units + 100 < cLine) : CallR X (.builtin "repr") (fun xs H Q => ∃ v d av, xs = [v] ∧ RD X.K av H v d ∧ okR d ∧ Q (.str d.shown) H) := by
  intro pins s σ H xs us Q I r h
  obtain ⟨v, d, av, rfl, rd, ⟨h1, h2, h3, h4⟩, q⟩ := h
  obtain ⟨u, rfl, ru⟩ := vals1 r
  have big : ∀ {p : Addr}, u = .ref p → (∃ as, Reads s.heap (.ref p) d as ∧ (d.hasDict = true → sysModules ∉ as)) → wpAny (model X.prog X.w) X.A (call (.builtin "repr") [u]) (EP X pins σ Q) X.xe s := fun {p} e ⟨as, ra, hs⟩ => by
    subst e
    exact repr_of_reads' ra h1 hs gd (by omega) (fun _ _ e => e) (fun h' tk t k => ⟨.str d.shown, H, I.kept (t' := t) k, ⟨_, rfl⟩, q⟩) h3
  cases rd with
  | non => cases ru; exact PySem.P.repr_of_none ⟨.str _, H, I.tok _, ⟨_, rfl⟩, q⟩
  | bl k => cases ru; exact PySem.P.repr_of_bool ⟨.str _, H, I.tok _, ⟨_, rfl⟩, q⟩
  | int k =>
    obtain ⟨t, rfl⟩ := ru
    exact PySem.P.repr_of_int (of_decide_eq_true h1) ⟨.str _, H, I.tok _, ⟨_, rfl⟩, q⟩
  | str k =>
    obtain ⟨t, rfl⟩ := ru
    exact PySem.P.repr_of_str ⟨.str _, H, I.tok _, ⟨_, rfl⟩, q⟩ h3
  | @lst p xs ds g1 g2 =>
    cases ru
    exact repr_list I g1.sq g2 ⟨h1, h2, h3, h4⟩ gd (by omega) (fun h' tk t k => ⟨.str _, H, I.kept (t' := t) k, ⟨_, rfl⟩, q⟩)
  | @tup p xs ds g1 g2 =>
    cases ru
    exact repr_tup I g1.sq g2 ⟨h1, h2, h3, h4⟩ gd (by omega) (fun h' tk t k => ⟨.str _, H, I.kept (t' := t) k, ⟨_, rfl⟩, q⟩)
  | exc g1 g2 => exact h4.elim (fun z => by simp [PyData.hasDict] at z) fun z => by simp [dzD] at z
  | exf g1 g2 g3 => exact h4.elim (fun z => by simp [PyData.hasDict] at z) fun z => by simp [dzD] at z
  | scr g1 => exact h4.elim (fun z => by simp [scrD, PyData.hasDict] at z) fun z => by simp [scrD, dzD] at z
  | dct _ _ _ _ _ _ => exact h4.elim (fun z => by simp [PyData.hasDict] at z) fun z => by simp [dzD] at z
  | @dic p g1 g2 =>
    cases ru
    obtain ⟨_, hm, vs, kv, o, es, ep, e1, e2, e3, e4⟩ := I.hok p _ g1
    cases kv
    have he : es.toList = [] := by
      cases q : es.toList with
      | nil => rfl
      | cons x r => have := e4.2.1; rw [q] at this; cases this
    refine big rfl ⟨_, .dict (es := es) (n := ep) (as := []) (bs := []) e1 e2.1 e3 (by rw [he]; exact .nil) (by rw [he]; exact .nil), fun _ => ?_⟩
    simp
    exact fun z => by rw [z] at hm; simp at hm
def sRepr (sa : SE) : SE := fun S => (sa S).bind fun d S1 => if okR d then .ok (.str d.shown) S1 else .no
theorem e_repr {p : Pos} (gd : X.A.guards = some []) (hu : X.A.units + 100 < cLine) (hg : Gl X "repr") (hm : X.mg "repr" = none) (ha : PE X a (xE X.K X.mg W C sa))
    (hs : starEach (a :: []) X.env = (false, eval a X.env) :: starEach [] X.env := by rfl) (hpl : (backTo pos (starEach [] X.env)).any (·.1) = false := by rfl) : PE X (.Call (.Name "repr" p) [a] [] pos) (xE X.K X.mg W C (sRepr sa)) :=
  pe_imp (pe_callB (call_repr gd hu) hg hm (by decide +kernel) (pa_cons ha pa_nil hs) (by decide) (by decide) hs hpl) fun σ H Q ⟨ow, S, r, q⟩ => seq early_E r q fun S1 d v H1 r1 x1 rd k => by
    by_cases c : okR d
    · rw [if_pos c] at k
      exact ⟨v, d, _, rfl, rd, c, pst_ok r1 k (.str _)⟩
    · rw [if_neg c] at k
      exact k.elim
/-- repr of the list in a slot, of a new list -/
def lRepr (ds : List PyData) : Option PyData := if okR (.list ds) then some (.str (PyData.list ds).shown) else none
theorem call_reprL (gd : X.A.guards = some []) (hu : X.A.units + 100 < cLine) : CallR X (.builtin "repr") (fun xs H Q => ∃ p vs ds av, xs = [.ref p] ∧ SqL X.K H p vs ∧ RDs X.K av H vs ds ∧ okR (.list ds) ∧ Q (.str (PyData.list ds).shown) H) := by
  intro pins s σ H xs us Q I r h
  obtain ⟨p, vs, ds, av, rfl, sq, rds, ⟨h1, h2, h3, h4⟩, q⟩ := h
  obtain ⟨u, rfl, ru⟩ := vals1 r
  cases ru
  exact repr_list I sq rds ⟨h1, h2, h3, h4⟩ gd (by omega) (fun h' tk t k => ⟨.str _, H, I.kept (t' := t) k, ⟨_, rfl⟩, q⟩)
theorem ld_repr : LstD K (fun xs H Q => ∃ p vs ds av, xs = [.ref p] ∧ SqL K H p vs ∧ RDs K av H vs ds ∧ okR (.list ds) ∧ Q (.str (PyData.list ds).shown) H) lRepr := fun av H p vs ds z Q tr h r g q => by
  unfold lRepr at g
  by_cases c : okR (.list ds)
  · rw [if_pos c] at g
    cases g
    exact ⟨p, vs, ds, av, rfl, h, r, c, q _ H (Same.refl H) (.str _)⟩
  · rw [if_neg c] at g
    cases g
def signs (x : Str) : List PyData := x.cps.toList.map fun c => .str ⟨#[c]⟩
def asS (d : PyData) : Option (List PyData) := match d with
  | .str x => some (signs x)
  | _ => none
def sIS (se : SE) : SN := fun S => (se S).bind fun d S1 => R.opt (asS d) S1
theorem itd_str {av1 : Av} {H : Hp} (x : Str) : ItD K (Its x) av1 H (signs x) := fun av2 H1 _ g _ _ => by
  have hl : (signs x).length = x.cps.size := by unfold signs; simp
  refine ⟨fun i hi => by show i < x.cps.size; rw [← hl]; exact hi, by show x.cps.size ≤ _; rw [hl]; exact Nat.le_refl _, fun i d v H2 e y => ?_⟩
  obtain ⟨y1, c, y2, y3⟩ := y
  subst y1
  subst y3
  unfold signs at e
  rw [List.getElem?_map, Array.getElem?_toList, y2] at e
  cases e
  exact ⟨Same.refl _, .str _⟩
theorem i_str (h : PE X e (xE X.K X.mg W C se)) : PI X tg e (xI X.K X.mg W C (sIS se)) := pi_imp (pi_str h) fun σ H Q ⟨ow, S, r, q⟩ =>
  seq early_I r q fun S1 d v H1 r1 x1 rd k => by
    cases rd with
    | str x => exact ⟨x, rfl, pst_ok r1 k (itd_str x)⟩
    | _ => exact k.elim
theorem meets_enum_tup (l : Addr) (items : Array Value) (n : Nat) (dct : Option Addr) (sl : Array (Option Value)) :
    Meets (Builtin.«enumerate.__new__» ⟨[.type "enumerate", .ref l], []⟩) (fun _ R s => s.heap.get? l = some { cls := .type "tuple", dict := dct, data := .seq items n, slots := sl } ∧
      R (.ok (.ret (.ref (s.heap.objs.size + 1)))) { s with heap := (s.heap.push { cls := .type "tuple_iterator", data := .fields #[.ref l, .int 0 0] }).push { cls := .type "enumerate", data := .fields #[.none, .bool false, .ref s.heap.objs.size, rawInt 0, .none, .none] } }) :=
  .of_wp fun prog w A R s h => by
    obtain ⟨hp, g, d, tk, os⟩ := s
    obtain ⟨hl, h⟩ := h
    have hsub := sub_enumerate
    have hT : Heap.IsTuple (Shared.heap ⟨hp, g, d, tk, os⟩) l items := ⟨_, hl, rfl, n, rfl⟩
    have hz : (hp.push { cls := .type "tuple_iterator", data := .fields #[.ref l, .int 0 0] }).objs.size = hp.objs.size + 1 := Heap.size_push ..
    have h' : R (.ok (.ret (.ref (hp.push { cls := .type "tuple_iterator", data := .fields #[.ref l, .int 0 0] }).objs.size))) ⟨(hp.push { cls := .type "tuple_iterator", data := .fields #[.ref l, .int 0 0] }).push { cls := .type "enumerate", data := .fields #[.none, .bool false, .ref hp.objs.size, rawInt 0, .none, .none] }, g, d, tk, os⟩ := by
      rw [hz]
      exact h
    wp_walk using wpAny_loadPart' hl
    refine wpAny_stack_any fun st => wpAny_pure ?_
    split
    · rename_i c _ _ _ _ _
      cases (c == Value.type "enumerate")
      · wp_walk using wpAny_loadPart' hl, wpAny_pyIter_tuple hT
        exact ⟨_, rfl, h'⟩
      · wp_walk using wpAny_loadPart' hl, wpAny_pyIter_tuple hT
        exact ⟨_, rfl, h'⟩
    · wp_walk using wpAny_loadPart' hl, wpAny_pyIter_tuple hT
      exact ⟨_, rfl, h'⟩
/-- the tuple at a, each item in a new pair -/
def Iet (K : PySem.W.Frag) (a : Addr) : It where
  go := fun i H => ∃ (xs : List V) (x : V), SqT K H a xs ∧ xs[i]? = some x
  yld := fun i H v H' => ∃ (T : Addr) (x : V) (o : Obj), v = .ref T ∧ H T = none ∧ o.dict = none ∧ o.cls = .type "tuple" ∧ H' = upd H T (.frz o (.tup [.int (i : Nat), x])) ∧ ∀ xs, SqT K H a xs → xs[i]? = some x
  stop := fun i H => ∃ xs : List V, SqT K H a xs ∧ xs.length = i
theorem two_mem {b e it : Addr} (h : b ∈ [e, it]) : b = e ∨ b = it := by simpa using h
theorem turn_enumT {P : Program} {w : World} {K : PySem.W.Frag} {elts : List Expr} {kk : Nat} {tpos : Pos} (a e it : Addr) :
    Turn P w K (.Tuple elts kk tpos) (Iet K a) [e, it] e (fun i h => (∃ old, IsEnum h e it ((i : Nat) : Int) old) ∧ h.IsTupleIter it a i ∧ e ≠ it) where
  mem := by simp
  obj := fun i h ⟨⟨old, he⟩, ⟨o, ho, hc, hd⟩, _⟩ b hb => by
    rcases two_mem hb with rfl | rfl
    · exact ⟨_, he, fun v q => nomatch q⟩
    · exact ⟨o, ho, fun v q => by rw [hd] at q; cases q⟩
  keep := fun i h h' ⟨⟨old, he⟩, hi, hne⟩ k => ⟨⟨old, k e (by simp) _ he⟩, hi.at fun o q => k it (by simp) o q, hne⟩
  item := by
    intro X hP hw hK hc i pins s σ H E I hf st hg
    subst hP hw hK
    obtain ⟨⟨old, he⟩, hit, hne⟩ := st
    obtain ⟨xs, x, hq, hx⟩ := hg
    obtain ⟨its, rv, ht, hz⟩ := I.tuple hq
    obtain ⟨u, hu, ru⟩ := rv.get hx
    have hT : s.heap.IsTuple a its.toArray := ht
    have n1 : a ≠ it := fun z => by
      obtain ⟨o, ho, hc1, _⟩ := hit
      obtain ⟨o', ho', hc2, _⟩ := ht
      rw [z, ho] at ho'
      cases ho'
      rw [hc1] at hc2
      injection hc2 with w
      exact absurd w (by decide)
    have n2 : e ≠ a := fun z => by
      obtain ⟨o', ho', hc2, _⟩ := ht
      have he' : s.heap.get? e = some _ := he
      rw [z, ho'] at he'
      cases he'
      injection hc2 with w
      exact absurd w (by decide)
    have lt : i < its.toArray.size := by
      rw [List.size_toArray]
      exact (List.getElem?_eq_some_iff.mp hu).1
    have hel : e < s.heap.objs.size := Heap.lt_size he
    have hil : it < s.heap.objs.size := hit.elim fun _ q => Heap.lt_size q.1
    refine wpAny_pyNext_enum_itemD (Draws.tuple (prog := X.prog) (w := X.w) (A := X.A.in1) (show X.A.in1.handled = none from I.ok.hd hc) it a n1 its.toArray) he ⟨hit, hT⟩ lt hne (by simp [hne, n2]) fun y h1 tk hy ho hst hN hsz hk => ?_
    have ey : y = u := by
      rw [← Array.getElem?_toList] at hy
      exact Option.some.inj (hy.symm.trans hu)
    subst ey
    refine ⟨_, rfl, wpAny_letOwnedTupleGo_enum (s := { s with heap := h1, toks := tk + 1 }) ho fun h2 he2 sb => ?_⟩
    have hN2 : h2.get? s.heap.objs.size = some { cls := .type "tuple", data := .seq #[.int i tk, y] } := (sb.2 _ (Nat.ne_of_gt hel)).trans hN
    have new : ObjOk X.prog X.w (upd H s.heap.objs.size (.frz { cls := .type "tuple", data := .seq #[.int i tk, y] } (.tup [.int (i : Nat), x]))) h2 s.heap.objs.size (.frz { cls := .type "tuple", data := .seq #[.int i tk, y] } (.tup [.int (i : Nat), x])) :=
      ⟨hN2, by show 2 ≤ sizeLine; decide, [.int i tk, y], .cons ⟨_, rfl⟩ (.cons ru .nil), ⟨_, hN2, rfl, _, rfl⟩⟩
    have I1 := I.turnedNew (t' := tk + 1) (ch := [e, it]) (fun b ob hb q => (sb.2 b (fun z => hb (by simp [z]))).trans (hk b ob (fun z => hb (by simp [z])) (fun z => hb (by simp [z])) q)) hf (Nat.le_refl _) new
    refine ⟨.ref s.heap.objs.size, _, I1, rfl, ⟨_, x, _, rfl, I.hok.fresh (Nat.le_refl _), rfl, rfl, rfl, fun ys hy => by rw [I.tuple_inj hy hq]; exact hx⟩, ⟨⟨y, ?_⟩, hst.1.at fun o q => (sb.2 it (Ne.symm hne)).trans q, hne⟩, fun b hb => ?_⟩
    · have e1 : ((i + 1 : Nat) : Int) = (i : Int) + 1 := by omega
      rw [e1]
      exact he2
    · have hb2 : b < s.heap.objs.size := by
        rcases two_mem hb with rfl | rfl
        · exact hel
        · exact hil
      rw [upd_ne (Nat.ne_of_lt hb2)]
      exact (hf b hb).1
  done := by
    intro X hP hw hK hc i pins s σ H E I hf st hg
    subst hP hw hK
    obtain ⟨⟨old, he⟩, hit, hne⟩ := st
    obtain ⟨xs, hq, hx⟩ := hg
    obtain ⟨its, rv, ht, hz⟩ := I.tuple hq
    have hl := rv.length
    have hT : s.heap.IsTuple a its.toArray := ht
    have n1 : a ≠ it := fun z => by
      obtain ⟨o, ho, hc1, _⟩ := hit
      obtain ⟨o', ho', hc2, _⟩ := ht
      rw [z, ho] at ho'
      cases ho'
      rw [hc1] at hc2
      injection hc2 with w
      exact absurd w (by decide)
    obtain ⟨f0, f1, f2, f3, f4, f5⟩ := hf it (by simp)
    have hn : i = its.toArray.size := by rw [List.size_toArray]; omega
    subst hn
    exact wpAny_pyNext_enum_endD (Draws.tuple (prog := X.prog) (w := X.w) (A := X.A.in1) (show X.A.in1.handled = none from I.ok.hd hc) it a n1 its.toArray) he ⟨hit, hT⟩ fun h' eb => ⟨rfl, I.turned (t' := s.toks) (fun b o hb q => eb b o hb q) f0 f1 f3 f4 f5⟩
  self := fun A i s Q E ⟨⟨_, he⟩, _⟩ h => wpAny_pyIter_enum he h
def rIetT (K : PySem.W.Frag) (ta : TA) : TI := fun σ H R => ta σ H fun vs H1 => ∃ a xs, vs = [.ref a] ∧ SqT K H1 a xs ∧ R (Iet K a) H1
theorem pi_enumT {p tpos : Pos} {elts : List Expr} {kk : Nat} {ta : TA} (hg : Gl X "enumerate") (hm : X.mg "enumerate" = none) (ha : PA X [e] ta) (hs : starEach [e] X.env = [(false, eval e X.env)] := by rfl) :
    PI X (.Tuple elts kk tpos) (.Call (.Name "enumerate" p) [e] [] pos) (rIetT X.K ta) := by
  refine ⟨fun pins s σ H R I h => ?_⟩
  refine Call_ (ld_blt I hg hm boot_enumerate (PyProof.Rows.callWith_type1 (thn (ha.run pos pins s σ H _ I h) fun us s1 ⟨vs, H1, I1, r1, a, xs, ex, hq, q⟩ => ?_) hs rfl))
  subst ex
  obtain ⟨u, rfl, ru⟩ := vals1 r1
  cases ru
  obtain ⟨its, rv, ⟨⟨c, dd, dt, sl⟩, ho, hc, n, hd⟩, hz⟩ := I1.tuple hq
  simp only at hc hd
  subst hc hd
  refine callType_new F.called_enumerate (by decide) (F.typeCall_enumerate_1 _) (F.newCall_enumerate_1 _) (fun obj => F.args_object_init_2 obj _) F.entry_enumerate_new (meets_enum_tup a its.toArray n dd sl) ⟨ho, ?_⟩
  have hz1 : (s1.heap.push { cls := .type "tuple_iterator", data := .fields #[.ref a, .int 0 0] }).objs.size = s1.heap.objs.size + 1 := Heap.size_push ..
  have he : IsEnum ((s1.heap.push { cls := .type "tuple_iterator", data := .fields #[.ref a, .int 0 0] }).push { cls := .type "enumerate", data := .fields #[.none, .bool false, .ref s1.heap.objs.size, rawInt 0, .none, .none] }) (s1.heap.objs.size + 1) s1.heap.objs.size 0 .none := by
    have := Heap.get?_push_size (s1.heap.push { cls := .type "tuple_iterator", data := .fields #[.ref a, .int 0 0] }) (o := { cls := .type "enumerate", data := .fields #[.none, .bool false, .ref s1.heap.objs.size, rawInt 0, .none, .none] }) rfl
    rw [hz1] at this
    exact this
  refine ⟨⟨_, he, rfl⟩, wpAny_pyIter_enum he ?_⟩
  have I2 := I1.kept (t' := s1.toks) (h' := (s1.heap.push { cls := .type "tuple_iterator", data := .fields #[.ref a, .int 0 0] }).push { cls := .type "enumerate", data := .fields #[.none, .bool false, .ref s1.heap.objs.size, rawInt 0, .none, .none] }) fun b o q => Heap.get?_push_of_some _ (Heap.get?_push_of_some _ q)
  refine ⟨s1.heap.objs.size + 1, [s1.heap.objs.size + 1, s1.heap.objs.size], _, _, H1, rfl, I2, turn_enumT a (s1.heap.objs.size + 1) s1.heap.objs.size, ⟨⟨.none, he⟩, ⟨_, Heap.get?_push_of_some _ (Heap.get?_push_size _ rfl), rfl, rfl⟩, Nat.succ_ne_self _⟩, fun b hb => ?_, q⟩
  have hle : s1.heap.objs.size ≤ b := by
    rcases two_mem hb with rfl | rfl
    · exact Nat.le_add_right _ _
    · exact Nat.le_refl _
  exact I1.fpOk hle (I1.hok.fresh hle)
/-- enumerate, as data -/
def enumD (ds : List PyData) : List PyData := (List.range ds.length).zipWith (fun i d => .tuple [.int (i : Nat), d]) ds
theorem enumD_get {ds : List PyData} {i : Nat} {z : PyData} (h : (enumD ds)[i]? = some z) : ∃ d, ds[i]? = some d ∧ z = .tuple [.int (i : Nat), d] := by
  unfold enumD at h
  rw [List.getElem?_zipWith] at h
  cases e1 : (List.range ds.length)[i]? with
  | none => rw [e1] at h; cases h
  | some j =>
    obtain ⟨h1, h2⟩ := List.getElem?_eq_some_iff.mp e1
    rw [List.getElem_range] at h2
    subst h2
    cases e2 : ds[i]? with
    | none => rw [e1, e2] at h; cases h
    | some d =>
      rw [e1, e2] at h
      cases h
      exact ⟨d, rfl, rfl⟩
theorem enumD_len {ds : List PyData} : (enumD ds).length = ds.length := by
  unfold enumD
  rw [List.length_zipWith, List.length_range, Nat.min_self]
theorem itd_enumT {av1 : Av} {H : Hp} {p : Addr} {vs : List V} {ds : List PyData} (h : TK K av1 H p vs) (r : RDs K av1 H vs ds) : ItD K (Iet K p) av1 H (enumD ds) := fun av2 H1 x g gw tr => by
  have q := (h.mono x g).sq
  have r' := RDs.mono x g ds vs r
  have hl := r.len
  rw [enumD_len]
  refine ⟨fun i hi => ⟨vs, vs[i]'(by omega), q, List.getElem?_eq_getElem _⟩, ⟨vs, q, hl⟩, fun i z v H2 e y => ?_⟩
  obtain ⟨d, e1, e2⟩ := enumD_get e
  subst e2
  obtain ⟨T, w, o, rfl, nT, d1, c1, rfl, f⟩ := y
  obtain ⟨w', e3, e4⟩ := r'.get e1
  have := f vs q
  rw [e3] at this
  cases this
  exact ⟨same_new nT, rd_newT tr (.cons (.int _) (.cons e4 .nil)) nT d1 c1⟩
def asTE : List PyData → Option (List PyData)
  | [.tuple ds] => some (enumD ds)
  | _ => none
def sIEnT (sr : SN) : SN := fun S => (sr S).bind fun ds S1 => R.opt (asTE ds) S1
theorem i_enumT {p tpos : Pos} {elts : List Expr} {kk : Nat} (hg : Gl X "enumerate") (hm : X.mg "enumerate" = none) (ha : PA X [e] (xA X.K X.mg W C sr)) (hs : starEach [e] X.env = [(false, eval e X.env)] := by rfl) :
    PI X (.Tuple elts kk tpos) (.Call (.Name "enumerate" p) [e] [] pos) (xI X.K X.mg W C (sIEnT sr)) := pi_imp (pi_enumT hg hm ha hs) fun σ H Q ⟨ow, S, r, q⟩ =>
  seq early_I r q fun S1 ds vs H1 r1 x1 rd k => by
    match ds, rd, k with
    | [.tuple es], .cons (.tup h1 h2) .nil, k => exact ⟨_, _, rfl, h1.sq, pst_ok r1 k (itd_enumT h1 h2)⟩
end
end Ds
end
section
set_option Elab.async false
set_option linter.all false
set_option maxRecDepth 100000
set_option maxHeartbeats 4000000
namespace Ds
open PySem PySem.Spec PyProof.Rows L2
section
variable {X : Cx} {K : PySem.W.Frag} {W : WX} {C : Cn} {a b c e tg : Expr} {pos : Pos} {sa sb sc se : SE}
def gRev : PyData → Option PyData
  | .tuple ds => some (.tuple ds.reverse)
  | _ => none
def sRev (sa : SE) : SE := fun S => (sa S).bind fun d S1 => R.opt (gRev d) S1
end
end Ds
end
section
set_option Elab.async false
set_option linter.all false
set_option maxRecDepth 100000
set_option maxHeartbeats 4000000
namespace Ds
open PySem PySem.Spec PyProof.Rows L2
/-- the run of the law over an abstract heap that holds the script, or nothing -/
theorem law_core {P : Program} {w : World} {K : PySem.W.Frag} {mg mb : Str → Option Value} {k : Nat} {fa a : Addr} {fd : FuncData} {x : Str} {sp : Sp} {s₁ : Shared} {vs : List Value}
    (KX : K.In s₁.heap) (hns : s₁.heap.Ns mainGlobals mg) (hb : s₁.heap.Ns builtinsNs mb) (hbb : ∀ x : Str, x ≠ "__name__" → mb x = bootBuiltins x) (hlim : s₁.heap.NoLimit) (hg : s₁.gens = #[])
    (ha : s₁.heap.get? a = some { cls := .type "list", data := .seq vs.toArray }) (hr : Room k callerA)
    (F : ∀ base : Heap, K.In base → base.Ns mainGlobals mg → FnG P w K mg base k fa fd [x] sp) (hbind : ∀ (s : Shared) (u : Value), BindsTo s fd ⟨[u], []⟩ [(x, u)])
    (H : Hp) (hO : Only H) (hok : HOk P w H s₁.heap) (hA : ∀ b, H b ≠ none → b = a) (hK : H a ≠ none → K.lookup a = none)
    (hsp : sp [.ref a] H (fun v _ => v = .bl true) fun _ _ _ => False) :
    codeAny (model P w) callerA (.call (.ref fa) ⟨[.ref a], []⟩) (fun r s' => r = .ok (.ret (.bool true)) ∧ OldK s₁.heap s'.heap ∧ s'.os = s₁.os ∧ AllBare s'.gens) s₁ := by
  have nil_or : ∀ b, H b = none ∨ b = a := fun b => by
    cases q : H b with
    | none => exact .inl rfl
    | some u => exact .inr (hA b (by rw [q]; simp))
  have low : ∀ {b : Addr} {o : Obj}, s₁.heap.get? b = some o → H b = none → (hidT s₁.heap H).get? b = some o := fun e n => hidT_get e n
  have nsD : ∀ {b : Addr} {m : Str → Option Value}, s₁.heap.Ns b m → (hidT s₁.heap H).Ns b m := fun {b m} ⟨o, es, ep, e, d, r⟩ => by
    refine ⟨o, es, ep, low e ((nil_or b).elim id fun z => ?_), d, r⟩
    rw [z, ha] at e
    cases e
    cases (show Data.seq vs.toArray _ = Data.dict es ep from d)
  have kin : K.In (hidT s₁.heap H) := fun b o e => low (KX b o e) (by
    cases q : H b with
    | none => rfl
    | some u =>
      have z := hA b (by rw [q]; simp)
      rw [z] at e q
      rw [hK (by rw [q]; simp)] at e
      cases e)
  have md : Mod K mg (hidT s₁.heap H) := ⟨kin, nsD hns, ⟨mb, nsD hb, hbb⟩, let ⟨mc, h1, h2⟩ := hlim; ⟨mc, nsD h1, h2⟩⟩
  have e0 : Env0 P w K mg (hidT s₁.heap H) callerA [] s₁ H := ⟨rfl, md, fun b o e => of_hidT e, Nat.le_of_eq (hidT_size _ _), trivial, fun b hb => absurd (show b ∈ ([] : List Addr) from hb) (by simp), hok, .of_eq hg⟩
  refine codeAny_mono ((F _ kin (nsD hns)).run callerA [] s₁ H ⟨[.ref a], []⟩ [.ref a] [.ref a] _ _ rfl hr e0 (hbind s₁ (.ref a)) (.cons rfl .nil) hsp) fun r s' h => ?_
  match r, h with
  | .error e, h =>
    obtain ⟨_, _, _, _, _, _, _, _, _, _, _, _, z⟩ := h
    exact z.elim
  | .ok (.ret u), ⟨v, H', os, bare, un, hok', r', q⟩ =>
    have q' : v = .bl true := q
    subst q'
    cases (show u = Value.bool true from r')
    refine ⟨rfl, OldK.of_keep fun b o e => ?_, os, bare⟩
    cases q : H b with
    | none => exact un.keep b o e q (by intro z; exact absurd (show b ∈ ([] : List Addr) from z) (by simp)) (by simp)
    | some u =>
      rcases hO b with z | ⟨ob, xs, z⟩
      · rw [q] at z; cases z
      · obtain ⟨e1, _⟩ := hok b _ z
        obtain ⟨e2, _⟩ := hok' b _ (un.frzs b ob _ z)
        rw [e] at e1; cases e1
        exact e2
  | .ok .next, h => exact False.elim h
  | .ok .brk, h => exact False.elim h
  | .ok .cont, h => exact False.elim h
/-- the end of a law's row -/
theorem law_end {l : PySem.W.OpenLaw} {n k : Nat} {q : Program} {loose : List Str} {XP : (Str → Option Value) → Heap → Prop} {YP : World → Heap → Prop} {d : DefRec} {K : Params → PySem.W.Frag} {sp : World → Sp} {x : Str}
    (hn : l.most = some n) (hn2 : n ≤ sizeLine) (hdf : d.params.defaults = []) (hr : Room k callerA)
    (hY : ∀ (w : World) (h : Heap), YP w h → (K w.params).In h)
    (F : ∀ (w : World) (mg : Str → Option Value) (fa : Addr) (h : Heap), (K w.params).In h → h.Ns mainGlobals mg → mg d.name = some (.ref fa) →
      ∃ fd : FuncData, (∀ (s : Shared) (u : Value), BindsTo s fd ⟨[u], []⟩ [(x, u)]) ∧
        ∀ base : Heap, (K w.params).In base → base.Ns mainGlobals mg → FnG l.prog w (K w.params) mg base k fa fd [x] (sp w))
    (hsp : ∀ (w : World) (H : Hp) (a : Addr) (ns : List Int), ns.length ≤ n → Only H → SqL (K w.params) H a (ns.map V.int) → SK (K w.params) ⟨fun _ => False, w⟩ H a (ns.map V.int) → sp w [.ref a] H (fun v _ => v = .bl true) fun _ _ _ => False) :
    PySem.W.WalkO q loose XP YP l.row.toRowW d [] (fun f vs => PySem.call f vs) := by
  refine Att.attach_call hn hdf fun w s₀ s₁ mg mb fa o pm cd doc a vs ns G Y ho hd hcd hmg hobj hints hlen hg => ?_
  have KX := hY w _ Y
  obtain ⟨fd, hb, hF⟩ := F w mg fa _ KX G.T.g hmg
  have lenV := hints.length
  have rv := vals_ints hints
  have hl : ns.length ≤ sizeLine := Nat.le_trans hlen hn2
  cases hk : (K w.params).lookup a with
  | some o =>
    have e := KX a o hk
    rw [hobj] at e
    cases e
    have hS : SqL (K w.params) (fun _ => none) a (ns.map V.int) := .inr ⟨_, vs.toArray, _, hk, rfl, rfl, rfl, by rw [List.size_toArray, lenV]; exact hl, by simpa using rv⟩
    exact law_core KX G.T.g G.T.b G.T.builtins G.T.nolimit hg hobj hr hF hb (fun _ => none) (fun _ => .inl rfl) (fun b u z => by cases z) (fun b z => absurd rfl z) (fun z => absurd rfl z) (hsp w _ a ns hlen (fun _ => .inl rfl) hS (.inr hS))
  | none =>
    have at1 : (fun b => if b = a then some (HO.frz { cls := .type "list", data := .seq vs.toArray } (.lst (ns.map V.int))) else none : Hp) a = some (HO.frz { cls := .type "list", data := .seq vs.toArray } (.lst (ns.map V.int))) := if_pos rfl
    have on : Only (fun b => if b = a then some (HO.frz { cls := .type "list", data := .seq vs.toArray } (.lst (ns.map V.int))) else none : Hp) := fun b => by
      by_cases hb : b = a
      · exact .inr ⟨_, _, if_pos hb⟩
      · exact .inl (if_neg hb)
    refine law_core KX G.T.g G.T.b G.T.builtins G.T.nolimit hg hobj hr hF hb _ on (fun b u z => ?_) (fun b z => ?_) (fun _ => hk) (hsp w _ a ns hlen on (.inl (.inr ⟨_, at1⟩)) (.inl ⟨⟨_, at1⟩, id⟩))
    · by_cases hb : b = a
      · cases (if_pos hb).symm.trans z
        subst hb
        exact ⟨hobj, by rw [List.length_map]; exact hl, vs, _, rv, hobj⟩
      · cases (if_neg hb).symm.trans z
    · by_cases hb : b = a
      · exact hb
      · exact absurd (if_neg hb) z
end Ds
end
section
set_option Elab.async false
set_option linter.all false
set_option maxRecDepth 100000
set_option maxHeartbeats 4000000
namespace Ds
open PySem PySem.Spec PyProof.Rows L2
structure Fit (k w : Nat) (d : PyData) : Prop where
  sh : d.showable = true
  lv : d.leavesShort 40 = true
  dp : d.depth ≤ k
  wt : d.weight ≤ w
  nd : d.hasDict = false
theorem Fit.mono {k w k' w' : Nat} {d : PyData} (f : Fit k w d) (h1 : k ≤ k') (h2 : w ≤ w') : Fit k' w' d := ⟨f.sh, f.lv, Nat.le_trans f.dp h1, Nat.le_trans f.wt h2, f.nd⟩
theorem Fit.okR {k w : Nat} {d : PyData} (f : Fit k w d) (h1 : k ≤ 64 := by decide) (h2 : w ≤ 300000 := by decide) : okR d := by
  refine ⟨f.sh, Nat.le_trans f.dp h1, ?_, .inl f.nd⟩
  have h := PyData.shown_le 40 (by decide) d f.lv
  have h3 : (40 + 2) * d.weight ≤ 42 * 300000 := Nat.mul_le_mul (by omega) (Nat.le_trans f.wt h2)
  rw [sizeLine_eq]
  omega
theorem fit_int {i : Int} (h : i.natAbs < 10 ^ 30) : Fit 0 100 (.int i) := by
  have l : i.natAbs.log2 < 100 := by
    by_cases z : i.natAbs = 0
    · rw [z]; decide
    · exact (Nat.log2_lt z).mpr (Nat.lt_trans h (by decide))
  refine ⟨?_, ?_, Nat.le_refl _, ?_, rfl⟩
  · simp only [PyData.showable, decide_eq_true_eq]; omega
  · simp only [PyData.leavesShort, decide_eq_true_eq]
    have e := int_text_length_le10 (k := 30) (by decide) h
    show (Str.ofString (toString i)).length ≤ 40
    rw [PySem.ofString_length]; omega
  · simp only [PyData.weight]; split <;> omega
theorem fit_str {x : Str} {w : Nat} (h : ∀ c ∈ x.cps.toList, c < 16 ^ 8) (hw : x.cps.size ≤ w) : Fit 0 w (.str x) :=
  ⟨rfl, by simpa only [PyData.leavesShort, List.all_eq_true, decide_eq_true_eq] using h, Nat.le_refl _, hw, rfl⟩
theorem fit_all {k w : Nat} : ∀ {ds : List PyData}, (∀ d ∈ ds, Fit k w d) → PyData.showableAll ds = true ∧ PyData.leavesShortAll 40 ds = true ∧ PyData.depthAll ds ≤ k ∧ PyData.weightAll ds ≤ (w + 1) * ds.length ∧ PyData.hasDictAll ds = false
  | [], _ => ⟨rfl, rfl, Nat.zero_le _, Nat.zero_le _, rfl⟩
  | d :: ds, h => by
    have f := h d List.mem_cons_self
    obtain ⟨a, b, c, e, g⟩ := fit_all fun x hx => h x (List.mem_cons_of_mem _ hx)
    refine ⟨by simp only [PyData.showableAll, f.sh, a, Bool.and_self], by simp only [PyData.leavesShortAll, f.lv, b, Bool.and_self], ?_, ?_, by simp only [PyData.hasDictAll, f.nd, g, Bool.or_self]⟩
    · have := f.dp; simp only [PyData.depthAll]; omega
    · have := f.wt; simp only [PyData.weightAll, List.length_cons, Nat.mul_add]; omega
theorem fit_list {k w n : Nat} {ds : List PyData} (h : ∀ d ∈ ds, Fit k w d) (hn : ds.length ≤ n) : Fit (k + 1) ((w + 1) * n) (.list ds) := by
  obtain ⟨a, b, c, e, g⟩ := fit_all h
  have := Nat.mul_le_mul_left (w + 1) hn
  exact ⟨by simpa only [PyData.showable] using a, by simpa only [PyData.leavesShort] using b, by simp only [PyData.depth]; omega, by simp only [PyData.weight]; omega, by simpa only [PyData.hasDict] using g⟩
theorem fit_tup {k w n : Nat} {ds : List PyData} (h : ∀ d ∈ ds, Fit k w d) (hn : ds.length ≤ n) : Fit (k + 1) ((w + 1) * n) (.tuple ds) := by
  obtain ⟨a, b, c, e, g⟩ := fit_all h
  have := Nat.mul_le_mul_left (w + 1) hn
  exact ⟨by simpa only [PyData.showable] using a, by simpa only [PyData.leavesShort] using b, by simp only [PyData.depth]; omega, by simp only [PyData.weight]; omega, by simpa only [PyData.hasDict] using g⟩
theorem loop_inv {g : GT} {b : SS} : ∀ {ds : List PyData} {P : Nat → En → Prop} {S : En}, P 0 S → (∀ i d S, ds[i]? = some d → P i S → ∃ S1 S2, g d S = .nx S1 ∧ b S1 = .nx S2 ∧ P (i + 1) S2) → ∃ S', loopL g b ds S = .nx S' ∧ P ds.length S'
  | [], P, S, h0, _ => ⟨S, rfl, h0⟩
  | d :: ds, P, S, h0, st => by
    obtain ⟨S1, S2, e1, e2, h1⟩ := st 0 d S rfl h0
    obtain ⟨S', e, h⟩ := loop_inv (g := g) (b := b) (ds := ds) (P := fun i => P (i + 1)) h1 fun i d S z h => st (i + 1) d S (by simpa using z) h
    exact ⟨S', by rw [loopL, e1]; show (match b S1 with | .nx S2 => loopL g b ds S2 | .ct S2 => loopL g b ds S2 | .bk S2 => .nx S2 | r => r) = _; rw [e2]; exact e, h⟩
theorem lc_inv {g : GT} {t : STt} {e : SE} {vs : List Nat} : ∀ {ds : List PyData} {P : Nat → List PyData → En → Prop} {acc : List PyData} {S : En}, P 0 acc S →
    (∀ i d acc S, ds[i]? = some d → P i acc S → ∃ S2 b S3, g d S = .nx S2 ∧ t S2 = .ok b S3 ∧ (b = false → P (i + 1) acc (wipeS vs S3)) ∧ (b = true → ∃ y S4, e S3 = .ok y S4 ∧ P (i + 1) (acc ++ [y]) (wipeS vs S4))) →
    ∃ ys S', lcL g t e vs ds S = .ok ys S' ∧ P ds.length (acc ++ ys) S'
  | [], P, acc, S, h0, _ => ⟨[], S, rfl, by simpa using h0⟩
  | d :: ds, P, acc, S, h0, st => by
    obtain ⟨S2, b, S3, e1, e2, h1, h2⟩ := st 0 d acc S rfl h0
    have st' : ∀ i d acc S, ds[i]? = some d → P (i + 1) acc S → _ := fun i d acc S z h => st (i + 1) d acc S (by simpa using z) h
    rw [lcL, e1]
    show ∃ ys S', (t S2).bind _ = .ok ys S' ∧ _
    rw [e2]
    cases b with
    | false =>
      obtain ⟨ys, S', q, h⟩ := lc_inv (g := g) (t := t) (e := e) (vs := vs) (ds := ds) (P := fun i => P (i + 1)) (h1 rfl) st'
      exact ⟨ys, S', by simpa using q, h⟩
    | true =>
      obtain ⟨y, S4, e3, h3⟩ := h2 rfl
      obtain ⟨ys, S', q, h⟩ := lc_inv (g := g) (t := t) (e := e) (vs := vs) (ds := ds) (P := fun i => P (i + 1)) h3 st'
      exact ⟨y :: ys, S', by simp [e3, q], by simpa using h⟩
/-- a comprehension that leaves the rest alone -/
theorem lc_map {g : GT} {e : SE} {vs : List Nat} {f : Nat → PyData → PyData} {S : En} {ds : List PyData} (h : ∀ i d, ds[i]? = some d → ∃ S2 S4, g d S = .nx S2 ∧ e S2 = .ok (f i d) S4 ∧ wipeS vs S4 = S) :
    lcL g sYes e vs ds S = .ok (ds.mapIdx f) S := by
  obtain ⟨ys, S', q, h1, h2⟩ := lc_inv (g := g) (t := sYes) (e := e) (vs := vs) (ds := ds) (P := fun i acc S' => S' = S ∧ acc = (ds.take i).mapIdx f) (acc := []) (S := S) ⟨rfl, by simp⟩ fun i d acc S' z ⟨h1, h2⟩ => by
    subst h1 h2
    obtain ⟨S2, S4, e1, e2, e3⟩ := h i d z
    refine ⟨S2, true, S2, e1, rfl, (fun z => by cases z), fun _ => ⟨_, S4, e2, e3, ?_⟩⟩
    obtain ⟨hi, rfl⟩ := List.getElem?_eq_some_iff.mp z
    rw [List.take_succ_eq_append_getElem hi, List.mapIdx_append]
    simp [List.length_take, Nat.min_eq_left (Nat.le_of_lt hi)]
  rw [q, h1]
  simp at h2
  rw [h2]
end Ds
end
section
set_option Elab.async false
set_option linter.all false
set_option maxRecDepth 100000
set_option maxHeartbeats 4000000
namespace Ds
open PySem PySem.Spec PyProof.Rows L2
inductive Tag {α : Sort u} (a : α) : Type where
  | mk
/-- bind, whose second part no rule looks into before its time -/
def R.bnd {α β : Type} (x : R α) (f : α → En → R β) (_ : Tag f := .mk) : R β := x.bind f
def R.stt {α : Type} (x : R α) (f : α → En → RS) (_ : Tag f := .mk) : RS := x.st f
@[simp] theorem bnd_ok {α β : Type} {a : α} {S : En} {f : α → En → R β} {t : Tag f} : (R.ok a S).bnd f t = f a S := rfl
@[simp] theorem bnd_ex {α β : Type} {c : Ec} {S : En} {f : α → En → R β} {t : Tag f} : (R.ex c S : R α).bnd f t = .ex c S := rfl
@[simp] theorem bnd_no {α β : Type} {f : α → En → R β} {t : Tag f} : (R.no : R α).bnd f t = .no := rfl
@[simp] theorem stt_ok {α : Type} {a : α} {S : En} {f : α → En → RS} {t : Tag f} : (R.ok a S).stt f t = f a S := rfl
@[simp] theorem stt_ex {α : Type} {c : Ec} {S : En} {f : α → En → RS} {t : Tag f} : (R.ex c S : R α).stt f t = .ex c S := rfl
@[simp] theorem stt_no {α : Type} {f : α → En → RS} {t : Tag f} : (R.no : R α).stt f t = .no := rfl
def RS.sq (r : RS) (t : SS) : RS := match r with
  | .nx S' => t S'
  | r => r
@[simp] theorem sq_nx {S : En} {t : SS} : (RS.nx S).sq t = t S := rfl
@[simp] theorem sq_rt {S : En} {x : Sl} {t : SS} : (RS.rt x S).sq t = .rt x S := rfl
@[simp] theorem sq_no {t : SS} : RS.no.sq t = .no := rfl
@[simp] theorem sq_bk {S : En} {t : SS} : (RS.bk S).sq t = .bk S := rfl
@[simp] theorem sq_ct {S : En} {t : SS} : (RS.ct S).sq t = .ct S := rfl
@[simp] theorem sq_ex {S : En} {c : Ec} {t : SS} : (RS.ex c S).sq t = .ex c S := rfl
@[simp] theorem r_sSeq {s t : SS} {S : En} : sSeq s t S = (s S).sq t := by unfold sSeq RS.sq; cases s S <;> rfl
def RS.fin (r : RS) : R Sl := match r with
  | .rt r S => .ok r S
  | .nx S => .ok (.val .none) S
  | .ex c S => .ex c S
  | _ => .no
@[simp] theorem fin_rt {S : En} {x : Sl} : (RS.rt x S).fin = .ok x S := rfl
@[simp] theorem fin_nx {S : En} : (RS.nx S).fin = .ok (.val .none) S := rfl
@[simp] theorem fin_ex {S : En} {c : Ec} : (RS.ex c S).fin = .ex c S := rfl
@[simp] theorem fin_no : RS.no.fin = .no := rfl
@[simp] theorem r_mB {N : Nat} {s : SS} {S : En} : mB N s S = (s (S ++ List.replicate (N - S.length) .nil)).fin := rfl
@[simp] theorem val?_v {d : PyData} : val? (some (.val d)) = some d := rfl
@[simp] theorem lst?_o {d : List PyData} : lst? (some (.own d)) = some d := rfl
@[simp] theorem lst?_i {d : List PyData} : lst? (some (.io d)) = some d := rfl
@[simp] theorem lst?_v {d : List PyData} : lst? (some (.val (.list d))) = some d := rfl
@[simp] theorem own?_o {d : List PyData} : own? (some (.own d)) = some d := rfl
@[simp] theorem own?_i {d : List PyData} : own? (some (.io d)) = some d := rfl
@[simp] theorem own?_v {d : PyData} : own? (some (.val d)) = none := rfl
@[simp] theorem own?_n : own? (some .nil) = none := rfl
@[simp] theorem own1?_o {d : List PyData} : own1? (some (.own d)) = some d := rfl
@[simp] theorem noio_v {d : PyData} : noio (some (.val d)) = true := rfl
@[simp] theorem noio_o {d : List PyData} : noio (some (.own d)) = true := rfl
@[simp] theorem noio_n : noio (some .nil) = true := rfl
@[simp] theorem nn_v {d : PyData} : nn (some (.val d)) = true := rfl
@[simp] theorem nn_n : nn (some .nil) = true := rfl
@[simp] theorem nn_o {d : List PyData} : nn (some (.own d)) = true := rfl
@[simp] theorem nn_i {d : List PyData} : nn (some (.io d)) = true := rfl
@[simp] theorem bare_v {d : PyData} : bare (some (.val d)) = true := rfl
@[simp] theorem bare_n : bare (some .nil) = true := rfl
@[simp] theorem r_put {i : Nat} {x : Sl} {S : En} : put i x S = if noio S[i]? = true then .nx (S.set i x) else .no := rfl
@[simp] theorem r_asB {b : Bool} : asB (.bool b) = some b := rfl
@[simp] theorem r_asV {d : PyData} : asV (.val d) = some d := rfl
@[simp] theorem r_asN {d : List PyData} : asN (.own d) = some d := rfl
@[simp] theorem r_asL {d : List PyData} : asL (.list d) = some d := rfl
@[simp] theorem r_asT {d : List PyData} : asT (.tuple d) = some d := rfl
@[simp] theorem r_asTE {d : List PyData} : asTE [.tuple d] = some (enumD d) := rfl
@[simp] theorem r_seqOf1 {d : List PyData} : seqOf [.tuple d] = some d := rfl
@[simp] theorem r_seqOf2 {d : List PyData} : seqOf [.list d] = some d := rfl
@[simp] theorem r_ty0 : tyN .none = "NoneType" := rfl
@[simp] theorem r_ty1 {b : Bool} : tyN (.bool b) = "bool" := rfl
@[simp] theorem r_ty2 {b : Int} : tyN (.int b) = "int" := rfl
@[simp] theorem r_ty3 {b : Str} : tyN (.str b) = "str" := rfl
@[simp] theorem r_ty4 {b : List PyData} : tyN (.list b) = "list" := rfl
@[simp] theorem r_ty5 {b : List PyData} : tyN (.tuple b) = "tuple" := rfl
@[simp] theorem r_ty6 {b : List (PyData × PyData)} : tyN (.dict b) = "dict" := rfl
@[simp] theorem r_gNm {i : Nat} {d : PyData} {S : En} : gNm i d S = if bare S[i]? = true then .nx (S.set i (.val d)) else .no := rfl
@[simp] theorem noEx_no {α : Type} : noEx (.no : R α) = .no := rfl
@[simp] theorem r_toSls0 {S : En} : toSls S [] = some [] := rfl
def tcons (x : Option Sl) (r : Option En) : Option En := match x, r with
  | some x, some r => some (x :: r)
  | _, _ => none
@[simp] theorem tcons_s {x : Sl} {r : En} : tcons (some x) (some r) = some (x :: r) := rfl
@[simp] theorem r_toSls {S : En} {g : Ag} {gs : List Ag} : toSls S (g :: gs) = tcons (toSl S g) (toSls S gs) := rfl
@[simp] theorem r_toSl1 {S : En} {d : PyData} : toSl S (.v d) = some (.val d) := rfl
@[simp] theorem r_toSl2 {S : En} {i : Nat} : toSl S (.r i) = (own? S[i]?).map .io := rfl
@[simp] theorem r_refs0 : refs [] = [] := rfl
@[simp] theorem r_refs1 {d : PyData} {gs : List Ag} : refs (.v d :: gs) = refs gs := rfl
@[simp] theorem r_refs2 {i : Nat} {gs : List Ag} : refs (.r i :: gs) = i :: refs gs := rfl
@[simp] theorem r_argS {S : En} {gs : List Ag} : argS S gs = if (refs gs).Nodup then toSls S gs else none := rfl
@[simp] theorem r_back0 {T S : En} : back [] T S = S := rfl
@[simp] theorem r_back1 {d : PyData} {x : Sl} {gs : List Ag} {T S : En} : back (.v d :: gs) (x :: T) S = back gs T S := by cases x <;> rfl
@[simp] theorem r_back2 {i : Nat} {es : List PyData} {gs : List Ag} {T S : En} : back (.r i :: gs) (.io es :: T) S = back gs T (upL i es S) := rfl
theorem back_pure : ∀ {gs : List Ag} {T S : En}, refs gs = [] → back gs T S = S
  | [], T, S, _ => rfl
  | .v d :: gs, [], S, _ => rfl
  | .v d :: gs, x :: T, S, h => by rw [r_back1]; exact back_pure (by simpa using h)
  | .r i :: gs, T, S, h => by simp at h
@[simp] theorem back_v1 {a : PyData} {T S : En} : back [.v a] T S = S := back_pure rfl
@[simp] theorem back_v2 {a b : PyData} {T S : En} : back [.v a, .v b] T S = S := back_pure rfl
@[simp] theorem back_v3 {a b c : PyData} {T S : En} : back [.v a, .v b, .v c] T S = S := back_pure rfl
@[simp] theorem back_v4 {a b c d : PyData} {T S : En} : back [.v a, .v b, .v c, .v d] T S = S := back_pure rfl
@[simp] theorem back_v5 {a b c d e : PyData} {T S : En} : back [.v a, .v b, .v c, .v d, .v e] T S = S := back_pure rfl
def bkK (gs : List Ag) (S1 : En) (r : R Sl) : R Sl := match r with
  | .ok d T => .ok d (back gs T S1)
  | .ex c T => .ex c (back gs T S1)
  | .no => .no
@[simp] theorem bkK_ok {gs : List Ag} {S1 T : En} {d : Sl} : bkK gs S1 (.ok d T) = .ok d (back gs T S1) := rfl
@[simp] theorem bkK_ex {gs : List Ag} {S1 T : En} {c : Ec} : bkK gs S1 (.ex c T) = .ex c (back gs T S1) := rfl
def callG (m : Mf) (gs : List Ag) (S1 : En) (o : Option En) : R Sl := match o with
  | none => .no
  | some S0 => bkK gs S1 (m S0)
@[simp] theorem callG_some {m : Mf} {gs : List Ag} {S1 S0 : En} : callG m gs S1 (some S0) = bkK gs S1 (m S0) := rfl
@[simp] theorem callG_none {m : Mf} {gs : List Ag} {S1 : En} : callG m gs S1 none = .no := rfl
@[simp] theorem r_sCall {m : Mf} {sg : SG} {S : En} : sCall m sg S = (sg S).bnd fun gs S1 => callG m gs S1 (argS S1 gs) := by
  unfold sCall
  cases sg S with
  | no => rfl
  | ex c S => rfl
  | ok gs S1 =>
    show (match argS S1 gs with | none => R.no | some S0 => match m S0 with | .ok d T => R.ok d (back gs T S1) | .ex c T => R.ex c (back gs T S1) | .no => R.no) = callG m gs S1 (argS S1 gs)
    unfold callG bkK
    cases argS S1 gs <;> rfl
def upS (es : List PyData) (o : Option Sl) (i : Nat) (S : En) : En := match o with
  | some (.own _) => S.set i (.own es)
  | some (.io _) => S.set i (.io es)
  | _ => S
@[simp] theorem upS_o {es d : List PyData} {i : Nat} {S : En} : upS es (some (.own d)) i S = S.set i (.own es) := rfl
@[simp] theorem upS_i {es d : List PyData} {i : Nat} {S : En} : upS es (some (.io d)) i S = S.set i (.io es) := rfl
@[simp] theorem r_upL {i : Nat} {es : List PyData} {S : En} : upL i es S = upS es S[i]? i S := rfl
@[simp] theorem r_gN0 {S : En} : gN0 [] S = .nx S := rfl
@[simp] theorem r_loop0 {g : GT} {b : SS} {S : En} : loopL g b [] S = .nx S := rfl
@[simp] theorem r_sVar {i : Nat} {S : En} : sVar i S = (R.opt (val? S[i]?) S) := rfl
@[simp] theorem r_sLVar {i : Nat} {S : En} : sLVar i S = (R.opt (lst? S[i]?) S) := rfl
@[simp] theorem r_sK {d : PyData} {S : En} : sK d S = (.ok d S) := rfl
@[simp] theorem r_sEL {s : SE} {S : En} : sEL s S = ((s S).bnd fun d S' => R.opt (asL d) S') := rfl
@[simp] theorem r_sNE {s : SN} {S : En} : sNE s S = ((s S).bnd fun ds S' => .ok (.list ds) S') := rfl
@[simp] theorem r_sBin {g : PyData → PyData → Option PyData} {sa sb : SE} {S : En} : sBin g sa sb S = ((sa S).bnd fun d S1 => (sb S1).bnd fun e S2 => R.opt (g d e) S2) := rfl
@[simp] theorem r_sTst {s : SE} {S : En} : sTst s S = ((s S).bnd fun d S' => R.opt (asB d) S') := rfl
@[simp] theorem r_sOr {ta tb : STt} {S : En} : sOr ta tb S = ((ta S).bnd fun c S1 => if c = true then .ok true S1 else tb S1) := rfl
@[simp] theorem r_sNot {ta : STt} {S : En} : sNot ta S = ((ta S).bnd fun c S1 => .ok (!c) S1) := rfl
@[simp] theorem r_sIfE {t : STt} {sa sb : SE} {S : En} : sIfE t sa sb S = ((t S).bnd fun c S1 => if c = true then sa S1 else sb S1) := rfl
@[simp] theorem r_sNil {S : En} : sNil  S = (.ok [] S) := rfl
@[simp] theorem r_sCons {s : SE} {sr : SN} {S : En} : sCons s sr S = ((s S).bnd fun d S1 => (sr S1).bnd fun ds S2 => .ok (d :: ds) S2) := rfl
@[simp] theorem r_sTup {s : SN} {S : En} : sTup s S = ((s S).bnd fun ds S1 => if ds.length ≤ sizeLine then .ok (.tuple ds) S1 else .no) := rfl
@[simp] theorem r_sLst {s : SN} {S : En} : sLst s S = ((s S).bnd fun ds S1 => if ds.length ≤ sizeLine then .ok ds S1 else .no) := rfl
@[simp] theorem r_sCallB {g : List PyData → Option PyData} {s : SN} {S : En} : sCallB g s S = ((s S).bnd fun ds S1 => R.opt (g ds) S1) := rfl
@[simp] theorem r_sNx {S : En} : sNx  S = (.nx S) := rfl
@[simp] theorem r_sDrop {se : SE} {S : En} : sDrop se S = ((se S).stt fun _ S' => .nx S') := rfl
@[simp] theorem r_sRet {se : SE} {S : En} : sRet se S = ((se S).stt fun d S' => .rt (.val d) S') := rfl
@[simp] theorem r_sRetN {S : En} : sRetN  S = (.rt (.val .none) S) := rfl
@[simp] theorem r_sRetNew {sn : SN} {S : En} : sRetNew sn S = ((sn S).stt fun ds S' => .rt (.own ds) S') := rfl
@[simp] theorem r_sRetOwn {i : Nat} {S : En} : sRetOwn i S = (match own1? S[i]? with
  | some ds => .rt (.own ds) S
  | none => .no) := rfl
@[simp] theorem r_sIf {sb : STt} {s t : SS} {S : En} : sIf sb s t S = ((sb S).stt fun b S' => if b = true then s S' else t S') := rfl
@[simp] theorem r_sSet {i : Nat} {se : SE} {S : En} : sSet i se S = ((se S).stt fun d S' => put i (.val d) S') := rfl
@[simp] theorem r_sSetNew {i : Nat} {sn : SN} {S : En} : sSetNew i sn S = ((sn S).stt fun ds S' => put i (.own ds) S') := rfl
@[simp] theorem r_sApp {i : Nat} {se : SE} {S : En} : sApp i se S = ((se S).bnd fun d S1 => match own? S1[i]? with
  | some ds => if ds.length < sizeLine then .ok .none (upL i (ds ++ [d]) S1) else .no
  | none => .no) := rfl
@[simp] theorem r_sAppend {i : Nat} {se : SE} {S : En} : sAppend i se S = (if (own? S[i]?).isSome = true then sApp i se S else .no) := rfl
@[simp] theorem r_sClear {i : Nat} {S : En} : sClear i S = (match own? S[i]? with
  | some _ => .ok .none (upL i [] S)
  | none => .no) := rfl
@[simp] theorem r_sG0 {S : En} : sG0  S = (.ok [] S) := rfl
@[simp] theorem r_sGv {se : SE} {sg : SG} {S : En} : sGv se sg S = ((se S).bnd fun d S1 => (sg S1).bnd fun gs S2 => .ok (.v d :: gs) S2) := rfl
@[simp] theorem r_sGr {i : Nat} {sg : SG} {S : En} : sGr i sg S = (if (own? S[i]?).isSome = true then (sg S).bnd fun gs S2 => .ok (.r i :: gs) S2 else .no) := rfl
@[simp] theorem r_sCallV {m : Mf} {sg : SG} {S : En} : sCallV m sg S = ((sCall m sg S).bnd fun x S1 => R.opt (asV x) S1) := rfl
@[simp] theorem r_sCallN {m : Mf} {sg : SG} {S : En} : sCallN m sg S = ((sCall m sg S).bnd fun x S1 => R.opt (asN x) S1) := rfl
@[simp] theorem r_sIL {se : SE} {S : En} : sIL se S = ((se S).bnd fun d S1 => R.opt (asL d) S1) := rfl
@[simp] theorem r_sIT {se : SE} {S : En} : sIT se S = ((se S).bnd fun d S1 => R.opt (asT d) S1) := rfl
@[simp] theorem r_sRng1 {sr : SN} {S : En} : sRng1 sr S = ((sr S).bnd fun ds S1 => R.opt (rng1 ds) S1) := rfl
@[simp] theorem r_sRng2 {sr : SN} {S : En} : sRng2 sr S = ((sr S).bnd fun ds S1 => R.opt (rng2 ds) S1) := rfl
@[simp] theorem r_sFor {it : SN} {g : GT} {b : SS} {S : En} : sFor it g b S = ((it S).stt fun ds S1 => loopL g b ds S1) := rfl
@[simp] theorem r_sLc {it : SN} {g : GT} {t : STt} {e : SE} {vs : List Nat} {S : En} : sLc it g t e vs S = ((it S).bnd fun ds S1 =>
  if (vs.all fun v => (own? S1[v]?).isNone && nn S1[v]?) = true ∧ ds.length < sizeLine then (noEx (lcL g t e vs ds (wipeS vs S1))).bnd fun ys S2 => .ok ys (unwipe vs S1 S2) else .no) := rfl
@[simp] theorem r_sYes {S : En} : sYes  S = (.ok true S) := rfl
@[simp] theorem r_sSetIx {i : Nat} {sk se : SE} {S : En} : sSetIx i sk se S = ((se S).stt fun d S1 => if (own? S1[i]?).isSome = true then (sk S1).stt fun k S2 => match own? S2[i]? with
  | some ds => match setI ds k d with
    | some es => .nx (upL i es S2)
    | none => .no
  | none => .no
  else .no) := rfl
@[simp] theorem r_sPar {i j : Nat} {s1 s2 : SN} {S : En} : sPar i j s1 s2 S = ((s1 S).stt fun ds S1 => (noEx (s2 S1)).stt fun es S2 => match put i (.own ds) S2 with
  | .nx S3 => put j (.own es) S3
  | _ => .no) := rfl
@[simp] theorem r_sIxL {sl : SN} {sb : SE} {S : En} : sIxL sl sb S = ((sl S).bnd fun ds S1 => (sb S).bnd fun k _ => R.opt (gIx (.list ds) k) S1) := rfl
@[simp] theorem r_sIxV {i : Nat} {sb : SE} {S : En} : sIxV i sb S = (if (lst? S[i]?).isSome = true then (sb S).bnd fun k S1 => match lst? S1[i]? with
  | some ds => R.opt (gIx (.list ds) k) S1
  | none => .no
  else .no) := rfl
@[simp] theorem r_sNeg {sa : SE} {S : En} : sNeg sa S = ((sa S).bnd fun d S1 => match d with
  | .int i => .ok (.int (-i)) S1
  | _ => .no) := rfl
@[simp] theorem r_sRd {g : List PyData → Option PyData} {sl : SN} {S : En} : sRd g sl S = ((sl S).bnd fun ds S1 => R.opt (g ds) S1) := rfl
@[simp] theorem r_sListN {sr : SN} {S : En} : sListN sr S = ((sr S).bnd fun ds S1 => R.opt (seqOf ds) S1) := rfl
@[simp] theorem r_sIsi {T : String} {sa : SE} {S : En} : sIsi T sa S = ((sa S).bnd fun d S1 => R.opt ((kitB (tyN d) T).map .bool) S1) := rfl
@[simp] theorem r_sCh {g g' : PyData → PyData → Option PyData} {sa sb sc : SE} {S : En} : sCh g g' sa sb sc S = ((sa S).bnd fun x S1 => (sb S1).bnd fun y S2 => match g x y with
  | some (.bool true) => (sc S2).bnd fun z S3 => R.opt (g' y z) S3
  | some (.bool false) => .ok (.bool false) S2
  | _ => .no) := rfl
@[simp] theorem r_sP0 {S : En} : sP0  S = (.ok none S) := rfl
@[simp] theorem r_sP1 {se : SE} {S : En} : sP1 se S = ((se S).bnd fun d S1 => match d with
  | .int i => .ok (some i) S1
  | _ => .no) := rfl
@[simp] theorem r_sCut {sa : SE} {l u : SP} {S : En} : sCut sa l u S = ((sa S).bnd fun d S1 => (l S1).bnd fun lo S2 => (u S2).bnd fun hi S3 => R.opt (gCut d lo hi) S3) := rfl
@[simp] theorem r_sJoin {sa : SE} {sl : SN} {S : En} : sJoin sa sl S = ((sa S).bnd fun d S1 => match d with
  | .str s => (sl S1).bnd fun ds S2 => R.opt (gJoin (.str s) ds) S2
  | _ => .no) := rfl
@[simp] theorem r_sTupRg {sa : SE} {S : En} : sTupRg sa S = ((sa S).bnd fun d S1 => match d with
  | .int n => if 0 ≤ n ∧ n ≤ 16777216 then .ok (.tuple (rng 0 n)) S1 else .no
  | _ => .no) := rfl
@[simp] theorem r_sRepr {sa : SE} {S : En} : sRepr sa S = ((sa S).bnd fun d S1 => if okR d then .ok (.str d.shown) S1 else .no) := rfl
@[simp] theorem r_sIS {se : SE} {S : En} : sIS se S = ((se S).bnd fun d S1 => R.opt (asS d) S1) := rfl
@[simp] theorem r_sIEnT {sr : SN} {S : En} : sIEnT sr S = ((sr S).bnd fun ds S1 => R.opt (asTE ds) S1) := rfl
@[simp] theorem r_sRev {sa : SE} {S : En} : sRev sa S = ((sa S).bnd fun d S1 => R.opt (gRev d) S1) := rfl
end Ds
end
section
set_option Elab.async false
set_option linter.all false
set_option maxRecDepth 100000
set_option maxHeartbeats 4000000
namespace Ds
open PySem PySem.Spec PyProof.Rows L2
/-- how many different ones -/
def dct : List Str → Nat
  | [] => 0
  | x :: xs => dct xs + (if x ∈ xs then 0 else 1)
theorem dct_le : ∀ xs : List Str, dct xs ≤ xs.length
  | [] => Nat.le_refl _
  | x :: xs => by
    have := dct_le xs
    unfold dct
    rw [List.length_cons]
    split <;> omega
/-- the texts behind the first i, the last first -/
def pre (xs : List Str) (i : Nat) : List Str := (xs.take i).reverse
theorem pre_succ {xs : List Str} {i : Nat} (h : i < xs.length) : pre xs (i + 1) = xs.getD i Str.empty :: pre xs i := by
  unfold pre
  rw [List.take_succ_eq_append_getElem h, List.reverse_append]
  simp [List.getD, List.getElem?_eq_getElem h]
section
variable {q : Program} {w : World} {B : Around} {Rr : Result → Shared → Prop} {it : Addr} {fp wr : List Addr} {Gs : Array GenState → Array GenState → Prop} {m : Nat} {Pv : Nat → Value → Prop} {Sv : Nat → Shared → Prop}
theorem set_loop (Wk : WalksS q w B.in1 it fp wr Gs m Pv Sv) (D : Addr) (hD : D ∉ fp) (xs : List Str) (hm : xs.length = m) (hb : m < 2000) (hv : ∀ j u, Pv j u → ∃ t, u = .str (xs.getD j Str.empty) t) :
    ∀ (k j : Nat) (t : Shared), k + j = m → Sv j t → t.heap.SetOf (strKind q w) D (fun z => decide (z ∈ pre xs j)) (dct (pre xs j)) →
      (∀ t', Moved (D :: wr) Gs t t' → t'.heap.SetOf (strKind q w) D (fun z => decide (z ∈ pre xs m)) (dct (pre xs m)) → Rr (.ok (.ret .none)) t') →
      codeAny (model q w) B (.builtin "set.update.loop" ⟨[.ref D, .ref it], []⟩) Rr t := by
  have nD : D ∉ wr := fun z => hD (Wk.sub _ z)
  have sub : ∀ b ∈ wr, b ∈ D :: wr := fun b z => List.mem_cons_of_mem _ z
  have keep : ∀ {t t' : Shared} {S : Str → Bool} {n : Nat}, Moved wr Gs t t' → t.heap.SetOf (strKind q w) D S n → t'.heap.SetOf (strKind q w) D S n := fun mv hS => by
    obtain ⟨o, es, ep, tb, ho, more⟩ := hS
    exact ⟨o, es, ep, tb, mv.heap D _ nD ho, more⟩
  intro k
  induction k with
  | zero =>
    intro j t e st hS fin
    obtain rfl : j = m := by omega
    refine codeAny_builtin PyProof.Rows.F.entry_set_update_loop ?_
    rw [Around.under_plainId PyProof.Rows.F.plain_set_update_loop _]
    change wpAny _ B.in1 (pyNext (.ref it) >>= _) _ _ t
    refine wpAny_bind (Wk.done t _ _ st fun t' mv => ?_)
    change wpAny _ B.in1 (ret Value.none) _ _ t'
    exact wpAny_pure (fin t' (mv.mono sub) (keep mv hS))
  | succ k ih =>
    intro j t e st hS fin
    have lt : j < m := by omega
    refine codeAny_builtin PyProof.Rows.F.entry_set_update_loop ?_
    rw [Around.under_plainId PyProof.Rows.F.plain_set_update_loop _]
    change wpAny _ B.in1 (pyNext (.ref it) >>= _) _ _ t
    refine wpAny_bind (Wk.item j t _ _ lt st fun u t' hu st' mv => ?_)
    obtain ⟨tk, rfl⟩ := hv j u hu
    have hS1 := keep mv hS
    change wpAny _ B.in1 (holding [Value.str (xs.getD j Str.empty) tk] (setAdd D (.str (xs.getD j Str.empty) tk)) >>= _) _ _ t'
    refine wpAny_bind (wpAny_holding ?_)
    unfold setAdd
    refine wpAny_holding (wpAny_bind ((strKind q w).pyHash (k := xs.getD j Str.empty) (strKind_is _ _ _ _) ?_))
    have le := dct_le (pre xs j)
    have le2 : (pre xs j).length ≤ j := by unfold pre; simp; omega
    refine wpAny_setAddHashed_of (knd := strKind q w) (s := { t' with toks := t'.toks + 1 }) (strKind_is _ _ _ _) rfl hS1 (by unfold scanBound; omega) fun h2 sb hS2 => ?_
    have hS3 : h2.SetOf (strKind q w) D (fun z => decide (z ∈ pre xs (j + 1))) (dct (pre xs (j + 1))) := by
      rw [pre_succ (by omega)]
      refine SetOf_congr hS2 (fun z => ?_) ?_
      · simp only [List.mem_cons, Bool.decide_or]
        exact Bool.or_comm _ _
      · show _ = dct (pre xs j) + (if xs.getD j Str.empty ∈ pre xs j then 0 else 1)
        by_cases c : xs.getD j Str.empty ∈ pre xs j
        · rw [if_pos c, if_pos (decide_eq_true c)]; rfl
        · rw [if_neg c, if_neg (by simpa using c)]
    refine wpAny_pure ⟨plainId_quiet PyProof.Rows.F.plain_set_update_loop _, ih (j + 1) _ (by omega) (Wk.frame _ t' _ _ st' (Nat.le_succ _) fun b z o y => ?_) hS3 fun t2 mv2 hS4 => ?_⟩
    · have ne : b ≠ D := fun z2 => hD (z2 ▸ z)
      rw [sb.2 b ne]; exact y
    · refine fin t2 (Moved.trans Wk.gtrans ((mv.mono sub).then_heap (Nat.le_succ _) fun b o z y => ?_) mv2) hS4
      have ne : b ≠ D := fun z2 => z (by rw [z2]; exact List.mem_cons_self)
      rw [sb.2 b ne]; exact y
end
section
variable {q : Program} {w : World} {B : Around} {Ex : Value → Shared → Prop} {t : Shared}
theorem set_of_tuple {l : Addr} {us : Array Value} {xs : List Str} {Q : Value → Shared → Prop} (hh : B.handled = none) (hl : t.heap.IsTuple l us) (hs : StrsAre us.toList xs) (hb : xs.length < 2000)
    (k : ∀ (h2 : Heap) (tk : Nat), h2.SetOf (strKind q w) t.heap.objs.size (fun z => decide (z ∈ pre xs us.size)) (dct (pre xs us.size)) → (∀ b o, b < t.heap.objs.size → t.heap.get? b = some o → h2.get? b = some o) → Q (.ref t.heap.objs.size) { t with heap := h2, toks := tk }) :
    wpAny (model q w) B (call (.type "set") [.ref l]) Q Ex t := by
  obtain ⟨c, tl, mro⟩ := PySem.F.called_set.mro
  have made := PySem.F.called_set.made
  have ssub := PySem.F.called_set.sub
  refine wpAny_call (codeAny_of_tree ?_)
  change wpAny _ _ (callAny (.type "set") _) _ _ _
  refine wpAny_pure ⟨Code.quiet_builtin _ (by decide +kernel), codeAny_builtin PySem.F.entry_type_call ?_⟩
  rw [Around.under_plain (weight_type_call_type "set" [.ref l] []) rfl]
  have n1 := PySem.F.called_set.notType
  have n2 := PySem.F.called_set.canCreate
  have n3 := PySem.F.typeCall_set_1 (.ref l)
  repeat (any_goals (first | assumption | wp_step))
  refine codeAny_mono (code_set_new_1 (.ref l) (E := Ex) (Q₁ := fun ob t1 => ∃ ld : Bool, ob = .ref t.heap.objs.size ∧ t1 = { t with heap := t.heap.push { cls := .type "set", dict := none, data := .set #[] 0 (.fresh 0 0 ld) } }) fun ld => ⟨ld, rfl, rfl⟩) fun rr t1 hr => ?_
  match rr, hr with
  | .error e, hr => exact hr
  | .ok (.ret ob), hr =>
    obtain ⟨ld, rfl, rfl⟩ := hr
    have gS : (t.heap.push { cls := .type "set", dict := none, data := .set #[] 0 (.fresh 0 0 ld) }).get? t.heap.objs.size = some { cls := .type "set", dict := none, data := .set #[] 0 (.fresh 0 0 ld) } := Heap.get?_push_size _ rfl
    have tS : Shared.TypeIs { t with heap := t.heap.push { cls := .type "set", dict := none, data := .set #[] 0 (.fresh 0 0 ld) } } (.ref t.heap.objs.size) "set" := ⟨_, gS, rfl⟩
    have m1 := PySem.F.called_set.init.lookup
    have m2 := PySem.F.called_set.init.bind (.ref t.heap.objs.size)
    repeat (any_goals (first | assumption | wp_step))
    refine codeAny_mono (codeAny_call_builtin (R := wants (fun v t2 => v = .none ∧ ∃ h2 tk, t2 = { t with heap := h2, toks := tk } ∧ h2.SetOf (strKind q w) t.heap.objs.size (fun z => decide (z ∈ pre xs us.size)) (dct (pre xs us.size)) ∧ (∀ b o, b < t.heap.objs.size → t.heap.get? b = some o → h2.get? b = some o)) Ex) PySem.F.called_set.init.plain PySem.F.entry_set_init (check_set_init_1 tS ?_)) fun r2 t2 hr2 => ?_
    · obtain ⟨⟨oc, od, odt, osl⟩, ho, hoc, nl, hod⟩ := hl
      simp only at hoc hod
      subst hoc
      subst hod
      have ho2 : (t.heap.push { cls := .type "set", dict := none, data := .set #[] 0 (.fresh 0 0 ld) }).get? l = some { cls := .type "tuple", dict := od, data := .seq us nl, slots := osl } := Heap.get?_push_of_some _ ho
      have f1 := PySem.F.sub_tuple_set
      have f2 := PySem.F.sub_tuple_frozenset
      have f3 : (Value.type "tuple" == Value.type "dict") = false := by decide
      have tl2 : (t.heap.push { cls := .type "set", dict := none, data := .set #[] 0 (.fresh 0 0 ld) }).IsTuple l us := ⟨_, ho2, rfl, nl, rfl⟩
      unfold Builtin.«set.__init__» noKeywords Builtin.Frozenset.updateFrom
      generalize gPI : pyIter = PI
      wp_walk
      subst gPI
      refine wpAny_pyIter_tuple tl2 (wpAny_bind (wpAny_runValue ?_))
      have lt : l < t.heap.objs.size := Heap.lt_size ho
      have hh3 : B.in1.in1.in1.handled = none := by simp [hh]
      have d1 : l ≠ (t.heap.push { cls := .type "set", dict := none, data := .set #[] 0 (.fresh 0 0 ld) }).objs.size := by
        rw [Heap.size_push]
        exact Nat.ne_of_lt (Nat.lt_succ_of_lt lt)
      have d2 : t.heap.objs.size ∉ [(t.heap.push { cls := .type "set", dict := none, data := .set #[] 0 (.fresh 0 0 ld) }).objs.size, l] := by
        rw [Heap.size_push]
        simp only [List.mem_cons, List.not_mem_nil, or_false, not_or]
        exact And.intro (Nat.ne_of_lt (Nat.lt_succ_self _)) (Nat.ne_of_gt lt)
      have sz : xs.length = us.size := by rw [← StrsAre.len_eq hs, Array.length_toList]
      refine set_loop ((Walks.tuple hh3 _ l d1 us).toS) t.heap.objs.size d2 xs sz (by omega) (fun j u hu => SS.strs_at hs j u (by rw [Array.getElem?_toList]; exact hu)) us.size 0 _ (by omega) ⟨⟨_, Heap.get?_push_size _ rfl, rfl, rfl⟩, (tl2.push _)⟩ ?S0 ?Fin
      case S0 =>
        refine SetOf_congr ((setObjOf_fresh (knd := strKind q w) ld).setOf (Heap.get?_push_of_some _ gS) (by unfold scanBound; omega)) (fun _ => rfl) rfl
      case Fin =>
        intro t3 mv hS
        obtain ⟨h3, g3, d3, k3, o3⟩ := t3
        cases (show g3 = t.gens from mv.gens)
        cases (show d3 = t.drawn from mv.drawn)
        cases (show o3 = t.os from mv.os)
        change wpAny _ _ _ _ _ _
        refine wpAny_pure ?_
        change wpAny _ _ (ret Value.none) _ _ _
        refine wpAny_pure ⟨rfl, h3, k3, rfl, hS, fun b o lb e => mv.heap b o ?_ (Heap.get?_push_of_some _ (Heap.get?_push_of_some _ e))⟩
        rw [Heap.size_push]
        simp only [List.mem_cons, List.not_mem_nil, or_false, not_or]
        exact And.intro (Nat.ne_of_lt lb) (Nat.ne_of_lt (Nat.lt_succ_of_lt lb))
    · match r2, hr2 with
      | .error e, hr2 => exact hr2
      | .ok (.ret v), hr2 =>
        obtain ⟨rfl, h2, tk, rfl, hS, hk⟩ := hr2
        repeat (any_goals (first | assumption | wp_step))
        exact k _ _ hS hk
end
end Ds
end
section
set_option Elab.async false
set_option linter.all false
set_option maxRecDepth 100000
set_option maxHeartbeats 4000000
namespace Ds
open PySem PySem.Spec PyProof.Rows L2
section
variable {X : Cx} {W : WX} {C : Cn} {sa : SE} {a : Expr} {pos : Pos}
/-- len(set(t)) of a tuple of texts -/
def gLS : PyData → Option PyData
  | .tuple ds => match strsOf ds with
    | some ys => if ys.length < 2000 then some (.int (dct (pre ys ys.length) : Nat)) else none
    | none => none
  | _ => none
def sLenSet (sa : SE) : SE := fun S => (sa S).bind fun d S1 => R.opt (gLS d) S1
theorem gLS_some {d z : PyData} (h : gLS d = some z) : ∃ ys : List Str, d = .tuple (ys.map .str) ∧ ys.length < 2000 ∧ z = .int (dct (pre ys ys.length) : Nat) := by
  cases d with
  | tuple ds =>
    change (match strsOf ds with | some ys => if ys.length < 2000 then some (PyData.int (dct (pre ys ys.length) : Nat)) else none | none => none) = some z at h
    cases e : strsOf ds with
    | none => rw [e] at h; cases h
    | some ys =>
      rw [e] at h
      by_cases c : ys.length < 2000
      · simp only [if_pos c] at h
        cases h
        exact ⟨ys, by rw [strsOf_map e], c, rfl⟩
      · simp only [if_neg c] at h
        cases h
  | _ => cases h
theorem rds_strs {K : PySem.W.Frag} {av : Av} {H : Hp} : ∀ {ys : List Str} {vs : List V}, RDs K av H vs (ys.map .str) → vs = ys.map V.str
  | [], vs, h => by cases h; rfl
  | y :: ys, vs, h => by
    cases h with
    | cons h1 h2 =>
      cases h1
      rw [rds_strs h2]
      rfl
def tLS (K : PySem.W.Frag) (ta : TE) : TE := fun σ H Q => ta σ H fun x H1 => ∃ (l : Addr) (ys : List Str), x = .ref l ∧ SqT K H1 l (ys.map V.str) ∧ ys.length < 2000 ∧ Q (.int (dct (pre ys ys.length) : Nat)) H1
theorem pe_ls {ta : TE} {p p2 r : Pos} (hc : X.calm = true) (g1 : Gl X "len") (m1 : X.mg "len" = none) (g2 : Gl X "set") (m2 : X.mg "set" = none) (ha : PE X a ta)
    (na : starEach [a] X.env = (false, eval a X.env) :: starEach [] X.env := by rfl) : PE X (.Call (.Name "len" p) [.Call (.Name "set" p2) [a] [] r] [] pos) (tLS X.K ta) := by
  refine ⟨fun pins s σ H Q I h => Call_ (ld_blt I g1 m1 boot_len ?_)⟩
  refine PyProof.Rows.callWith_builtin1 (PyProof.Rows.args_cons (Call_ (ld_blt I g2 m2 boot_set ?_)) rfl) rfl rfl
  refine PyProof.Rows.callWith_type1 (PyProof.Rows.args_cons (thn (ha.run pins s σ H _ I h) fun v t ⟨x, H1, I1, r1, y1⟩ => PyProof.Rows.args_nil ?_) na) na rfl
  obtain ⟨l, ys, rfl, sq, lt, y2⟩ := y1
  cases r1
  obtain ⟨us, rv, pt, _⟩ := I1.tuple sq
  have el : us.toArray.size = ys.length := by rw [List.size_toArray, ← rv.length, List.length_map]
  refine set_of_tuple (I1.ok.hd hc) pt (by simpa using strsAre_of rv) lt fun h2 tk hS hk => ?_
  refine PyProof.Rows.args_nil ?_
  rw [el] at hS
  obtain ⟨o, es, ep, tb, e1, e2, e3, _, _, _, e4, e5⟩ := hS
  have I2 : Inv X pins σ H1 { t with heap := h2, toks := tk } := I1.kept fun b z e => hk b z (Heap.lt_size e) e
  have le := dct_le (pre ys ys.length)
  have le2 : (pre ys ys.length).length ≤ ys.length := by unfold pre; simp
  exact call_len_set e1 e2 e3 e4 (by rw [e5]; omega) ⟨.int (dct (pre ys ys.length) : Nat), H1, I2.tok _, ⟨_, by rw [e5]⟩, y2⟩
theorem e_lenSet {p p2 r : Pos} (hc : X.calm = true) (g1 : Gl X "len") (m1 : X.mg "len" = none) (g2 : Gl X "set") (m2 : X.mg "set" = none) (ha : PE X a (xE X.K X.mg W C sa))
    (na : starEach [a] X.env = (false, eval a X.env) :: starEach [] X.env := by rfl) : PE X (.Call (.Name "len" p) [.Call (.Name "set" p2) [a] [] r] [] pos) (xE X.K X.mg W C (sLenSet sa)) :=
  pe_imp (pe_ls hc g1 m1 g2 m2 ha na) fun σ H Q ⟨ow, S, rl, q⟩ => seq early_E rl q fun S1 d v H1 r1 x1 rd k => by
    cases e : gLS d with
    | none => rw [e] at k; exact k.elim
    | some z =>
      rw [e] at k
      obtain ⟨ys, rfl, lt, rfl⟩ := gLS_some e
      cases rd with
      | tup h1 h2 =>
        rw [rds_strs h2] at h1
        exact ⟨_, ys, rfl, h1.sq, lt, pst_ok r1 k (.int _)⟩
end
end Ds
end
section
set_option Elab.async false
set_option linter.all false
set_option maxRecDepth 100000
set_option maxHeartbeats 4000000
namespace Ds
open PySem PySem.Spec PyProof.Rows L2
section
variable {X : Cx} {W : WX} {C : Cn} {sa sb : SE} {a b : Expr} {pos : Pos}
/-- t.index(x) of texts, where it is found -/
def gTIx (d e : PyData) : Option PyData := match d, e with
  | .tuple ds, .str z => match strsOf ds with
    | some ys => (ys.findIdx? (· == z)).map fun j => .int (j : Nat)
    | none => none
  | _, _ => none
/-- it is a tuple without a dict -/
def TyT (K : PySem.W.Frag) (H : Hp) (x : V) : Prop := ∃ (l : Addr) (o : Obj), x = .ref l ∧ o.dict = none ∧ o.cls = .type "tuple" ∧ ((∃ u, H l = some (.frz o u)) ∨ K.lookup l = some o)
theorem tyT_of {av : Av} {H : Hp} {l : Addr} {xs : List V} (h : TK X.K av H l xs) : TyT X.K H (.ref l) := by
  rcases h with ⟨⟨o, e, d, c⟩, _⟩ | ⟨_, o, e, d, c⟩
  · exact ⟨l, o, rfl, d, c, .inl ⟨_, e⟩⟩
  · exact ⟨l, o, rfl, d, c, .inr e⟩
theorem tyT_at {pins : List (Addr × Obj)} {σ : St} {H : Hp} {s : Shared} {l : Addr} (I : Inv X pins σ H s) (h : TyT X.K H (.ref l)) : s.TypeIs (.ref l) "tuple" ∧ ∀ a, Value.ref l = .ref a → ∃ ob, s.heap.get? a = some ob ∧ ob.dict = none := by
  obtain ⟨l', o, e, d, c, r⟩ := h
  cases e
  have g : s.heap.get? l = some o := by
    rcases r with ⟨u, r⟩ | r
    · exact (I.hok l _ r).1
    · exact I.kIn l o r
  exact ⟨⟨o, g, c⟩, fun a z => by cases z; exact ⟨o, g, d⟩⟩
def tTix (K : PySem.W.Frag) (ta : TE) (tb : TA) : TE := fun σ H Q => ta σ H fun x H1 => TyT K H1 x ∧ tb σ H1 fun xs H2 => ∃ p, ∃ ys : List Str, ∃ z j, x = .ref p ∧ xs = [.str z] ∧ SqT K H2 p (ys.map V.str) ∧ ys[j]? = some z ∧ (∀ m, m < j → ys[m]? ≠ some z) ∧ Q (.int (j : Nat)) H2
theorem pe_tix {ta : TE} {tb : TA} {p : Pos} (ho : PE X a ta) (ha : PA X [b] tb) (hbase : attributeBase a "index" X.env (eval a X.env) = eval a X.env := by rfl)
    (hfew : ((backTo pos (starEach [b] X.env)).all (fun x => !x.1) && (backToKw pos (keywordEach [] X.env)).all (fun x => x.1.isSome)
      && decide (([b] : List Expr).length + ([] : List Keyword).length + (if ([] : List Keyword).isEmpty then 0 else 1) < 30)) = true := by rfl)
    (hline : (p.endLine == pos.line) = true := by rfl) (hs : starEach [b] X.env = (false, eval b X.env) :: starEach [] X.env := by rfl) (hplain : (backTo pos (starEach [] X.env)).any (·.1) = false := by rfl) :
    PE X (.Call (.Attribute a "index" p) [b] [] pos) (tTix X.K ta tb) := by
  refine ⟨fun pins s σ H Q I h => ?_⟩
  refine wpAny_Call_method_late hbase hfew hline rfl (thn (ho.run pins s σ H _ I h) fun v t ⟨x, H1, I1, r1, ty, y1⟩ => ?_)
  have ex : ∃ l, x = .ref l := by
    obtain ⟨l, _, e, _⟩ := ty
    exact ⟨l, e⟩
  obtain ⟨l, rfl⟩ := ex
  cases r1
  obtain ⟨z1, z2⟩ := tyT_at I1 ty
  refine ⟨"tuple", "tuple.index", PySem.F.plainAttrs_tuple, PySem.F.slot_tuple_index, PySem.F.type_tuple_index, z1, z2, ?_⟩
  have run := ha.run pos pins t σ H1 _ I1 y1
  rw [hs] at run ⊢
  refine Calls.callWith_builtin (by show (false || (backTo pos (starEach [] X.env)).any (·.1)) = false; rw [hplain] <;> rfl) (Calls.evalArgs_plain (thn run fun us t2 ⟨vs, H2, I2, r2, y2⟩ => ?_))
  exact mt_tup_index pins t2 σ H2 (.ref l) vs _ us Q I2 rfl r2 y2
def sTix (sa sb : SE) : SE := fun S => (sa S).bind fun d S1 => match d with
  | .tuple ds => (sb S1).bind fun e S2 => R.opt (gTIx (.tuple ds) e) S2
  | _ => .no
theorem tix_some {ds : List PyData} {e z : PyData} (h : gTIx (.tuple ds) e = some z) : ∃ (ys : List Str) (y : Str) (j : Nat), ds = ys.map .str ∧ e = .str y ∧ z = .int (j : Nat) ∧ ys[j]? = some y ∧ ∀ m, m < j → ys[m]? ≠ some y := by
  cases e with
  | str y =>
    change (match strsOf ds with | some ys => (ys.findIdx? (· == y)).map fun j => PyData.int (j : Nat) | none => none) = some z at h
    cases e1 : strsOf ds with
    | none => rw [e1] at h; cases h
    | some ys =>
      rw [e1] at h
      change (ys.findIdx? (· == y)).map (fun j => PyData.int (j : Nat)) = some z at h
      cases e2 : ys.findIdx? (· == y) with
      | none => rw [e2] at h; cases h
      | some j =>
        rw [e2] at h
        cases h
        obtain ⟨hj, h1, h2⟩ := List.findIdx?_eq_some_iff_getElem.mp e2
        refine ⟨ys, y, j, strsOf_map e1, rfl, rfl, ?_, fun m hm q => ?_⟩
        · rw [List.getElem?_eq_getElem hj]
          exact congrArg some (by simpa using h1)
        · obtain ⟨hm2, e3⟩ := List.getElem?_eq_some_iff.mp q
          have := h2 m hm
          rw [e3] at this
          simp at this
  | _ => cases h
theorem e_tidx {p : Pos} (ha : PE X a (xE X.K X.mg W C sa)) (hb : PE X b (xE X.K X.mg W C sb)) (hbase : attributeBase a "index" X.env (eval a X.env) = eval a X.env := by rfl)
    (hfew : ((backTo pos (starEach [b] X.env)).all (fun x => !x.1) && (backToKw pos (keywordEach [] X.env)).all (fun x => x.1.isSome)
      && decide (([b] : List Expr).length + ([] : List Keyword).length + (if ([] : List Keyword).isEmpty then 0 else 1) < 30)) = true := by rfl)
    (hline : (p.endLine == pos.line) = true := by rfl) (hs : starEach [b] X.env = (false, eval b X.env) :: starEach [] X.env := by rfl) (hplain : (backTo pos (starEach [] X.env)).any (·.1) = false := by rfl) :
    PE X (.Call (.Attribute a "index" p) [b] [] pos) (xE X.K X.mg W C (sTix sa sb)) :=
  pe_imp (pe_tix ha (pa_cons hb pa_nil hs) hbase hfew hline hs hplain) fun σ H Q ⟨ow, S, r, q⟩ => seq early_E r q fun S1 d v H1 r1 x1 rd k1 => by
    cases rd with
    | @tup l xs ds h1 h2 =>
      refine ⟨tyT_of h1, seq early_E r1 k1 fun S2 e w H2 r2 x2 rd2 k2 => ?_⟩
      cases eg : gTIx (.tuple ds) e with
      | none => rw [eg] at k2; exact k2.elim
      | some z =>
        rw [eg] at k2
        obtain ⟨ys, y, j, rfl, rfl, rfl, g1, g2⟩ := tix_some eg
        cases rd2
        have h3 := h1.mono x2 (Grow.refl _ _)
        rw [rds_strs h2] at h3
        exact ⟨l, ys, y, j, rfl, rfl, h3.sq, g1, g2, pst_ok r2 k2 (.int _)⟩
    | _ => exact k1.elim
@[simp] theorem r_sTix {S : En} : sTix sa sb S = ((sa S).bnd fun d S1 => match d with
  | .tuple ds => (sb S1).bnd fun e S2 => R.opt (gTIx (.tuple ds) e) S2
  | _ => .no) := rfl
@[simp] theorem r_sLenSet {S : En} : sLenSet sa S = ((sa S).bnd fun d S1 => R.opt (gLS d) S1) := rfl
@[simp] theorem r_sAsg {g : GT} {S : En} : sAsg g sa S = ((sa S).stt fun d S1 => g d S1) := rfl
end
end Ds
end
section
set_option Elab.async false
set_option linter.all false
set_option maxRecDepth 100000
set_option maxHeartbeats 4000000
namespace Ds
open PySem PySem.Spec PyProof.Rows L2
def nst? : Option Sl → Option (List (List PyData))
  | some (.nst (.ls dss)) => some dss
  | _ => none
section
variable {X : Cx} {W : WX} {C : Cn} {pos : Pos} {a b e c : Expr} {sa sb se : SE} {i : Nat}
def sFrzN (i : Nat) (s : SS) : SS := fun S => match nst? S[i]? with
  | some dss => s (S.set i (.val (.list (dss.map .list))))
  | none => .no
/-- l[k], an inner list, for a change -/
def nstIx (o : Option Sl) (k : PyData) : Option Nat := match nst? o, k with
  | some dss, .int j => if 0 ≤ j ∧ j < dss.length then some j.toNat else none
  | _, _ => none
def sNJ (i : Nat) (sb : SE) : En → R Nat := fun S => if (nst? S[i]?).isSome = true then (sb S).bind fun k S1 => R.opt (nstIx S1[i]? k) S1 else .no
/-- l[k], an inner list, for a reader -/
def sNIx (i : Nat) (sb : SE) : SN := fun S => (sNJ i sb S).bind fun k S1 => R.opt ((nst? S1[i]?).bind fun dss => dss[k]?) S1
/-- l[k].append(e) -/
def sNApp (i : Nat) (sb se : SE) : SE := fun S => (sNJ i sb S).bind fun k S1 => (se S1).bind fun d S2 => match nst? S2[i]? with
  | some dss => match dss[k]? with
    | some ds => if ds.length < sizeLine then .ok .none (S2.set i (.nst (.ls (dss.set k (ds ++ [d]))))) else .no
    | none => .no
  | none => .no
def sNIns (i : Nat) (sb : SE) (sg : SN) : SE := fun S => (sNJ i sb S).bind fun k S1 => (sg S1).bind fun gs S2 => match nst? S2[i]?, gs with
  | some dss, [.int j, d] => match dss[k]? with
    | some ds => if ds.length < sizeLine ∧ 0 ≤ j ∧ j < 2 ^ 63 then .ok .none (S2.set i (.nst (.ls (dss.set k (ds.take j.toNat ++ [d] ++ ds.drop j.toNat))))) else .no
    | none => .no
  | _, _ => .no
end
end Ds
end
section
set_option Elab.async false
set_option linter.all false
set_option maxRecDepth 100000
set_option maxHeartbeats 4000000
namespace Ds
open PySem PySem.Spec PyProof.Rows L2
theorem nodup_idx {α : Type} : ∀ {l : List α}, l.Nodup → ∀ {m n : Nat} {c : α}, l[m]? = some c → l[n]? = some c → m = n
  | [], _, m, n, c, h, _ => by simp at h
  | x :: l, hn, m, n, c, h1, h2 => by
    have q := List.nodup_cons.mp hn
    cases m with
    | zero =>
      cases n with
      | zero => rfl
      | succ n =>
        obtain rfl : x = c := by simpa using h1
        exact absurd (List.mem_of_getElem? (by simpa using h2)) q.1
    | succ m =>
      cases n with
      | zero =>
        obtain rfl : x = c := by simpa using h2
        exact absurd (List.mem_of_getElem? (by simpa using h1)) q.1
      | succ n => rw [nodup_idx q.2 (m := m) (n := n) (by simpa using h1) (by simpa using h2)]
structure Bk (K : PySem.W.Frag) (C C2 : Cn) (ow : Ow) (H : Hp) (D : Addr) (bs : List Addr) (dss : List (List PyData)) : Prop where
  A : ∀ a, C2.A0 a ↔ C.A0 a ∨ a = D ∨ a ∈ bs
  h0 : ∀ a, a ≠ D → a ∉ bs → C2.H0 a = C.H0 a
  hD : C2.H0 D = some (.lst (bs.map V.ref))
  io : C2.io = C.io
  wd : C2.w = C.w
  nd : (D :: bs).Nodup
  nw : ∀ a, (a = D ∨ a ∈ bs) → C.H0 a = none ∧ ¬ C.A0 a
  len : bs.length = dss.length
  inn : ∀ (k : Nat) b ds, bs[k]? = some b → dss[k]? = some ds → ∃ ws, C2.H0 b = some (.lst ws) ∧ RDs K (av C2 ow) H ws ds
section
variable {K : PySem.W.Frag} {C C2 : Cn} {ow : Ow} {S : En} {σ : St} {H H' Hm : Hp} {D a : Addr} {bs : List Addr} {dss : List (List PyData)} {ws : List V} {ds : List PyData}
theorem Bk.mono (b : Bk K C C2 ow H D bs dss) (x : Ext (av C2 ow) H H') : Bk K C C2 ow H' D bs dss :=
  ⟨b.A, b.h0, b.hD, b.io, b.wd, b.nd, b.nw, b.len, fun k c ds e1 e2 => let ⟨ws, h1, h2⟩ := b.inn k c ds e1 e2; ⟨ws, h1, RDs.mono x (Grow.refl _ _) ds ws h2⟩⟩
def Cn.put (C : Cn) (p : Addr) (ws : List V) : Cn := ⟨C.A0, upd C.H0 p (.lst ws), C.io, C.w⟩
/-- what stands at p is exchanged -/
theorem Rl.reset {p : Addr} (r : Rl K C ow S σ H) (hA : C.A0 p) (hio : ∀ i, C.io i ≠ some p) (ws : List V) : Rl K (C.put p ws) ow S σ (upd H p (.lst ws)) := by
  have ap : av C ow p := .inl hA
  have x : Ext (av C ow) H (upd H p (.lst ws)) := fun a o n e => by
    rw [upd_ne (show a ≠ p from fun z => n (by rw [z]; exact ap))]
    exact e
  have np : ∀ i ds, own? S[i]? = some ds → ow i ≠ some p := fun i ds e z => by
    cases q : S[i]? with
    | none => rw [q] at e; cases e
    | some x =>
      rw [q] at e
      cases x with
      | own d => exact (r.frs i d p q z).2 hA
      | io d => exact hio i ((r.ios i d q).trans z)
      | nil => cases e
      | val d => cases e
      | nst d => cases e
      | pair d ds => cases e
  have np3 : ∀ i a, NstAt S i → ow i = some a → a ≠ p := fun i a h e z => (r.ns.frn i a h e).2 (by rw [z]; exact hA)
  have pt : ∀ {a : Addr} {o : Option HO}, a ≠ p → C.H0 a = o → (C.put p ws).H0 a = o := fun {a o} ne e => by
    show upd C.H0 p (.lst ws) a = o
    rw [upd_ne ne]; exact e
  refine ⟨r.len, fun i d e => ?_, fun i ds e => ?_, r.ows, r.inj, fun i ds a h1 h2 => ?_, r.ios, r.iok, fun a h => ?_, fun a o h1 h2 => ?_, r.ns.move r.ns.big (fun _ _ q => q) (fun _ _ => rfl) (fun _ _ _ _ => rfl) (fun j a o q e1 e2 => by rw [upd_ne (np3 j a q e1)]; exact e2) (fun ws' ds q => RDs.mono x (Grow.refl _ _) ds ws' q) (fun j a q e z => ⟨pt (np3 j a q e) z.1, z.2⟩)⟩
  · obtain ⟨v, h1, h2⟩ := r.val i d e
    exact ⟨v, h1, RD.mono x (Grow.refl _ _) d v h2⟩
  · obtain ⟨a, vs, h1, h2, h3, h4⟩ := r.own i ds e
    refine ⟨a, vs, h1, h2, ?_, RDs.mono x (Grow.refl _ _) ds vs h4⟩
    rw [upd_ne (show a ≠ p from fun z => np i ds e (by rw [h1, z]))]
    exact h3
  · obtain ⟨g1, g2⟩ := r.frs i ds a h1 h2
    exact ⟨pt (fun z => g2 (by rw [z]; exact hA)) g1, g2⟩
  · by_cases e : a = p
    · rw [e]; exact ⟨_, upd_same⟩
    · rw [upd_ne e]; exact r.trk a h
  · change upd C.H0 p (.lst ws) a = some o at h1
    by_cases e : a = p
    · rw [e, upd_same] at h1 ⊢
      exact h1
    · rw [upd_ne e] at h1 ⊢
      exact r.ext a o h1 h2
/-- one more inner list -/
theorem Bk.more (b : Bk K C C2 ow Hm D bs dss) (r : Rl K C2 ow S σ Hm) (na : Hm a = none) (rd : RDs K (av C2 ow) Hm ws ds) (hio : ∀ i c, C.io i = some c → C.A0 c) :
    Rl K ((C2.plus a ws).put D ((bs ++ [a]).map V.ref)) ow S σ (upd (upd Hm a (.lst ws)) D (.lst ((bs ++ [a]).map V.ref))) ∧ Bk K C ((C2.plus a ws).put D ((bs ++ [a]).map V.ref)) ow (upd (upd Hm a (.lst ws)) D (.lst ((bs ++ [a]).map V.ref))) D (bs ++ [a]) (dss ++ [ds]) := by
  have f0 := r.fresh0 na
  have aA : ∀ c, c = D ∨ c ∈ bs → a ≠ c := fun c hc z => f0.2 ((b.A a).mpr (.inr (by rw [z]; exact hc)))
  have aD : a ≠ D := aA D (.inl rfl)
  have ab : a ∉ bs := fun z => aA a (.inr z) rfl
  have rp := r.plus na ws
  have hA : (C2.plus a ws).A0 D := .inl ((b.A D).mpr (.inr (.inl rfl)))
  have hioD : ∀ i, (C2.plus a ws).io i ≠ some D := fun i z => by
    change C2.io i = some D at z
    rw [b.io] at z
    exact (b.nw D (.inl rfl)).2 (hio i D z)
  have rr := rp.reset hA hioD ((bs ++ [a]).map V.ref)
  have nd := List.nodup_cons.mp b.nd
  refine ⟨rr, fun c => ?_, fun c h1 h2 => ?_, upd_same, b.io, b.wd, ?_, fun c hc => ?_, by rw [List.length_append, List.length_append, b.len]; rfl, fun k c es e1 e2 => ?_⟩
  · show C2.A0 c ∨ c = a ↔ _
    rw [b.A c, List.mem_append, List.mem_singleton]
    constructor
    · rintro ((h | h | h) | h)
      · exact .inl h
      · exact .inr (.inl h)
      · exact .inr (.inr (.inl h))
      · exact .inr (.inr (.inr h))
    · rintro (h | h | h | h)
      · exact .inl (.inl h)
      · exact .inl (.inr (.inl h))
      · exact .inl (.inr (.inr h))
      · exact .inr h
  · show upd (upd C2.H0 a (.lst ws)) D _ c = _
    rw [upd_ne h1, upd_ne fun z => h2 (by rw [z]; simp)]
    exact b.h0 c h1 fun z => h2 (by simp [z])
  · refine List.nodup_cons.mpr ⟨fun z => ?_, ?_⟩
    · rw [List.mem_append, List.mem_singleton] at z
      exact z.elim nd.1 fun z => aD z.symm
    · rw [List.nodup_append]
      refine ⟨nd.2, by simp, fun x hx y hy z => ?_⟩
      rw [List.mem_singleton] at hy
      exact ab (by rw [← hy, ← z]; exact hx)
  · rcases hc with hc | hc
    · exact b.nw c (.inl hc)
    · rw [List.mem_append, List.mem_singleton] at hc
      rcases hc with hc | hc
      · exact b.nw c (.inr hc)
      · subst hc
        exact ⟨by rw [← b.h0 c aD ab]; exact f0.1, fun z => f0.2 ((b.A c).mpr (.inl z))⟩
  · have x1 : Ext (av C2 ow) Hm (upd Hm a (.lst ws)) := Ext.same (same_new na)
    have g1 : Grow (av C2 ow) (av (C2.plus a ws) ow) Hm := grow_plus na
    have x2 : Ext (av (C2.plus a ws) ow) (upd Hm a (.lst ws)) (upd (upd Hm a (.lst ws)) D (.lst ((bs ++ [a]).map V.ref))) := fun c o n e => by
      rw [upd_ne (show c ≠ D from fun z => n (by rw [z]; exact .inl hA))]
      exact e
    have up : ∀ {us : List V} {fs : List PyData}, RDs K (av C2 ow) Hm us fs → RDs K (av ((C2.plus a ws).put D ((bs ++ [a]).map V.ref)) ow) (upd (upd Hm a (.lst ws)) D (.lst ((bs ++ [a]).map V.ref))) us fs := fun {us fs} q => RDs.mono (x1.trans g1 x2) g1 fs us q
    by_cases hk : k < bs.length
    · rw [List.getElem?_append_left hk] at e1
      rw [List.getElem?_append_left (by rw [← b.len]; exact hk)] at e2
      obtain ⟨us, h1, h2⟩ := b.inn k c es e1 e2
      have hc : c ∈ bs := List.mem_of_getElem? e1
      refine ⟨us, ?_, up h2⟩
      show upd (upd C2.H0 a (.lst ws)) D _ c = _
      rw [upd_ne fun z => nd.1 (by rw [← z]; exact hc), upd_ne (aA c (.inr hc)).symm]
      exact h1
    · rw [List.getElem?_append_right (by omega)] at e1
      rw [List.getElem?_append_right (by rw [← b.len]; omega)] at e2
      have k0 : k - bs.length = 0 := by
        have := (List.getElem?_eq_some_iff.mp e1).1
        simp at this
        omega
      rw [k0] at e1
      rw [← b.len, k0] at e2
      cases e1
      cases e2
      refine ⟨ws, ?_, up rd⟩
      show upd (upd C2.H0 a (.lst ws)) D _ a = _
      rw [upd_ne aD, upd_same]
end
def lcN (g : GT) (t : STt) (e : SN) (vs : List Nat) : List PyData → En → R (List (List PyData))
  | [], S => .ok [] S
  | d :: ds, S => match g d S with
    | .nx S2 => (t S2).bind fun b S3 => if b = true then (e S3).bind fun y S4 => (lcN g t e vs ds (wipeS vs S4)).bind fun ys S5 => .ok (y :: ys) S5 else lcN g t e vs ds (wipeS vs S3)
    | _ => .no
def putNst (i : Nat) (dss : List (List PyData)) (S : En) : RS := if noio S[i]? = true then .nx (S.set i (.nst (.ls dss))) else .no
def sSetNst (i : Nat) (it : SN) (g : GT) (t : STt) (e : SN) (vs : List Nat) : SS := fun S => (it S).st fun ds S1 =>
  if (vs.all fun v => (own? S1[v]?).isNone && nn S1[v]?) = true ∧ ds.length < sizeLine then (noEx (lcN g t e vs ds (wipeS vs S1))).st fun yss S2 => putNst i yss (unwipe vs S1 S2) else .no
end Ds
end
section
set_option Elab.async false
set_option linter.all false
set_option maxRecDepth 100000
set_option maxHeartbeats 4000000
namespace Ds
open PySem PySem.Spec PyProof.Rows L2
section
variable {X : Cx} {K : PySem.W.Frag}
def CPowB (i j : Int) : Prop := 0 ≤ j ∧ j ≤ 1000 ∧ i.natAbs < 2 ^ 1000
theorem bitsB {a n : Int} (ha : a.natAbs < 2 ^ 1000) (h0 : 0 ≤ n) (hn : n ≤ 1000) : (Builtin.Int.intBits a : Int) * n ≤ 2 ^ 27 := by
  have hb : Builtin.Int.intBits a ≤ 1000 := intBits_le ha
  have h1 : (Builtin.Int.intBits a : Int) * n ≤ 1000 * n := Int.mul_le_mul_of_nonneg_right (by omega) h0
  omega
theorem op_powB : OpR X (binaryOp .Pow) (rI CPowB fun i j => .int (i ^ j.toNat)) := opI fun _ _ _ _ _ _ _ hc q => pow_int hc.1 (bitsB hc.2.2 hc.1 hc.2.1) q
def cPowB (i j : Int) : Bool := decide (0 ≤ j ∧ j ≤ 1000 ∧ i.natAbs < 2 ^ 1000)
def gPowB : PyData → PyData → Option PyData := gII cPowB fun i j => i ^ j.toNat
theorem od_powB : OpD K (rI CPowB fun i j => .int (i ^ j.toNat)) gPowB := od_II fun i j h => by
  exact (of_decide_eq_true (p := 0 ≤ j ∧ j ≤ 1000 ∧ i.natAbs < 2 ^ 1000) h)
end
section
variable {X : Cx} {W : WX} {C : Cn} {pos : Pos} {a b e tg : Expr} {sa sb se : SE} {sn : SN} {i : Nat}
def sCatN (sa sb : SE) : SN := fun S => (sa S).bind fun d S1 => (sb S1).bind fun e S2 => match asL d, asL e with
  | some ds, some es => if ds.length + es.length ≤ sizeLine then .ok (ds ++ es) S2 else .no
  | _, _ => .no
def sCatV (i : Nat) (sb : SE) : SN := fun S => if (lst? S[i]?).isSome = true then (sb S).bind fun e S2 => match lst? S2[i]?, asL e with
  | some ds, some es => if ds.length + es.length ≤ sizeLine then .ok (ds ++ es) S2 else .no
  | _, _ => .no
  else .no
def sRepN (s1 : SN) (s2 : SE) : SN := fun S => (s1 S).bind fun ds S1 => (noEx (s2 S1)).bind fun k S2 => match k with
  | .int k => if -(2 ^ 63) ≤ k ∧ k < 2 ^ 63 ∧ ds.length * k.toNat ≤ sizeLine then .ok (List.replicate k.toNat ds).flatten S2 else .no
  | _ => .no
theorem vals_signs {x : Str} {acc : Array Value} (h : ItemsOf (SignAt x) acc x.cps.size) : Vals (x.cps.toList.map fun c => V.str ⟨#[c]⟩) acc.toList := by
  refine vals_of_idx _ _ (by rw [Array.length_toList, List.length_map, Array.length_toList]; exact h.1) fun j u e => ?_
  obtain ⟨c, t, h1, h2⟩ := h.2 j u (by rw [← Array.getElem?_toList]; exact e)
  refine ⟨.str ⟨#[c]⟩, ?_, t, h2⟩
  rw [List.getElem?_map, Array.getElem?_toList, h1]
  rfl
def sListS (sr : SN) : SN := fun S => (sr S).bind fun ds S1 => match ds with
  | [.str x] => if x.cps.size ≤ sizeLine then .ok (signs x) S1 else .no
  | _ => .no
theorem rds_signs {K : PySem.W.Frag} {av : Av} {H : Hp} (cs : List Nat) : RDs K av H (cs.map fun c => V.str ⟨#[c]⟩) (cs.map fun c => PyData.str ⟨#[c]⟩) := by
  induction cs with
  | nil => exact .nil
  | cons c cs ih => exact .cons (.str _) ih
def rng3 (ds : List PyData) : Option (List PyData) := match ds with
  | [.int i, .int j, .int c] => if smallI i = true ∧ smallI j = true ∧ c = -1 then some ((List.range (i - j).toNat).map fun k => .int (i - (k : Nat))) else none
  | _ => none
def sRng3 (sr : SN) : SN := fun S => (sr S).bind fun ds S1 => R.opt (rng3 ds) S1
def gSubI (i : Nat) (sk : SE) : GT := fun d S => match sk S with
  | .ok k S1 => match own? S1[i]? with
    | some ds => match setI ds k d with
      | some es => if (own? S[i]?).isSome = true then .nx (upL i es S1) else .no
      | none => .no
    | none => .no
  | _ => .no
theorem g_subI {k : Expr} {sk : SE} (hk : PE X k (xE X.K X.mg W0 C sk)) (hp : ∀ {u : TE}, PE X k u → PG X tg (gSub (tVar i) u rSetL)) : PG X tg (xT X.K C (gSubI i sk) []) :=
  pg_imp (hp hk) fun v σ H Q ⟨ow, S, d, r, rd, q⟩ => by
    unfold gSubI at q
    cases ek : sk S with
    | no => simp only [ek] at q
    | ex c S' => simp only [ek] at q
    | ok kd S1 =>
      simp only [ek] at q
      cases e1 : own? S1[i]? with
      | none => simp only [e1] at q
      | some ds =>
        simp only [e1] at q
        cases e2 : setI ds kd d with
        | none => simp only [e2] at q
        | some es =>
          simp only [e2] at q
          by_cases e3 : (own? S[i]?).isSome = true
          · rw [if_pos e3] at q
            obtain ⟨ds0, e4⟩ := Option.isSome_iff_exists.mp e3
            obtain ⟨a, vs, h0, h1, h2, h3⟩ := r.own i ds0 e4
            refine ⟨.ref a, h1, ow, S, r, ?_⟩
            show pst X.K X.mg W0 C (relE X.K) ow σ H _ (sk S)
            rw [ek]
            intro kv H1 r1 x1 rk
            obtain ⟨b, ws, g0, g1, g2, g3⟩ := r1.own i ds e1
            rw [h0] at g0; cases g0
            cases rk with
            | int j =>
              unfold setI at e2
              by_cases z : 0 ≤ j ∧ j < ds.length
              · simp only [if_pos z] at e2
                cases e2
                have hw : ws.length = ds.length := g3.len
                obtain ⟨r3, x3⟩ := r1.up (es := ds.set j.toNat d) (vs := ws.set j.toNat v) e1 h0 (RDs.set (RD.mono x1 (Grow.refl _ _) d v rd) j.toNat g3)
                exact ⟨a, ws, j, j.toNat, rfl, rfl, g2, by unfold ixN; rw [if_pos z.1, if_pos (by omega)], q σ _ r3 (x1.trans (Grow.refl _ _) x3) ⟨rfl, fun _ _ => rfl⟩⟩
              · simp only [if_neg z] at e2
                cases e2
            | _ => cases e2
          · rw [if_neg e3] at q
            exact q.elim
theorem plain_sub {sk : SE} : Plain (gSubI i sk) := fun d S => by
  unfold gSubI
  split
  · split
    · split
      · split
        · exact .inl ⟨_, rfl⟩
        · exact .inr rfl
      · exact .inr rfl
    · exact .inr rfl
  · exact .inr rfl
def sAug (g : PyData → PyData → Option PyData) (i : Nat) (se : SE) : SS := fun S => match val? S[i]? with
  | some d => (se S).st fun e S1 => match g d e with
    | some z => put i (.val z) S1
    | none => .no
  | none => .no
end
end Ds
end
section
set_option Elab.async false
set_option linter.all false
set_option maxRecDepth 100000
set_option maxHeartbeats 4000000
namespace Ds
open PySem PySem.Spec PyProof.Rows L2
section
variable {X : Cx} {W : WX} {C : Cn} {pos : Pos} {e tg : Expr} {i : Nat}
def Iel (K : PySem.W.Frag) (a : Addr) : It where
  go := fun i H => ∃ (xs : List V) (x : V), SqL K H a xs ∧ xs[i]? = some x
  yld := fun i H v H' => ∃ (T : Addr) (x : V) (o : Obj), v = .ref T ∧ H T = none ∧ o.dict = none ∧ o.cls = .type "tuple" ∧ H' = upd H T (.frz o (.tup [.int (i : Nat), x])) ∧ ∀ xs, SqL K H a xs → xs[i]? = some x
  stop := fun i H => ∃ xs : List V, SqL K H a xs ∧ xs.length = i
theorem turn_enumL {P : Program} {w : World} {K : PySem.W.Frag} {elts : List Expr} {kk : Nat} {tpos : Pos} (a e it : Addr) :
    Turn P w K (.Tuple elts kk tpos) (Iel K a) [e, it] e (fun i h => (∃ old, IsEnum h e it ((i : Nat) : Int) old) ∧ h.IsListIter it a i ∧ e ≠ it) where
  mem := by simp
  obj := fun i h ⟨⟨old, he⟩, ⟨o, ho, hc, hd⟩, _⟩ b hb => by
    rcases two_mem hb with rfl | rfl
    · exact ⟨_, he, fun v q => nomatch q⟩
    · exact ⟨o, ho, fun v q => by rw [hd] at q; cases q⟩
  keep := fun i h h' ⟨⟨old, he⟩, hi, hne⟩ k => ⟨⟨old, k e (by simp) _ he⟩, hi.at fun o q => k it (by simp) o q, hne⟩
  item := by
    intro X hP hw hK hc i pins s σ H E I hf st hg
    subst hP hw hK
    obtain ⟨⟨old, he⟩, hit, hne⟩ := st
    obtain ⟨xs, x, hq, hx⟩ := hg
    obtain ⟨its, rv, pl, hz⟩ := I.list hq
    obtain ⟨u, hu, ru⟩ := rv.get hx
    have hel : e < s.heap.objs.size := Heap.lt_size he
    have hil : it < s.heap.objs.size := hit.elim fun _ q => Heap.lt_size q.1
    refine wpAny_pyNext_enum_item he hit pl.isList (x := u) (by simpa using hu) hne fun h1 ho hst hN hsz hk => ?_
    refine ⟨_, rfl, wpAny_letOwnedTupleGo_enum (s := { s with heap := h1, toks := s.toks + 1 }) ho fun h2 he2 sb => ?_⟩
    have hN2 : h2.get? s.heap.objs.size = some { cls := .type "tuple", data := .seq #[.int i s.toks, u] } := (sb.2 _ (Nat.ne_of_gt hel)).trans hN
    have new : ObjOk X.prog X.w (upd H s.heap.objs.size (.frz { cls := .type "tuple", data := .seq #[.int i s.toks, u] } (.tup [.int (i : Nat), x]))) h2 s.heap.objs.size (.frz { cls := .type "tuple", data := .seq #[.int i s.toks, u] } (.tup [.int (i : Nat), x])) :=
      ⟨hN2, by show 2 ≤ sizeLine; decide, [.int i s.toks, u], .cons ⟨_, rfl⟩ (.cons ru .nil), ⟨_, hN2, rfl, _, rfl⟩⟩
    have I1 := I.turnedNew (t' := s.toks + 1) (ch := [e, it]) (fun b ob hb q => (sb.2 b (fun z => hb (by simp [z]))).trans (hk b ob (fun z => hb (by simp [z])) (fun z => hb (by simp [z])) q)) hf (Nat.le_refl _) new
    refine ⟨.ref s.heap.objs.size, _, I1, rfl, ⟨_, x, _, rfl, I.hok.fresh (Nat.le_refl _), rfl, rfl, rfl, fun ys hy => by rw [I.list_inj hy hq]; exact hx⟩, ⟨⟨u, ?_⟩, hst.at fun o q => (sb.2 it (Ne.symm hne)).trans q, hne⟩, fun b hb => ?_⟩
    · have e1 : ((i + 1 : Nat) : Int) = (i : Int) + 1 := by omega
      rw [e1]
      exact he2
    · have hb2 : b < s.heap.objs.size := by
        rcases two_mem hb with rfl | rfl
        · exact hel
        · exact hil
      rw [upd_ne (Nat.ne_of_lt hb2)]
      exact (hf b hb).1
  done := by
    intro X hP hw hK hc i pins s σ H E I hf st hg
    subst hP hw hK
    obtain ⟨⟨old, he⟩, hit, hne⟩ := st
    obtain ⟨xs, hq, hx⟩ := hg
    obtain ⟨its, rv, pl, hz⟩ := I.list hq
    have hl := rv.length
    obtain ⟨f0, f1, f2, f3, f4, f5⟩ := hf it (by simp)
    exact wpAny_pyNext_enum_end (I.ok.hd hc) he hit pl.isList (by simp; omega) fun h' eb => ⟨rfl, I.turned (t' := s.toks) (fun b o hb q => eb b o hb q) f0 f1 f3 f4 f5⟩
  self := fun A i s Q E ⟨⟨_, he⟩, _⟩ h => wpAny_pyIter_enum he h
def rIel (K : PySem.W.Frag) (ta : TA) : TI := fun σ H R => ta σ H fun vs H1 => ∃ a xs, vs = [.ref a] ∧ SqL K H1 a xs ∧ R (Iel K a) H1
theorem pi_enumL {p tpos : Pos} {elts : List Expr} {kk : Nat} {ta : TA} (hg : Gl X "enumerate") (hm : X.mg "enumerate" = none) (ha : PA X [e] ta) (hs : starEach [e] X.env = [(false, eval e X.env)] := by rfl) :
    PI X (.Tuple elts kk tpos) (.Call (.Name "enumerate" p) [e] [] pos) (rIel X.K ta) := by
  refine ⟨fun pins s σ H R I h => ?_⟩
  refine Call_ (ld_blt I hg hm boot_enumerate (PyProof.Rows.callWith_type1 (thn (ha.run pos pins s σ H _ I h) fun us s1 ⟨vs, H1, I1, r1, a, xs, ex, hq, q⟩ => ?_) hs rfl))
  subst ex
  obtain ⟨u, rfl, ru⟩ := vals1 r1
  cases ru
  obtain ⟨its, rv, pl, hz⟩ := I1.list hq
  refine call_enumerate_list pl.isList fun h1 he hit hsz hk => wpAny_pyIter_enum he ?_
  have I2 := I1.kept (t' := s1.toks) (h' := h1) hk
  refine ⟨s1.heap.objs.size + 1, [s1.heap.objs.size + 1, s1.heap.objs.size], _, _, H1, rfl, I2, turn_enumL a (s1.heap.objs.size + 1) s1.heap.objs.size, ⟨⟨.none, he⟩, hit, Nat.succ_ne_self _⟩, fun b hb => ?_, q⟩
  have hle : s1.heap.objs.size ≤ b := by
    rcases two_mem hb with rfl | rfl
    · exact Nat.le_add_right _ _
    · exact Nat.le_refl _
  exact I1.fpOk hle (I1.hok.fresh hle)
theorem itd_enumL {K : PySem.W.Frag} {av1 : Av} {H : Hp} {p : Addr} {vs : List V} {ds : List PyData} (h : LK K av1 H p vs) (r : RDs K av1 H vs ds) : ItD K (Iel K p) av1 H (enumD ds) := fun av2 H1 x g gw tr => by
  have q := (h.mono x g).sq
  have r' := RDs.mono x g ds vs r
  have hl := r.len
  rw [enumD_len]
  refine ⟨fun i hi => ⟨vs, vs[i]'(by omega), q, List.getElem?_eq_getElem _⟩, ⟨vs, q, hl⟩, fun i z v H2 e y => ?_⟩
  obtain ⟨d, e1, e2⟩ := enumD_get e
  subst e2
  obtain ⟨T, w, o, rfl, nT, d1, c1, rfl, f⟩ := y
  obtain ⟨w', e3, e4⟩ := r'.get e1
  have := f vs q
  rw [e3] at this
  cases this
  exact ⟨same_new nT, rd_newT tr (.cons (.int _) (.cons e4 .nil)) nT d1 c1⟩
def asLE : List PyData → Option (List PyData)
  | [.list ds] => some (enumD ds)
  | _ => none
def sIEnL (sr : SN) : SN := fun S => (sr S).bind fun ds S1 => R.opt (asLE ds) S1
theorem i_enumL {p tpos : Pos} {elts : List Expr} {kk : Nat} {sr : SN} (hg : Gl X "enumerate") (hm : X.mg "enumerate" = none) (ha : PA X [e] (xA X.K X.mg W C sr)) (hs : starEach [e] X.env = [(false, eval e X.env)] := by rfl) :
    PI X (.Tuple elts kk tpos) (.Call (.Name "enumerate" p) [e] [] pos) (xI X.K X.mg W C (sIEnL sr)) := pi_imp (pi_enumL hg hm ha hs) fun σ H Q ⟨ow, S, r, q⟩ =>
  seq early_I r q fun S1 ds vs H1 r1 x1 rd k => by
    match ds, rd, k with
    | [.list es], .cons (.lst h1 h2) .nil, k => exact ⟨_, _, rfl, h1.sq, pst_ok r1 k (itd_enumL h1 h2)⟩
end
end Ds
end
section
set_option Elab.async false
set_option linter.all false
set_option maxRecDepth 100000
set_option maxHeartbeats 4000000
namespace Ds
open PySem PySem.Spec PyProof.Rows L2
section
variable {X : Cx} {W : WX} {C : Cn} {pos : Pos} {elt tg iter e a b c : Expr} {ifs : List Expr} {it sr : SN} {g : GT} {t : STt} {sn : SN} {vs ts : List Nat} {scope : Scope} {own : List (Str × Nat)} {i j l : Nat}
def put1 (i : Nat) (d : PyData) (r : RS) : RS := match r with
  | .nx S => put i (.val d) S
  | _ => .no
def sParV (i j : Nat) (sr : SN) : SS := fun S => (sr S).st fun ds S1 => match ds with
  | [d, e] => put1 j e (put1 i d (.nx S1))
  | _ => .no
def sParV3 (i j l : Nat) (sr : SN) : SS := fun S => (sr S).st fun ds S1 => match ds with
  | [d, e, f] => put1 l f (put1 j e (put1 i d (.nx S1)))
  | _ => .no
theorem put1_nx {i : Nat} {d : PyData} {S S' : En} (h : put1 i d (.nx S) = .nx S') : noio S[i]? = true ∧ S' = S.set i (.val d) := by
  change put i (.val d) S = .nx S' at h
  unfold put at h
  by_cases z : noio S[i]? = true
  · rw [if_pos z] at h; cases h; exact ⟨z, rfl⟩
  · rw [if_neg z] at h; cases h
theorem put1_cases {i : Nat} {d : PyData} {r : RS} : (∃ S S', r = .nx S ∧ put1 i d r = .nx S') ∨ put1 i d r = .no := by
  cases r with
  | nx S =>
    show (∃ S1 S', RS.nx S = .nx S1 ∧ put i (.val d) S = .nx S') ∨ put i (.val d) S = .no
    unfold put
    by_cases z : noio S[i]? = true
    · exact .inl ⟨S, _, rfl, if_pos z⟩
    · exact .inr (if_neg z)
  | _ => exact .inr rfl
theorem sst_put1 {ow : Ow} {σ : St} {H : Hp} {D : Ends} {K : PySem.W.Frag} {mg : Str → Option Value} {r : RS} {d : PyData} (h : sst K mg W C ow H D (put1 i d r)) : ∃ S S', r = .nx S ∧ put1 i d (.nx S) = .nx S' ∧ sst K mg W C ow H D (.nx S') := by
  rcases put1_cases (i := i) (d := d) (r := r) with ⟨S, S', h1, h2⟩ | h1
  · subst h1
    rw [h2] at h
    exact ⟨S, S', rfl, h2, h⟩
  · rw [h1] at h; exact h.elim
theorem s_parV {tgs : List Expr} {k2 pt2} (ha : PA X [a, b] (xA X.K X.mg W C sr)) (hp : ∀ {t : TA}, PA X [a, b] t → PS X (.Assign tgs (.Tuple [a, b] k2 pt2) pos) (tPar i j t)) : PS X (.Assign tgs (.Tuple [a, b] k2 pt2) pos) (xS X.K X.mg W C (sParV i j sr)) :=
  ps_imp (hp ha) fun D σ H ⟨ow, S, r, q⟩ => seqS r q fun S1 ds vs H1 r1 x1 rd k => by
    match ds, rd, k with
    | [d, e], .cons rd1 (.cons rd2 .nil), k =>
      refine ⟨_, _, rfl, ?_⟩
      obtain ⟨S2, S3, h1, h2, k3⟩ := sst_put1 (σ := σ) k
      obtain ⟨h3, rfl⟩ := put1_nx h1
      obtain ⟨h4, rfl⟩ := put1_nx h2
      have p1 := r1.putV h3 rd1
      have lt1 : ∀ a, av C (owSet ow i none) a → av C ow a := fun a z => (av_set z).elim id fun z => by cases z
      have p2 := p1.putV h4 (rd_less rd2 lt1)
      exact k3 _ _ _ p2 (Ext.refl _ _) ((grow_set fun a z => by cases z).trans (Ext.refl _ _) (grow_set fun a z => by cases z))
    | [], _, k => exact k.elim
    | [_], _, k => exact k.elim
    | _ :: _ :: _ :: _, _, k => exact k.elim
end
@[simp] theorem nst?_n {d : List (List PyData)} : nst? (some (.nst (.ls d))) = some d := rfl
@[simp] theorem r_put1 {i : Nat} {d : PyData} {S : En} : put1 i d (.nx S) = if noio S[i]? = true then .nx (S.set i (.val d)) else .no := rfl
@[simp] theorem r_putNst {i : Nat} {d : List (List PyData)} {S : En} : putNst i d S = if noio S[i]? = true then .nx (S.set i (.nst (.ls d))) else .no := rfl
@[simp] theorem r_asLE {d : List PyData} : asLE [.list d] = some (enumD d) := rfl
@[simp] theorem r_sParV {i j : Nat} {sr : SN} {S : En} : sParV i j sr S = ((sr S).stt fun ds S1 => match ds with
  | [d, e] => put1 j e (put1 i d (.nx S1))
  | _ => .no) := rfl
@[simp] theorem r_sParV3 {i j l : Nat} {sr : SN} {S : En} : sParV3 i j l sr S = ((sr S).stt fun ds S1 => match ds with
  | [d, e, f] => put1 l f (put1 j e (put1 i d (.nx S1)))
  | _ => .no) := rfl
@[simp] theorem r_sFrzN {i : Nat} {s : SS} {S : En} : sFrzN i s S = (match nst? S[i]? with
  | some dss => s (S.set i (.val (.list (dss.map .list))))
  | none => .no) := rfl
@[simp] theorem r_sFrz {i : Nat} {s : SS} {S : En} : sFrz i s S = (match own1? S[i]? with
  | some ds => s (S.set i (.val (.list ds)))
  | none => .no) := rfl
@[simp] theorem nstIx_n {dss : List (List PyData)} {j : Int} : nstIx (some (.nst (.ls dss))) (.int j) = if 0 ≤ j ∧ j < dss.length then some j.toNat else none := rfl
@[simp] theorem r_sNJ {i : Nat} {sb : SE} {S : En} : sNJ i sb S = (if (nst? S[i]?).isSome = true then (sb S).bnd fun k S1 => R.opt (nstIx S1[i]? k) S1 else .no) := rfl
@[simp] theorem r_sNIx {i : Nat} {sb : SE} {S : En} : sNIx i sb S = ((sNJ i sb S).bnd fun k S1 => R.opt ((nst? S1[i]?).bind fun dss => dss[k]?) S1) := rfl
@[simp] theorem r_sNApp {i : Nat} {sb se : SE} {S : En} : sNApp i sb se S = ((sNJ i sb S).bnd fun k S1 => (se S1).bnd fun d S2 => match nst? S2[i]? with
  | some dss => match dss[k]? with
    | some ds => if ds.length < sizeLine then .ok .none (S2.set i (.nst (.ls (dss.set k (ds ++ [d]))))) else .no
    | none => .no
  | none => .no) := rfl
@[simp] theorem r_sNIns {i : Nat} {sb : SE} {sg : SN} {S : En} : sNIns i sb sg S = ((sNJ i sb S).bnd fun k S1 => (sg S1).bnd fun gs S2 => match nst? S2[i]?, gs with
  | some dss, [.int j, d] => match dss[k]? with
    | some ds => if ds.length < sizeLine ∧ 0 ≤ j ∧ j < 2 ^ 63 then .ok .none (S2.set i (.nst (.ls (dss.set k (ds.take j.toNat ++ [d] ++ ds.drop j.toNat))))) else .no
    | none => .no
  | _, _ => .no) := rfl
@[simp] theorem r_sSetNst {i : Nat} {it : SN} {g : GT} {t : STt} {e : SN} {vs : List Nat} {S : En} : sSetNst i it g t e vs S = ((it S).stt fun ds S1 =>
  if (vs.all fun v => (own? S1[v]?).isNone && nn S1[v]?) = true ∧ ds.length < sizeLine then (noEx (lcN g t e vs ds (wipeS vs S1))).stt fun yss S2 => putNst i yss (unwipe vs S1 S2) else .no) := rfl
@[simp] theorem r_sCatN {sa sb : SE} {S : En} : sCatN sa sb S = ((sa S).bnd fun d S1 => (sb S1).bnd fun e S2 => match asL d, asL e with
  | some ds, some es => if ds.length + es.length ≤ sizeLine then .ok (ds ++ es) S2 else .no
  | _, _ => .no) := rfl
@[simp] theorem r_sCatV {i : Nat} {sb : SE} {S : En} : sCatV i sb S = (if (lst? S[i]?).isSome = true then (sb S).bnd fun e S2 => match lst? S2[i]?, asL e with
  | some ds, some es => if ds.length + es.length ≤ sizeLine then .ok (ds ++ es) S2 else .no
  | _, _ => .no
  else .no) := rfl
@[simp] theorem r_sRepN {s1 : SN} {s2 : SE} {S : En} : sRepN s1 s2 S = ((s1 S).bnd fun ds S1 => (noEx (s2 S1)).bnd fun k S2 => match k with
  | .int k => if -(2 ^ 63) ≤ k ∧ k < 2 ^ 63 ∧ ds.length * k.toNat ≤ sizeLine then .ok (List.replicate k.toNat ds).flatten S2 else .no
  | _ => .no) := rfl
@[simp] theorem r_sListS {sr : SN} {S : En} : sListS sr S = ((sr S).bnd fun ds S1 => match ds with
  | [.str x] => if x.cps.size ≤ sizeLine then .ok (signs x) S1 else .no
  | _ => .no) := rfl
@[simp] theorem r_sRng3 {sr : SN} {S : En} : sRng3 sr S = ((sr S).bnd fun ds S1 => R.opt (rng3 ds) S1) := rfl
@[simp] theorem r_sIEnL {sr : SN} {S : En} : sIEnL sr S = ((sr S).bnd fun ds S1 => R.opt (asLE ds) S1) := rfl
@[simp] theorem r_sAnd {ta tb : STt} {S : En} : sAnd ta tb S = ((ta S).bnd fun c S1 => if c = true then tb S1 else .ok false S1) := rfl
@[simp] theorem r_sAndV {ta tb : SE} {S : En} : sAndV ta tb S = ((ta S).bnd fun d S1 => match d with
  | .bool true => tb S1
  | .bool false => .ok (.bool false) S1
  | _ => .no) := rfl
@[simp] theorem r_sOrV {ta tb : SE} {S : En} : sOrV ta tb S = ((ta S).bnd fun d S1 => match d with
  | .bool false => tb S1
  | .bool true => .ok (.bool true) S1
  | _ => .no) := rfl
@[simp] theorem r_sNotV {sa : SE} {S : En} : sNotV sa S = ((sa S).bnd fun d S1 => match d with
  | .bool b => .ok (.bool (!b)) S1
  | _ => .no) := rfl
@[simp] theorem r_sPop {i : Nat} {se : SE} {S : En} : sPop i se S = (if (own? S[i]?).isSome = true then (se S).bnd fun d S1 => match own? S1[i]? with
  | some ds => match popI ds d with
    | some (x, es) => .ok x (upL i es S1)
    | none => .no
  | none => .no
  else .no) := rfl
@[simp] theorem r_gSubI {i : Nat} {sk : SE} {d : PyData} {S : En} : gSubI i sk d S = (match sk S with
  | .ok k S1 => match own? S1[i]? with
    | some ds => match setI ds k d with
      | some es => if (own? S[i]?).isSome = true then .nx (upL i es S1) else .no
      | none => .no
    | none => .no
  | _ => .no) := rfl
@[simp] theorem r_sAug {g : PyData → PyData → Option PyData} {i : Nat} {se : SE} {S : En} : sAug g i se S = (match val? S[i]? with
  | some d => (se S).stt fun e S1 => match g d e with
    | some z => put i (.val z) S1
    | none => .no
  | none => .no) := rfl
end Ds
end
section
set_option Elab.async false
set_option linter.all false
set_option maxRecDepth 100000
set_option maxHeartbeats 4000000
namespace Ds
open PySem PySem.Spec PyProof.Rows L2
section
variable {X : Cx} {W : WX} {C : Cn} {a b c : Expr} {sa sb : SE} {i : Nat}
def gLIx (ds : List PyData) (d : PyData) : Option PyData := if flatD d = true ∧ ds.all flatD = true then (ds.findIdx? fun z => PyData.eqv z d).map fun j => .int (j : Nat) else none
theorem RDs.get2 {K : PySem.W.Frag} {av : Av} {H : Hp} : ∀ {vs : List V} {ds : List PyData} {i : Nat} {v : V}, RDs K av H vs ds → vs[i]? = some v → ∃ d, ds[i]? = some d ∧ RD K av H v d
  | _, _, _, _, .nil, e => by simp at e
  | _, _, 0, _, .cons h _, e => by simp at e; subst e; exact ⟨_, rfl, h⟩
  | _, _, i + 1, _, .cons _ h, e => by
    obtain ⟨v, h1, h2⟩ := RDs.get2 (i := i) h (by simpa using e)
    exact ⟨v, by simpa using h1, h2⟩
theorem lix_run {K : PySem.W.Frag} {av : Av} {H : Hp} {p : Addr} {vs : List V} {ds : List PyData} {v : V} {d z : PyData} {Q : VK} (hl : SqL K H p vs) (rs : RDs K av H vs ds) (rv : RD K av H v d) (g : gLIx ds d = some z) (q : ∀ w, RD K av H w z → Q w H) : rIndex K (.ref p) [v] H Q := by
  unfold gLIx at g
  by_cases f : flatD d = true ∧ ds.all flatD = true
  · rw [if_pos f] at g
    cases e : ds.findIdx? fun z => PyData.eqv z d with
    | none => rw [e] at g; cases g
    | some j =>
      rw [e] at g
      cases g
      obtain ⟨lt, h1, h2⟩ := List.findIdx?_eq_some_iff_getElem.mp e
      have ej := List.getElem?_eq_getElem lt
      obtain ⟨w, h3, h4⟩ := rs.get ej
      have fl : ∀ {y : PyData}, y ∈ ds → flatD y = true := fun h => List.all_eq_true.mp f.2 _ h
      refine ⟨p, vs, v, j, w, rfl, rfl, hl, flat_rd rv f.1, flat_rds rs f.2, h3, ?_, fun m z' hm hz => ?_, q _ (.int _)⟩
      · rw [eqv_rd h4 rv (fl (List.getElem_mem _)) f.1]; exact h1
      · obtain ⟨y, h5, h6⟩ := rs.get2 hz
        obtain ⟨lm, h7⟩ := List.getElem?_eq_some_iff.mp h5
        rw [eqv_rd h6 rv (fl (List.mem_of_getElem? h5)) f.1]
        have := h2 m hm
        rw [h7] at this
        simpa using this
  · rw [if_neg f] at g; cases g
def sLixV (i : Nat) (sb : SE) : SE := fun S => if (lst? S[i]?).isSome = true then (sb S).bind fun d S1 => match lst? S1[i]? with
  | some ds => R.opt (gLIx ds d) S1
  | none => .no
  else .no
theorem e_lixV (hp : ∀ {t : TE}, PE X b t → PE X c (tBM X.K "list" (rIndex X.K) (tVar i) (tCons t tNil))) (hb : PE X b (xE X.K X.mg W C sb)) : PE X c (xE X.K X.mg W C (sLixV i sb)) :=
  pe_imp (hp hb) fun σ H Q ⟨ow, S, r, q⟩ => by
    change pst X.K X.mg W C (relE X.K) ow σ H Q (sLixV i sb S) at q
    unfold sLixV at q
    cases e : lst? S[i]? with
    | none => rw [e] at q; exact q.elim
    | some ds0 =>
      rw [e] at q
      obtain ⟨p, vs, h1, h2, _⟩ := r.list e
      refine ⟨.ref p, h1, .inl ⟨rfl, vs, h2⟩, seq early_E r q fun S1 d v H1 r1 x1 rv k => ?_⟩
      cases e1 : lst? S1[i]? with
      | none => rw [e1] at k; exact k.elim
      | some ds =>
        rw [e1] at k
        obtain ⟨p2, ws, g1, g2, g3⟩ := r1.list e1
        rw [h1] at g1; cases g1
        change pst X.K X.mg W C (relE X.K) ow σ H1 Q (R.opt (gLIx ds d) S1) at k
        cases e2 : gLIx ds d with
        | none => rw [e2] at k; exact k.elim
        | some z =>
          rw [e2] at k
          exact lix_run g2 g3 rv e2 fun w rw' => pst_ok r1 k rw'
def sLixE (sa sb : SE) : SE := fun S => (sa S).bind fun e S1 => match e with
  | .list ds => (sb S1).bind fun d S2 => R.opt (gLIx ds d) S2
  | _ => .no
end
@[simp] theorem r_sLixV {i : Nat} {sb : SE} {S : En} : sLixV i sb S = (if (lst? S[i]?).isSome = true then (sb S).bnd fun d S1 => match lst? S1[i]? with
  | some ds => R.opt (gLIx ds d) S1
  | none => .no
  else .no) := rfl
@[simp] theorem r_sLixE {sa sb : SE} {S : En} : sLixE sa sb S = ((sa S).bnd fun e S1 => match e with
  | .list ds => (sb S1).bnd fun d S2 => R.opt (gLIx ds d) S2
  | _ => .no) := rfl
end Ds
end
section
set_option Elab.async false
set_option linter.all false
set_option maxRecDepth 100000
set_option maxHeartbeats 4000000
namespace Ds
open PySem PySem.Spec PyProof.Rows L2
section
variable {X : Cx} {W : WX} {C : Cn} {pos : Pos} {e tg : Expr} {se : SE} {sr : SN}
def asLT (d : PyData) : Option (List PyData) := match d with
  | .list ds => some ds
  | .tuple ds => some ds
  | _ => none
def sISq (se : SE) : SN := fun S => (se S).bind fun d S1 => R.opt (asLT d) S1
theorem i_seq (h : PE X e (xE X.K X.mg W C se)) : PI X tg e (xI X.K X.mg W C (sISq se)) := by
  have h1 := i_list (tg := tg) (W := W) (C := C) h
  have h2 := i_tup (tg := tg) (W := W) (C := C) h
  refine ⟨fun pins s σ H R I q => ?_⟩
  obtain ⟨ow, S, r, q⟩ := q
  change pst X.K X.mg W C (relI X.K) ow σ H R (sISq se S) at q
  unfold sISq at q
  cases es : se S with
  | no => rw [es] at q; exact q.elim
  | ex c S' =>
    refine h1.run pins s σ H R I ⟨ow, S, r, ?_⟩
    show pst X.K X.mg W C (relI X.K) ow σ H R (sIL se S)
    unfold sIL
    rw [es] at q ⊢
    exact q
  | ok d S' =>
    rw [es, bind_ok] at q
    cases d with
    | list ds =>
      refine h1.run pins s σ H R I ⟨ow, S, r, ?_⟩
      show pst X.K X.mg W C (relI X.K) ow σ H R (sIL se S)
      unfold sIL
      rw [es]
      exact q
    | tuple ds =>
      refine h2.run pins s σ H R I ⟨ow, S, r, ?_⟩
      show pst X.K X.mg W C (relI X.K) ow σ H R (sIT se S)
      unfold sIT
      rw [es]
      exact q
    | _ => exact q.elim
end
@[simp] theorem r_sISq {se : SE} {S : En} : sISq se S = ((se S).bnd fun d S1 => R.opt (asLT d) S1) := rfl
@[simp] theorem r_asLT1 {ds : List PyData} : asLT (.list ds) = some ds := rfl
@[simp] theorem r_asLT2 {ds : List PyData} : asLT (.tuple ds) = some ds := rfl
end Ds
end
section
set_option Elab.async false
set_option linter.all false
set_option maxRecDepth 100000
set_option maxHeartbeats 4000000
namespace Ds
open PySem PySem.Spec PyProof.Rows L2
abbrev mkP (p : Int × Int) : PyData := .tuple [.int p.1, .int p.2]
def prs : List PyData → Option (List (Int × Int))
  | [] => some []
  | .tuple [.int a, .int b] :: ds => (prs ds).map ((a, b) :: ·)
  | _ => none
def leP (p q : Int × Int) : Bool := !SrtO.lexB q p
def srtP (ps : List (Int × Int)) : List (Int × Int) := ps.mergeSort leP
section
variable {X : Cx} {W : WX} {C : Cn} {a b : Expr} {sr : SN} {sa sb : SE} {pos : Pos}
def srtOf : List PyData → Option (List PyData)
  | [.list es] => (prs es).map fun ps => (srtP ps).map mkP
  | _ => none
def sSrtP (sr : SN) : SN := fun S => (sr S).bind fun ds S1 => R.opt (srtOf ds) S1
end
end Ds
end
section
set_option Elab.async false
set_option linter.all false
set_option maxRecDepth 100000
set_option maxHeartbeats 4000000
namespace Ds
open PySem PySem.Spec PyProof.Rows L2
section
variable {X : Cx} {W : WX} {C : Cn} {e : Expr} {es : List Expr} {sa : SE} {sr : SN} {p pos : Pos}
def sStarA (sa : SE) (sr : SN) : SN := fun S => (sa S).bind fun d S1 => match seqOf [d] with
  | some xs => (sr S1).bind fun ds S2 => .ok (xs ++ ds) S2
  | none => .no
@[simp] theorem r_sStarA {S : En} : sStarA sa sr S = ((sa S).bnd fun d S1 => match seqOf [d] with
  | some xs => (sr S1).bnd fun ds S2 => .ok (xs ++ ds) S2
  | none => .no) := rfl
end
end Ds
end
section
set_option Elab.async false
set_option linter.all false
set_option maxRecDepth 100000
set_option maxHeartbeats 4000000
namespace Ds
open PySem PySem.Spec PyProof.Rows L2
structure XC (K : PySem.W.Frag) (mg : Str → Option Value) (x : Str) (A : Addr) : Prop where
  g : mg x = some (.ref A)
  x : PySem.W.excIn K A [.type "ValueError", .type "Exception", .type "BaseException", .type "object"] "ValueError.__new__" = true
  k : PySem.W.keepIn K (.ref A) = true
  b : PySem.W.subIn K (.ref A) (.type "BaseException") = some true
  t : PySem.W.typeIn K (.ref A) = some (.type "type")
def sRaise (c : Str) : SS := fun S => .ex (⟨c, none⟩ : Ec) S
@[simp] theorem r_sRaise {c : Str} {S : En} : sRaise c S = .ex (⟨c, none⟩ : Ec) S := rfl
end Ds
end
section
set_option Elab.async false
set_option linter.all false
set_option maxRecDepth 100000
set_option maxHeartbeats 4000000
namespace Ds
open PySem PySem.Spec PyProof.Rows L2
section
variable {X : Cx} {pins : List (Addr × Obj)} {σ : L2.St} {H : Hp} {s : Shared} {a : Addr} {oe : Obj}
/-- a pinned thing that came after the beginning is told of -/
theorem Inv.tell (I : Inv X ((a, oe) :: pins) σ H s) (n0 : X.s_0.heap.get? a = none) (nC : ∀ v, oe.data ≠ .cell v) (dj : ∀ p ∈ X.pn ++ pins, p.1 ≠ a) : Inv X pins σ (upd H a (kepO a oe)) s := by
  have P := I.pin (a, oe) (by simp)
  obtain ⟨pa, pn, pl, pf, pc⟩ := P
  have pa : s.heap.get? a = some oe := pa
  have pn : H a = none := pn
  have ne0 : ∀ {b : Addr} {o : Obj}, X.s_0.heap.get? b = some o → b ≠ a := fun e q => by rw [q, n0] at e; cases e
  have un : ∀ {b : Addr} {o : HO}, H b = some o → upd H a (kepO a oe) b = some o := fun {b o} e => by
    rw [upd_ne fun q => by rw [q, pn] at e; cases e]; exact e
  refine ⟨I.ok, I.os, I.bare, ⟨fun b o e => I.base.keep b o e, fun b o e => I.base.slot b o e, fun b o e n x => ?_, fun b o e => I.base.there b o e, fun b xs e => un (I.base.tups b xs e), fun b o u e => un (I.base.frzs b o u e), fun b ps e => ?_⟩, I.loc, I.cell, ?_, fun x c e => ?_, fun p hp => ?_, fun b o e => ?_, I.len⟩
  · rw [upd_ne (ne0 e)]; exact I.base.free b o e n x
  · obtain ⟨m, q⟩ := I.base.tbls b ps e
    exact ⟨m, un q⟩
  · rw [upd_ne fun q => pl q.symm]; exact I.free
  · obtain ⟨v, oc, z1, z2⟩ := I.cell x c e
    rw [upd_ne fun q => ?_]
    · exact I.freeC x c e
    · subst q
      rw [pa] at z1
      cases z1
      exact nC v z2
  · obtain ⟨q1, q2, q3, q4, q5⟩ := I.pin p (by
      rw [List.mem_append] at hp
      rcases hp with h | h
      · exact List.mem_append_left _ h
      · exact List.mem_append_right _ (List.mem_cons_of_mem _ h))
    exact ⟨q1, by rw [upd_ne (dj p hp)]; exact q2, q3, q4, q5⟩
  · by_cases ba : b = a
    · subst ba
      rw [upd_same] at e
      cases e
      exact ⟨pa, ⟨oe, pa⟩, fun h1 h2 z k => k _ z⟩
    · rw [upd_ne ba] at e
      refine (I.hok b o e).stay (fun c u _ q => q) (fun c q => un q) fun c xs q => un q
end
end Ds
end
section
set_option Elab.async false
set_option linter.all false
set_option maxRecDepth 100000
set_option maxHeartbeats 4000000
namespace Ds
open PySem PySem.Spec PyProof.Rows L2
def isNil : Option Sl → Bool
  | some .nil => true
  | _ => false
theorem isNil_eq {o : Option Sl} (h : isNil o = true) : o = some .nil := by
  match o, h with
  | some .nil, _ => rfl
/-- a kept error as data -/
def excD (c : Ec) : PyData := match c.f with
  | none => .dict [(.none, .str c.n)]
  | some (f, i) => .dict [(.none, .str c.n), (.str f, .int i)]
@[simp] theorem excD_none {c : Str} : excD ⟨c, none⟩ = .dict [(.none, .str c)] := rfl
@[simp] theorem excD_some {c f : Str} {i : Int} : excD ⟨c, some (f, i)⟩ = .dict [(.none, .str c), (.str f, .int i)] := rfl
theorem rd_excD {K : PySem.W.Frag} {C : Cn} {ow : Ow} {S : En} {σ : L2.St} {H : Hp} {c : Ec} {d : Option Addr} {a E : Addr} {oe : Obj} (r : Rl K C ow S σ H) (hd : ExD C.A0 H c d) (na : H a = none) (m2 : PySem.W.nsIn K mainGlobals c.n = some (some (.ref E))) (hz : L2N.Zn (.ref E) d oe) (hf : ∃ vs, oe.data = .fields vs) (m4 : ExcK K E) : RD K (av C ow) (upd H a (kepO a oe)) (.ref a) (excD c) := by
  obtain ⟨n, f⟩ := c
  cases f with
  | none =>
    obtain rfl : d = none := hd
    exact .exc ⟨oe, E, upd_same, m2, hz, hf, m4⟩ (r.fresh na)
  | some p =>
    obtain ⟨f, i⟩ := p
    obtain ⟨dd, rfl, h2, h3⟩ := hd
    exact .exf ⟨oe, E, upd_same, m2, hz, hf, m4, by rw [upd_ne fun z => by rw [z, na] at h2; cases h2]; exact h2⟩ (r.fresh na) (r.xd h2 h3)
/-- what the module and its classes must say -/
def Caught (K : PySem.W.Frag) (mg : Str → Option Value) (cB : Value) (cs : List Str) : Prop := ∀ c ∈ cs, ∃ D : Addr, mg c = some (.ref D) ∧ PySem.W.nsIn K mainGlobals c = some (some (.ref D)) ∧ PySem.W.exmOne K (.ref D) cB = some true ∧ ExcK K D
end Ds
end
section
set_option Elab.async false
set_option linter.all false
set_option maxRecDepth 100000
set_option maxHeartbeats 4000000
namespace Ds
open PySem PySem.Spec PyProof.Rows L2
def excN : PyData → Option Str
  | .dict ((.none, .str c) :: _) => some c
  | _ => none
def sIsX (f : Str → Option Bool) (sa : SE) : SE := fun S => (sa S).bind fun d S1 => R.opt (((excN d).bind f).map .bool) S1
@[simp] theorem r_sIsX {f : Str → Option Bool} {sa : SE} {S : En} : sIsX f sa S = ((sa S).bnd fun d S1 => R.opt (((excN d).bind f).map .bool) S1) := rfl
@[simp] theorem excN_some {c : Str} {fs : List (PyData × PyData)} : excN (.dict ((.none, .str c) :: fs)) = some c := rfl
end Ds
end
section
set_option Elab.async false
set_option linter.all false
set_option maxRecDepth 100000
set_option maxHeartbeats 4000000
namespace Ds
open PySem PySem.Spec PyProof.Rows L2
/-- the classes whose errors keep a number -/
abbrev fldN : List Str := ["TooMany", "Impossible"]
structure ErrF (K : PySem.W.Frag) (mg : Str → Option Value) (all tst : List Str) (base : Str) : Prop where
  c : ∀ x ∈ all, ∃ E, PySem.W.nsIn K mainGlobals x = some (some (.ref E)) ∧ (mg x = some (.ref E) ∧ (¬ x ∈ fldN → XC K mg x E)) ∧ ExcK K E
  t : ∀ x ∈ tst, ∃ E, mg x = some (.ref E) ∧ ∀ c ∈ all, ∀ D, PySem.W.nsIn K mainGlobals c = some (some (.ref D)) → PySem.W.kitOne K (.ref D) (.ref E) = some (x == base || c == x)
  b : ∃ E, mg base = some (.ref E) ∧ ∀ c ∈ all, ∀ D, PySem.W.nsIn K mainGlobals c = some (some (.ref D)) → PySem.W.exmOne K (.ref D) (.ref E) = some true
  v : ∀ c ∈ all, ∀ D, PySem.W.nsIn K mainGlobals c = some (some (.ref D)) → PySem.W.kitOne K (.ref D) (.type "ValueError") = some true
section
variable {X : Cx} {W : WX} {C : Cn} {all tst : List Str} {base : Str}
theorem ErrF.caught (F : ErrF X.K X.mg all tst base) {E : Addr} (hb : ∀ c ∈ all, ∀ D, PySem.W.nsIn X.K mainGlobals c = some (some (.ref D)) → PySem.W.exmOne X.K (.ref D) (.ref E) = some true) : Caught X.K X.mg (.ref E) all := fun c hc => by
  obtain ⟨D, h1, h2, h3⟩ := F.c c hc
  exact ⟨D, h2.1, h1, hb c hc D h1, h3⟩
variable {a : Expr} {sa : SE} {es : List Expr} {pos : Pos}
end
end Ds
end
section
set_option Elab.async false
set_option linter.all false
set_option maxRecDepth 100000
set_option maxHeartbeats 4000000
namespace Ds
open PySem PySem.Spec PyProof.Rows L2
section
variable {X : Cx} {W : WX} {C : Cn} {a b c : Expr} {sa sb : SE}
def gCnt (ds : List PyData) (d : PyData) : Option PyData := if flatD d = true ∧ ds.all flatD = true then some (.int ((ds.countP fun z => PyData.eqv z d) : Nat)) else none
def sCntE (sa sb : SE) : SE := fun S => (sa S).bind fun e S1 => match e with
  | .list ds => (sb S1).bind fun d S2 => R.opt (gCnt ds d) S2
  | _ => .no
@[simp] theorem r_sCntE {S : En} : sCntE sa sb S = ((sa S).bnd fun e S1 => match e with
  | .list ds => (sb S1).bnd fun d S2 => R.opt (gCnt ds d) S2
  | _ => .no) := rfl
end
end Ds
end
section
set_option Elab.async false
set_option linter.all false
set_option maxRecDepth 100000
set_option maxHeartbeats 4000000
namespace Ds
open PySem PySem.Spec PyProof.Rows L2
section
variable {K : PySem.W.Frag} {D E : Addr} {T : String} {b : Bool}
theorem kit_of_sub (h1 : PySem.W.isClsIn K E = true) (h2 : PySem.W.typeIn K (.ref E) = some (.type "type")) (h3 : PySem.W.subIn K (.ref D) (.ref E) = some b) (h4 : PySem.W.subIn K (.ref E) (.ref E) = some true) : PySem.W.kitOne K (.ref D) (.ref E) = some b := by
  unfold PySem.W.kitOne
  by_cases e : D = E
  · subst e
    rw [h3] at h4
    rw [if_pos (beq_self_eq_true _), h4]
  · have n : ¬ (Value.ref D == Value.ref E) = true := fun z => e (Value.ref.inj (beq_iff_eq.mp z))
    rw [if_neg n]
    unfold PySem.W.kitCls
    have h1' : (PySem.W.clsIn K E).isSome = true := h1
    have c : ((PySem.W.clsIn K E).isSome && PySem.W.typeIn K (.ref E) == some (.type "type")) = true := by rw [h1', h2] <;> rfl
    simp only [c, if_true]
    exact h3
theorem kit_of_ty (hk : PySem.W.kitMeta T = true) (h : PySem.W.subIn K (.ref D) (.type T) = some b) : PySem.W.kitOne K (.ref D) (.type T) = some b := by
  unfold PySem.W.kitOne
  have n : ¬ (Value.ref D == Value.type T) = true := fun z => by
    have e := beq_iff_eq.mp z
    cases e
  rw [if_neg n]
  unfold PySem.W.kitCls
  simp only [hk, if_true]
  exact h
end
end Ds
end
section
set_option Elab.async false
set_option linter.all false
set_option maxRecDepth 100000
set_option maxHeartbeats 4000000
namespace Ds
open PySem PySem.Spec PyProof.Rows L2
def leS (a b : Str) : Bool := !(ltCps b.cps.toList a.cps.toList)
def srtS (xs : List Str) : List Str := xs.mergeSort leS
section
variable {X : Cx} {W : WX} {C : Cn} {a b : Expr} {sr : SN} {sa sb : SE} {pos : Pos}
def srtSOf : List PyData → Option (List PyData)
  | [.list es] => (strsOf es).map fun ss => (srtS ss).map .str
  | [.tuple es] => (strsOf es).map fun ss => (srtS ss).map .str
  | _ => none
def sSrtS (sr : SN) : SN := fun S => (sr S).bind fun ds S1 => R.opt (srtSOf ds) S1
@[simp] theorem r_sSrtS {sr : SN} {S : En} : sSrtS sr S = (sr S).bind fun ds S1 => R.opt (srtSOf ds) S1 := rfl
end
end Ds
end
section
set_option Elab.async false
set_option linter.all false
set_option maxRecDepth 100000
set_option maxHeartbeats 4000000
namespace Ds
open PySem PySem.Spec PyProof.Rows L2
section
variable {X : Cx} {W : WX} {C : Cn} {pos : Pos} {i j : Nat}
def sParVN (i j : Nat) (s1 : SE) (s2 : SN) : SS := fun S => (s1 S).st fun d S1 => (noEx (s2 S1)).st fun es S2 => match put i (.val d) S2 with
  | .nx S3 => put j (.own es) S3
  | _ => .no
theorem s_parVN {e1 e2 : Expr} {s1 : SE} {s2 : SN} {tgs : List Expr} {k2 pt2} (h1 : PE X e1 (xE X.K X.mg W C s1)) (h2 : PE X e2 (xN X.K X.mg W C s2))
    (hp : ∀ {t u : TE}, PE X e1 t → PE X e2 u → PS X (.Assign tgs (.Tuple [e1, e2] k2 pt2) pos) (tPar i j (tCons t (tCons u tNil)))) : PS X (.Assign tgs (.Tuple [e1, e2] k2 pt2) pos) (xS X.K X.mg W C (sParVN i j s1 s2)) :=
  ps_imp (hp h1 h2) fun D σ H ⟨ow, S, r, q⟩ => by
    change sst X.K X.mg W C ow H D ((s1 S).st fun d S1 => (noEx (s2 S1)).st fun es S2 => match put i (.val d) S2 with | .nx S3 => put j (.own es) S3 | _ => .no) at q
    refine ⟨ow, S, r, ?_⟩
    show pst X.K X.mg W C (relE X.K) ow σ H _ (s1 S)
    cases ea : s1 S with
    | no => rw [ea] at q; exact q
    | ex c S' => rw [ea] at q; exact fun H' r' x => q ow σ H' r' x (Grow.refl _ _)
    | ok d S1 =>
      rw [ea] at q
      rintro v H1 r1 x1 rd
      refine ⟨ow, S1, r1, ?_⟩
      show pst X.K X.mg W C (relN X.K) ow σ H1 _ (s2 S1)
      rw [st_ok] at q
      cases eb : s2 S1 with
      | no => rw [eb] at q; exact q
      | ex c S' => rw [eb] at q; exact q.elim
      | ok es S2 =>
        rw [eb, noEx_ok, st_ok] at q
        rintro w H2 r2 x2 ⟨b, ws, Hn, g1, g2, g3, g4, g5, g6⟩
        subst g1
        subst g3
        refine ⟨v, .ref b, rfl, ?_⟩
        unfold put at q
        by_cases hi : noio S2[i]? = true
        · simp only [if_pos hi] at q
          by_cases hj : noio (S2.set i (.val d))[j]? = true
          · simp only [if_pos hj] at q
            have rv := g5.putV hi (RD.mono g4 (Grow.refl _ _) d v rd)
            have lt1 : ∀ a, av C (owSet ow i none) a → av C ow a := fun a z => (av_set z).elim id fun z => by cases z
            have rb := rv.putN (i := j) hj g2 (rds_less g6 lt1)
            have ex : Ext (av C ow) H Hn := x1.trans (Grow.refl _ _) g4
            refine q _ _ _ rb ?_ ?_
            · exact ex.trans (Grow.refl _ _) (Ext.same (same_new g2))
            · exact Grow.trans (Grow.refl _ _) ex ((grow_set fun a z => by cases z).trans (Ext.refl _ _) (grow_set fun c z => by cases z; exact g2))
          · simp only [if_neg hj] at q
            exact q.elim
        · simp only [if_neg hi] at q
          exact q.elim
end
@[simp] theorem r_sParVN {i j : Nat} {s1 : SE} {s2 : SN} {S : En} : sParVN i j s1 s2 S = ((s1 S).stt fun d S1 => (noEx (s2 S1)).stt fun es S2 => match put i (.val d) S2 with
  | .nx S3 => put j (.own es) S3
  | _ => .no) := rfl
end Ds
end
section
set_option Elab.async false
set_option linter.all false
set_option maxRecDepth 100000
set_option maxHeartbeats 4000000
namespace Ds
open PySem PySem.Spec PyProof.Rows L2
section
variable {X : Cx} {W : WX} {C : Cn} {pos : Pos} {e c : Expr} {se : SE} {i : Nat}
def sExtE (i : Nat) (se : SE) : SE := fun S => (se S).bind fun d S1 => match own? S1[i]?, asLT d with
  | some ds, some es => if ds.length + es.length ≤ sizeLine then .ok .none (upL i (ds ++ es) S1) else .no
  | _, _ => .no
def sExt (i : Nat) (se : SE) : SE := fun S => if (own? S[i]?).isSome = true then sExtE i se S else .no
end
@[simp] theorem r_sExt {i : Nat} {se : SE} {S : En} : sExt i se S = if (own? S[i]?).isSome = true then (se S).bnd fun d S1 => match own? S1[i]?, asLT d with
  | some ds, some es => if ds.length + es.length ≤ sizeLine then .ok .none (upL i (ds ++ es) S1) else .no
  | _, _ => .no
  else .no := rfl
end Ds
end
section
set_option Elab.async false
set_option linter.all false
set_option maxRecDepth 100000
set_option maxHeartbeats 4000000
namespace Ds
open PySem PySem.Spec PyProof.Rows L2
def gLSI : PyData → Option PyData
  | .list ds => match intsOf ds with
    | some ns => if ns.Nodup ∧ ns.length ≤ 4000 then some (.int (ns.length : Nat)) else none
    | none => none
  | _ => none
section
variable {X : Cx} {W : WX} {C : Cn} {a : Expr} {sa : SE} {p p2 r pos : Pos}
def sLenSetI (sa : SE) : SE := fun S => (sa S).bind fun d S1 => R.opt (gLSI d) S1
@[simp] theorem r_sLenSetI {sa : SE} {S : En} : sLenSetI sa S = (sa S).bnd fun d S1 => R.opt (gLSI d) S1 := rfl
end
end Ds
end
section
set_option Elab.async false
set_option linter.all false
set_option maxRecDepth 100000
set_option maxHeartbeats 4000000
namespace Ds
open PySem PySem.Spec PyProof.Rows L2
section
variable {X : Cx} {W : WX} {C : Cn} {pos p2 : Pos} {e e2 tg : Expr} {se : SE} {i j : Nat}
def sRetP (se : SE) (j : Nat) : SS := fun S => (se S).st fun d S1 => match own1? S1[j]? with
  | some ds => .rt (.pair d ds) S1
  | none => .no
def sAsgP (i j : Nat) (m : Mf) (sg : SG) : SS := fun S => (sCall m sg S).st fun x S1 => match x with
  | .pair d ds => if noio S1[i]? = true ∧ noio S1[j]? = true ∧ i ≠ j then .nx ((S1.set i (.val d)).set j (.own ds)) else .no
  | _ => .no
variable {x : Str} {p : Pos} {f : Addr} {fd : FuncData} {ps : List Str} {k n : Nat} {m : Mf} {sg : SG} {es : List Expr}
@[simp] theorem r_sRetP {S : En} : sRetP se j S = ((se S).stt fun d S1 => match own1? S1[j]? with
  | some ds => .rt (.pair d ds) S1
  | none => .no) := rfl
@[simp] theorem r_sAsgP {S : En} : sAsgP i j m sg S = ((sCall m sg S).stt fun x S1 => match x with
  | .pair d ds => if noio S1[i]? = true ∧ noio S1[j]? = true ∧ i ≠ j then .nx ((S1.set i (.val d)).set j (.own ds)) else .no
  | _ => .no) := rfl
end
end Ds
end
section
set_option Elab.async false
set_option linter.all false
set_option maxRecDepth 100000
set_option maxHeartbeats 4000000
namespace Ds
open PySem PySem.Spec PyProof.Rows L2
/-- new lists may have grown by n -/
def Mut (H1 : Hp) (n : Nat) (H H' : Hp) : Prop := ∀ a o, H a = some o → H' a = some o ∨ (H1 a = none ∧ ∃ us us', o = .lst us ∧ H' a = some (.lst us') ∧ us'.length ≤ us.length + n)
section
variable {K : PySem.W.Frag} {H1 H H' H2 : Hp} {n m k : Nat}
theorem Mut.refl : Mut H1 n H H := fun _ _ e => .inl e
theorem Mut.trans (a : Mut H1 n H H') (b : Mut H1 m H' H2) : Mut H1 (n + m) H H2 := fun p o e => by
  rcases a p o e with q | ⟨q0, us, us', rfl, q2, q3⟩
  · rcases b p o q with z | ⟨z0, us, us', z1, z2, z3⟩
    · exact .inl z
    · exact .inr ⟨z0, us, us', z1, z2, by omega⟩
  · rcases b p _ q2 with z | ⟨z0, vs, vs', z1, z2, z3⟩
    · exact .inr ⟨q0, us, us', rfl, z, by omega⟩
    · cases z1
      exact .inr ⟨q0, us, vs', rfl, z2, by omega⟩
theorem Mut.mono (a : Mut H1 n H H') (h : n ≤ m) : Mut H1 m H H' := fun p o e => (a p o e).imp id fun ⟨q0, us, us', q1, q2, q3⟩ => ⟨q0, us, us', q1, q2, by omega⟩
theorem Mut.new {p : Addr} {o : HO} (h : H p = none) : Mut H1 n H (upd H p o) := fun a o e => .inl (same_new h a o e)
theorem Mut.put {p : Addr} {us us' : List V} (h : H p = some (.lst us)) (h1 : H1 p = none) (l : us'.length ≤ us.length + n) : Mut H1 n H (upd H p (.lst us')) := fun a o e => by
  by_cases z : a = p
  · subst z
    rw [h] at e
    cases e
    exact .inr ⟨h1, us, us', rfl, upd_same, l⟩
  · exact .inl (by rw [upd_ne z]; exact e)
theorem Mut.tup (a : Mut H1 n H H') {p : Addr} {o : Obj} {xs : List V} (e : H p = some (.frz o (.tup xs))) : H' p = some (.frz o (.tup xs)) := (a p _ e).elim id fun ⟨_, _, _, z, _⟩ => by cases z
end
end Ds
end
section
set_option Elab.async false
set_option linter.all false
set_option maxRecDepth 100000
set_option maxHeartbeats 4000000
namespace Ds
open PySem PySem.Spec PyProof.Rows L2
abbrev mkX (p : Int × PyData) : PyData := .tuple [.int p.1, p.2]
def prsX : List PyData → Option (List (Int × PyData))
  | [] => some []
  | .tuple [.int a, d] :: ds => (prsX ds).map ((a, d) :: ·)
  | _ => none
def leX (p q : Int × PyData) : Bool := decide (p.1 ≤ q.1)
def srtX (ps : List (Int × PyData)) : List (Int × PyData) := ps.mergeSort leX
section
variable {X : Cx} {W : WX} {C : Cn} {a : Expr} {sr : SN} {pos : Pos}
def srtOfX : List PyData → Option (List PyData)
  | [.list es] => match prsX es with
    | some ps => if (ps.map Prod.fst).Nodup then some ((srtX ps).map mkX) else none
    | none => none
  | _ => none
def sSrtX (sr : SN) : SN := fun S => (sr S).bind fun ds S1 => R.opt (srtOfX ds) S1
end
@[simp] theorem r_sSrtX {sr : SN} {S : En} : sSrtX sr S = ((sr S).bnd fun ds S1 => R.opt (srtOfX ds) S1) := rfl
end Ds
end
section
set_option Elab.async false
set_option linter.all false
set_option maxRecDepth 100000
set_option maxHeartbeats 4000000
namespace Ds
open PySem PySem.Spec PyProof.Rows L2
section
variable {X : Cx} {W : WX} {C : Cn} {pos : Pos} {i j l : Nat} {a : Expr} {sa : SE}
def sLstRg (sa : SE) : SN := fun S => (sa S).bind fun d S1 => match d with
  | .int n => if 0 ≤ n ∧ n ≤ 16777216 then .ok (rng 0 n) S1 else .no
  | _ => .no
theorem n_lstRg {p p2 pos2 : Pos} (hc : X.calm = true) (hg : Gl X "list") (hm : X.mg "list" = none) (hg2 : Gl X "range") (hm2 : X.mg "range" = none) (ha : PE X a (xE X.K X.mg W C sa))
    (na : starEach [.Call (.Name "range" p2) [a] [] pos2] X.env = (false, eval (.Call (.Name "range" p2) [a] [] pos2) X.env) :: starEach [] X.env := by rfl) (nb : starEach [a] X.env = (false, eval a X.env) :: starEach [] X.env := by rfl) :
    PE X (.Call (.Name "list" p) [.Call (.Name "range" p2) [a] [] pos2] [] pos) (xN X.K X.mg W C (sLstRg sa)) :=
  pe_imp (pe_listRg hc hg hm (prg_1 hg2 hm2 ha nb) na) fun σ H Q ⟨ow, S, r, q⟩ => seq early_N r q fun S1 d v H1 r1 x1 rd k1 => by
    cases rd with
    | int n =>
      change pst X.K X.mg W C (relN X.K) ow σ H1 Q (if 0 ≤ n ∧ n ≤ 16777216 then .ok (rng 0 n) S1 else .no) at k1
      by_cases c : 0 ≤ n ∧ n ≤ 16777216
      · rw [if_pos c] at k1
        exact ⟨n, rfl, RgOk.of_le (Int.le_refl 0) c.2 (by omega) c.1, fun l nl => pst_same r1 k1 (same_new nl) ⟨l, _, H1, rfl, nl, rfl, Ext.refl _ _, r1, rds_rg n⟩⟩
      · rw [if_neg c] at k1
        exact k1.elim
    | _ => exact k1.elim
def sPar3N (i j l : Nat) (s1 : SE) (s2 s3 : SN) : SS := fun S => (s1 S).st fun d S1 => (noEx (s2 S1)).st fun es S2 => (noEx (s3 S2)).st fun fs S3 => match put i (.val d) S3 with
  | .nx S4 => match put j (.own es) S4 with
    | .nx S5 => put l (.own fs) S5
    | _ => .no
  | _ => .no
end
@[simp] theorem r_sLstRg {sa : SE} {S : En} : sLstRg sa S = ((sa S).bnd fun d S1 => match d with
  | .int n => if 0 ≤ n ∧ n ≤ 16777216 then .ok (rng 0 n) S1 else .no
  | _ => .no) := rfl
@[simp] theorem r_sPar3N {i j l : Nat} {s1 : SE} {s2 s3 : SN} {S : En} : sPar3N i j l s1 s2 s3 S = ((s1 S).stt fun d S1 => (noEx (s2 S1)).stt fun es S2 => (noEx (s3 S2)).stt fun fs S3 => match put i (.val d) S3 with
  | .nx S4 => match put j (.own es) S4 with
    | .nx S5 => put l (.own fs) S5
    | _ => .no
  | _ => .no) := rfl
end Ds
end
section
set_option Elab.async false
set_option linter.all false
set_option maxRecDepth 100000
set_option maxHeartbeats 4000000
namespace Ds
open PySem PySem.Spec PyProof.Rows L2
section
variable {X : Cx} {W : WX} {C : Cn} {pos p : Pos} {e a b tg : Expr} {es : List Expr} {sr : SN} {sa sb : SE}
def rngR (lo hi : Int) : List PyData := (List.range (hi - lo).toNat).map fun k => .int (hi - 1 - (k : Nat))
def sRev1 (sa : SE) : SN := fun S => (sa S).bind fun d S1 => match d with
  | .int j => if 0 ≤ j ∧ smallI j = true then .ok (rngR 0 j) S1 else .no
  | _ => .no
end
@[simp] theorem r_sRev1 {sa : SE} {S : En} : sRev1 sa S = ((sa S).bnd fun d S1 => match d with
  | .int j => if 0 ≤ j ∧ smallI j = true then .ok (rngR 0 j) S1 else .no
  | _ => .no) := rfl
end Ds
end
section
set_option Elab.async false
set_option linter.all false
set_option maxRecDepth 100000
set_option maxHeartbeats 4000000
namespace Ds
open PySem PySem.Spec PyProof.Rows L2
def dct? : Option Sl → Option (List (Key × PyData))
  | some (.nst (.dc kvs)) => some kvs
  | _ => none
def toK : PyData → Option Key
  | .int i => some (.inl i)
  | .str s => some (.inr s)
  | _ => none
def dGet (kvs : List (Key × PyData)) (k : Key) : Option PyData := (kvs.find? fun kv => decide (kv.1 = k)).map (·.2)
def dPut (kvs : List (Key × PyData)) (k : Key) (v : PyData) : List (Key × PyData) :=
  if (kvs.any fun kv => decide (kv.1 = k)) = true then kvs.map (fun kv => if kv.1 = k then (kv.1, v) else kv) else kvs ++ [(k, v)]
def mergeD (kvs more : List (Key × PyData)) : List (Key × PyData) := more.foldl (fun acc kv => dPut acc kv.1 kv.2) kvs
/-- pairs of a key and a value -/
def prsD : List PyData → Option (List (Key × PyData))
  | [] => some []
  | .tuple [k, v] :: ds => match toK k, prsD ds with
    | some k, some r => some ((k, v) :: r)
    | _, _ => none
  | _ => none
section
variable {K : PySem.W.Frag} {av av' : Av} {H H' : Hp}
inductive DkP (K : PySem.W.Frag) (av : Av) (H : Hp) : List (Key × V) → List (Key × PyData) → Prop
  | nil : DkP K av H [] []
  | cons {k : Key} {v : V} {d : PyData} {ks : List (Key × V)} {kvs : List (Key × PyData)} : RD K av H v d → DkP K av H ks kvs → DkP K av H ((k, v) :: ks) ((k, d) :: kvs)
theorem DkP.of : ∀ {ks : List (Key × V)} {kvs : List (Key × PyData)}, DkR K av H ks kvs → DkP K av H ks kvs
  | [], [], _ => .nil
  | [], _ :: _, h => by have := h.key; simp at this
  | _ :: _, [], h => by have := h.key; simp at this
  | (k, v) :: ks, (k2, d) :: kvs, h => by
    have e := h.key
    rw [List.map_cons, List.map_cons] at e
    injection e with e1 e2
    obtain rfl : k = k2 := e1
    have r := h.val
    rw [List.map_cons, List.map_cons] at r
    cases r with
    | cons r1 r2 => exact .cons r1 (DkP.of ⟨e2, r2⟩)
theorem DkP.len : ∀ {ks : List (Key × V)} {kvs : List (Key × PyData)}, DkP K av H ks kvs → ks.length = kvs.length
  | _, _, .nil => rfl
  | _, _, .cons _ t => congrArg (· + 1) t.len
theorem DkP.any {k : Key} : ∀ {ks : List (Key × V)} {kvs : List (Key × PyData)}, DkP K av H ks kvs → (ks.any fun kv => decide (kv.1 = k)) = (kvs.any fun kv => decide (kv.1 = k))
  | _, _, .nil => rfl
  | _, _, .cons _ t => by rw [List.any_cons, List.any_cons, DkP.any t]
theorem DkP.repl {k : Key} {v : V} {d : PyData} (r : RD K av H v d) : ∀ {ks : List (Key × V)} {kvs : List (Key × PyData)}, DkP K av H ks kvs → DkP K av H (ks.map fun kv => if kv.1 = k then (kv.1, v) else kv) (kvs.map fun kv => if kv.1 = k then (kv.1, d) else kv)
  | _, _, .nil => .nil
  | _, _, .cons (k := j) q t => by
    rw [List.map_cons, List.map_cons]
    by_cases e : j = k
    · rw [if_pos e, if_pos e]; exact .cons r (DkP.repl r t)
    · rw [if_neg e, if_neg e]; exact .cons q (DkP.repl r t)
theorem DkP.snoc {k : Key} {v : V} {d : PyData} (r : RD K av H v d) : ∀ {ks : List (Key × V)} {kvs : List (Key × PyData)}, DkP K av H ks kvs → DkP K av H (ks ++ [(k, v)]) (kvs ++ [(k, d)])
  | _, _, .nil => .cons r .nil
  | _, _, .cons q t => .cons q (DkP.snoc r t)
theorem DkP.put {k : Key} {v : V} {d : PyData} {ks : List (Key × V)} {kvs : List (Key × PyData)} (h : DkP K av H ks kvs) (r : RD K av H v d) : DkP K av H (putK ks k v) (dPut kvs k d) := by
  unfold putK dPut
  rw [h.any]
  by_cases e : (kvs.any fun kv => decide (kv.1 = k)) = true
  · rw [if_pos e, if_pos e]; exact h.repl r
  · rw [if_neg e, if_neg e]; exact h.snoc r
theorem DkP.get {k : Key} {d : PyData} : ∀ {ks : List (Key × V)} {kvs : List (Key × PyData)}, DkP K av H ks kvs → dGet kvs k = some d → ∃ v, valV ks k = some v ∧ RD K av H v d
  | _, _, .nil, e => by cases e
  | _, _, .cons (k := j) (v := v) (d := c) (kvs := kvs) q t, e => by
    by_cases z : j = k
    · have : dGet ((j, c) :: kvs) k = some c := by unfold dGet; rw [List.find?_cons_of_pos (by simp [z])]; rfl
      rw [this] at e
      cases e
      exact ⟨v, valV_pos z, q⟩
    · have : dGet ((j, c) :: kvs) k = dGet kvs k := by unfold dGet; rw [List.find?_cons_of_neg (by simp [z])]
      rw [this] at e
      obtain ⟨w, h1, h2⟩ := DkP.get t e
      exact ⟨w, by rw [valV_neg z]; exact h1, h2⟩
end
section
variable {X : Cx} {W : WX} {C : Cn} {pos pos2 : Pos} {i : Nat} {e k : Expr} {se sk : SE} {sn : SN}
def sSetDct (i : Nat) (sn : SN) : SS := fun S => (sn S).st fun ds S1 => match prsD ds with
  | some kvs => if noio S1[i]? = true then .nx (S1.set i (.nst (.dc (mergeD [] kvs)))) else .no
  | none => .no
def sDGt (i : Nat) (sk : SE) : SE := fun S => if (dct? S[i]?).isSome = true then (sk S).bind fun k S1 => R.opt ((dct? S1[i]?).bind fun kvs => (toK k).bind fun κ => dGet kvs κ) S1 else .no
def sDPt (i : Nat) (sk se : SE) : SS := fun S => (se S).st fun d S1 => if (dct? S1[i]?).isSome = true then (sk S1).st fun k S2 => match dct? S2[i]?, toK k with
  | some kvs, some κ => if kvs.length < sizeLine then .nx (S2.set i (.nst (.dc (dPut kvs κ d)))) else .no
  | _, _ => .no
  else .no
/-- list(d) -/
def sDKs (i : Nat) : SN := fun S => match dct? S[i]? with
  | some kvs => .ok (kvs.map fun kv => kD kv.1) S
  | none => .no
/-- list(d.values()) -/
def sDVs (i : Nat) : SN := fun S => match dct? S[i]? with
  | some kvs => .ok (kvs.map (·.2)) S
  | none => .no
end
@[simp] theorem dct?_n {d : List (Key × PyData)} : dct? (some (.nst (.dc d))) = some d := rfl
@[simp] theorem noio_dc {x : Nst} : noio (some (.nst x)) = false := rfl
@[simp] theorem r_sSetDct {i : Nat} {sn : SN} {S : En} : sSetDct i sn S = ((sn S).stt fun ds S1 => match prsD ds with
  | some kvs => if noio S1[i]? = true then .nx (S1.set i (.nst (.dc (mergeD [] kvs)))) else .no
  | none => .no) := rfl
@[simp] theorem r_sDGt {i : Nat} {sk : SE} {S : En} : sDGt i sk S = (if (dct? S[i]?).isSome = true then (sk S).bnd fun k S1 => R.opt ((dct? S1[i]?).bind fun kvs => (toK k).bind fun κ => dGet kvs κ) S1 else .no) := rfl
@[simp] theorem r_sDPt {i : Nat} {sk se : SE} {S : En} : sDPt i sk se S = ((se S).stt fun d S1 => if (dct? S1[i]?).isSome = true then (sk S1).stt fun k S2 => match dct? S2[i]?, toK k with
  | some kvs, some κ => if kvs.length < sizeLine then .nx (S2.set i (.nst (.dc (dPut kvs κ d)))) else .no
  | _, _ => .no
  else .no) := rfl
@[simp] theorem r_sDKs {i : Nat} {S : En} : sDKs i S = (match dct? S[i]? with
  | some kvs => .ok (kvs.map fun kv => kD kv.1) S
  | none => .no) := rfl
@[simp] theorem r_sDVs {i : Nat} {S : En} : sDVs i S = (match dct? S[i]? with
  | some kvs => .ok (kvs.map (·.2)) S
  | none => .no) := rfl
@[simp] theorem toK_int {i : Int} : toK (.int i) = some (.inl i) := rfl
@[simp] theorem toK_str {i : Str} : toK (.str i) = some (.inr i) := rfl
end Ds
end
section
set_option Elab.async false
set_option linter.all false
set_option maxRecDepth 100000
set_option maxHeartbeats 4000000
namespace Ds
open PySem PySem.Spec PyProof.Rows L2
section
variable {X : Cx} {W : WX} {C : Cn} {sa : SE} {a : Expr} {pos : Pos}
def gLSL : PyData → Option PyData
  | .list ds => match strsOf ds with
    | some ys => if ys.length < 2000 then some (.int (dct (pre ys ys.length) : Nat)) else none
    | none => none
  | _ => none
def sLenSetL (sa : SE) : SE := fun S => (sa S).bind fun d S1 => R.opt (gLSL d) S1
end
@[simp] theorem r_sLenSetL {sa : SE} {S : En} : sLenSetL sa S = (sa S).bnd fun d S1 => R.opt (gLSL d) S1 := rfl
end Ds
end
section
set_option Elab.async false
set_option linter.all false
set_option maxRecDepth 100000
set_option maxHeartbeats 4000000
namespace Ds
open PySem PySem.Spec PyProof.Rows L2
section
variable {X : Cx} {W : WX} {C : Cn} {a b c : Expr} {sa sb : SE}
def gCntD (ds : List PyData) (d : PyData) : Option PyData := if okEq d = true ∧ okEq (.list ds) = true then some (.int ((ds.countP fun z => PyData.eqv z d : Nat) : Int)) else none
def sCntD (sa sb : SE) : SE := fun S => (sa S).bind fun e S1 => match e with
  | .list ds => (sb S1).bind fun d S2 => R.opt (gCntD ds d) S2
  | _ => .no
@[simp] theorem r_sCntD {S : En} : sCntD sa sb S = ((sa S).bnd fun e S1 => match e with
  | .list ds => (sb S1).bnd fun d S2 => R.opt (gCntD ds d) S2
  | _ => .no) := rfl
end
end Ds
end
section
set_option Elab.async false
set_option linter.all false
set_option maxRecDepth 100000
set_option maxHeartbeats 4000000
namespace Ds
open PySem PySem.Spec PyProof.Rows L2
section
variable {X : Cx} {W : WX} {C : Cn} {pos : Pos} {i j l : Nat}
def sPar3M (i j l : Nat) (s1 : SE) (s2 : SN) (s3 : SE) : SS := fun S => (s1 S).st fun d S1 => (noEx (s2 S1)).st fun es S2 => (noEx (s3 S2)).st fun f S3 => match put i (.val d) S3 with
  | .nx S4 => match put j (.own es) S4 with
    | .nx S5 => put l (.val f) S5
    | _ => .no
  | _ => .no
end
@[simp] theorem r_sPar3M {i j l : Nat} {s1 : SE} {s2 : SN} {s3 : SE} {S : En} : sPar3M i j l s1 s2 s3 S = ((s1 S).stt fun d S1 => (noEx (s2 S1)).stt fun es S2 => (noEx (s3 S2)).stt fun f S3 => match put i (.val d) S3 with
  | .nx S4 => match put j (.own es) S4 with
    | .nx S5 => put l (.val f) S5
    | _ => .no
  | _ => .no) := rfl
end Ds
end
section
set_option Elab.async false
set_option linter.all false
set_option maxRecDepth 100000
set_option maxHeartbeats 4000000
namespace Ds
open PySem PySem.Spec PyProof.Rows L2
def HotH (A : Around) (H : Hp) : Prop := ∃ (a : Addr) (oe : Obj) (vs : Array Value), A.handled = some (.ref a) ∧ H a = some (kepO a oe) ∧ oe.data = .fields vs ∧ vs[2]? = some .none
def HotS (X : Cx) (C : Cn) : Prop := ∃ (a : Addr) (oe : Obj) (vs : Array Value), X.A.handled = some (.ref a) ∧ C.H0 a = some (kepO a oe) ∧ (∀ i, C.io i ≠ some a) ∧ oe.data = .fields vs ∧ vs[2]? = some .none
theorem HotS.at {X : Cx} {K : PySem.W.Frag} {C : Cn} {ow : Ow} {S : En} {σ : L2.St} {H : Hp} (h : HotS X C) (r : Rl K C ow S σ H) : HotH X.A H := by
  obtain ⟨a, oe, vs, h1, h2, h3, h4⟩ := h
  exact ⟨a, oe, vs, h1, r.ext a _ h2 h3, h4⟩
theorem HotS.plus {X : Cx} {K : PySem.W.Frag} {C : Cn} {ow ow2 : Ow} {S T : En} {σ σ2 : L2.St} {H1 H2 : Hp} {D : Addr} {acc : List V} (h : HotS X C) (r : Rl K C ow S σ H1) (hD : H1 D = none) (r2 : Rl K (C.plus D acc) ow2 T σ2 H2) : HotH X.A H2 := by
  obtain ⟨a, oe, vs, h1, h2, h3, h4⟩ := h
  have e := r.ext a _ h2 h3
  have ne : a ≠ D := fun z => by rw [z, hD] at e; cases e
  refine ⟨a, oe, vs, h1, r2.ext a _ ?_ h3, h4⟩
  show upd C.H0 D (.lst acc) a = _
  rw [upd_ne ne]
  exact h2
theorem HotH.heap {X : Cx} {pins : List (Addr × Obj)} {σ : L2.St} {H : Hp} {s : Shared} (h : HotH X.A H) (I : Inv X pins σ H s) : ∃ a, HotX.HotAt X.A a s.heap := by
  obtain ⟨a, oe, vs, h1, h2, h3, h4⟩ := h
  exact ⟨a, h1, oe, vs, (I.hok a _ h2).1, h3, h4⟩
end Ds
end
section
set_option Elab.async false
set_option linter.all false
set_option maxRecDepth 100000
set_option maxHeartbeats 4000000
namespace Ds
open PySem PySem.Spec PyProof.Rows L2
section
variable {X : Cx} {x n : Str} {c : Value} {i : Nat} {body suite : List Stmt} {b0 : Stmt} {np pos pos2 : Pos} {tb : WX → TS} {ts : Addr → Obj → Value → Option Addr → TS} {Wout : WX}
def wTold (K : PySem.W.Frag) (c : Value) (i : Nat) (ts : Addr → Obj → Value → Option Addr → TS) (Wout : WX) (D : Ends) : WX := fun cls d σ H =>
  ∃ b, PySem.W.exmOne K cls c = some b ∧
    (b = true → ∀ a oe, H a = none → L2N.Zn cls d oe → (∃ vs, oe.data = .fields vs) →
      ts a oe cls d { nx := fun σ2 H2 => D.nx (σ2.set i none) H2, bk := fun σ2 H2 => D.bk (σ2.set i none) H2, ct := fun σ2 H2 => D.ct (σ2.set i none) H2, rt := D.rt } (σ.set i (some (.ref a))) (upd H a (kepO a oe))) ∧
    (b = false → Wout cls d σ H)
theorem ps_try_told (hst : X.stack = X.env :: X.outer) (hfm : X.env.frame = some X.env.locals) (hex : X.ex = []) (hnd : X.N.Nodup) (hix : X.N[i]? = some n) (hlc : X.env.kindOf n = some .local) (hcl : Names X x c) (tk : Takes X Wout)
    (hbd : ∀ (W : WX) (pn : List (Addr × Obj)) (xe : Value → Shared → Prop), Takes (X.tr pn xe) W → PassesOwn (model X.prog X.w) X.A X.env xe → PSs (X.tr pn xe) body (tb W))
    (hsu : ∀ (a : Addr) (oe : Obj) (cls : Value) (d : Option Addr) (pn : List (Addr × Obj)), L2N.Zn cls d oe → (∃ vs, oe.data = .fields vs) → PSs (X.suite a pn) (b0 :: suite) (ts a oe cls d)) :
    PS X (.Try body [.ExceptHandler (some (.Name x np)) (some n) (b0 :: suite) pos2] [] [] pos) (fun D σ H => tb (wTold X.K c i ts Wout D) D σ H) := by
  refine ⟨fun pins s σ H D I h => wpAny_Try_except ?_⟩
  have okX := I.ok
  have frE : X.A.frames = some (X.env :: X.outer) := okX.frames.trans (by rw [hst])
  refine wpAny_mono ((hbd (wTold X.K c i ts Wout D) (X.pn ++ pins)
    (fun e u1 => wpAny (model X.prog X.w) X.A (noteFrame e X.env) (fun _ u2 => wpAny (model X.prog X.w) X.A (setFlight e none) (fun _ u3 => wpAny (model X.prog X.w) X.A
      (handleBy e X.env [.ExceptHandler (some (.Name x np)) (some n) (b0 :: suite) pos2]) (L2.SP X pins D) X.xe u3) X.xe u2) X.xe u1) (fun ev sv air => ?_) PassesOwn.looking).run [] s σ H D (I.toTry _) h) (fun fl t1 got => ?_) (fun _ _ z => z)
  · obtain ⟨a, B, t0, pins', τ, G, cls, d, rfl, JT, keepB, upA, sky, noA, osE, bareE, b, isB, yes, no⟩ := air
    have J : Inv X pins τ G t0 := JT.ofTry okX
    have sky2 : Sky B (X.env :: X.outer) a (L2N.Zn cls d) X.env.locals sv.heap := hst ▸ sky
    show wpAny _ X.A (noteFrame (.ref a) X.env) _ _ _
    refine L2N.Sky.land L2N.Zn.steady frE hfm sky2 fun k3 land3 up3 => ?_
    have J3 : Inv X pins τ G { sv with heap := k3 } := J.landed keepB land3.1 (upA.trans up3) osE bareE
    obtain ⟨o3, w3, get3, zc3, fld3⟩ := land3.there
    have outF : a ∉ frs (X.env :: X.outer) := fun hm => by
      obtain ⟨_, o4, get4, no4⟩ := land3.2.2.1.mem hm
      rw [get3] at get4
      cases get4
      exact no4 _ fld3
    have aL : a ≠ X.env.locals := fun z => outF (List.mem_filterMap.mpr ⟨X.env, by simp, by rw [hfm, z]⟩)
    have aF : a ∉ X.fs := fun hm => by
      obtain ⟨e, me, q⟩ := List.mem_filterMap.mp hm
      exact outF (List.mem_filterMap.mpr ⟨e, by simp [me], q⟩)
    have noB : B.get? a = none := land3.2.1
    have new0 : X.s_0.heap.get? a = none := by
      cases e : X.s_0.heap.get? a with
      | none => rfl
      | some o =>
        obtain ⟨o', e'⟩ := J.base.there a o e (by rw [hex]; simp)
        rw [keepB a o' e' (by rw [hst]; exact outF)] at noB
        cases noB
    have apart : ∀ p ∈ X.pn ++ pins, p.1 ≠ a := fun p hp q => by
      obtain ⟨g1, _⟩ := J.pin p hp
      rw [q] at g1
      rw [keepB a p.2 g1 (by rw [hst]; exact outF)] at noB
      cases noB
    have S3 := J3.suite get3 fld3 noA aL aF
    refine wpAny_handleBy_cons (codeAny_handlers_test ?_) (by intro q; cases q)
    have ty3 : PySem.W.Looks (model X.prog X.w) k3 (typeOf (.ref a)) cls := fun _ _ _ _ k q => wpAny_typeOf_ref (k _ _ get3) (zc3.1 ▸ q)
    have ask : ∀ {Q : Value → Shared → Prop} {E : Value → Shared → Prop}, Q c { sv with heap := k3 } → wpAny (model X.prog X.w) (X.A.mark (some (.ref a))) (eval (.Name x np) X.env) Q E { sv with heap := k3 } := fun {Q E} q => by
      obtain ⟨c1, c2, c3 | ⟨c3, c4, c5⟩⟩ := hcl
      · exact ld_glob (X := X.suite a ((a, o3) :: (X.pn ++ pins))) S3 c1 c3 q c2
      · exact ld_blt (X := X.suite a ((a, o3) :: (X.pn ++ pins))) S3 c1 c3 c4 q c5 c2
    refine ask ((PySem.W.exm_one (M := model X.prog X.w) J3.kIn ty3 isB).here ?_)
    cases b with
    | true =>
      refine codeAny_handlers_suite_as (HandSPX.lands_againZ land3 fun k4 land4 up4 => ?_)
      have J4 : Inv X pins τ G { sv with heap := k4 } := J.landed keepB land4.1 ((upA.trans up3).trans up4) osE bareE
      obtain ⟨o4, w4, get4, zc4, fld4⟩ := land4.there
      -- the suite's context, the error pinned; then it is told of
      have S4 : Inv (X.suite a (X.pn ++ pins)) [(a, o4)] τ G { sv with heap := k4 } := ⟨J4.ok.suite _ _, J4.os, J4.bare, J4.base, J4.loc, J4.cell, J4.free, J4.freeC, fun p hp => by
        rcases List.mem_append.mp hp with h | h
        · exact J4.pin p h
        · obtain rfl : p = (a, o4) := by simpa using h
          exact ⟨get4, noA, aL, aF, fun v z => nomatch (show Data.fields _ = Data.cell v from fld4.symm.trans z)⟩, J4.hok, J4.len⟩
      have T4 : Inv (X.suite a (X.pn ++ pins)) [] τ (upd G a (kepO a o4)) { sv with heap := k4 } := Inv.tell (X := X.suite a (X.pn ++ pins)) (pins := []) S4 new0 (fun v q => by rw [fld4] at q; cases q) fun p hp => apart p (by rw [List.append_nil] at hp; exact hp)
      refine store_ok (X := X.suite a (X.pn ++ pins)) (v := .ref a) T4 hnd hix (.inl hlc) rfl (fun t5 S5 => ?_) (.inr hlc)
      refine wpAny_mono ((hsu a o4 cls d (X.pn ++ pins) zc4 ⟨_, fld4⟩).run [] t5 _ _ _ S5 (yes rfl a o4 noA zc4 ⟨_, fld4⟩)) (fun fl t6 got => ?_) (fun _ _ z => z.elim)
      have home : ∀ {τ6 : L2.St} {G6 : Hp} {t : Shared}, Inv (X.suite a (X.pn ++ pins)) [] τ6 G6 t → Inv X pins τ6 G6 t := fun {τ6 G6 t} S6 => ⟨okX, S6.os, S6.bare, S6.base, S6.loc, S6.cell, S6.free, S6.freeC, fun p hp => S6.pin p (by rw [List.append_nil]; exact hp), S6.hok, S6.len⟩
      match fl, got with
      | .next, ⟨τ6, G6, S6, w6⟩ => exact gone_ok (home S6) hnd hix hlc fun t7 J7 => ⟨_, _, J7, w6⟩
      | .brk, ⟨τ6, G6, S6, w6⟩ => exact gone_ok (home S6) hnd hix hlc fun t7 J7 => ⟨_, _, J7, w6⟩
      | .cont, ⟨τ6, G6, S6, w6⟩ => exact gone_ok (home S6) hnd hix hlc fun t7 J7 => ⟨_, _, J7, w6⟩
      | .ret u, ⟨v6, τ6, G6, S6, r6, w6⟩ => exact gone_ok (home S6) hnd hix hlc fun t7 J7 => ⟨_, _, _, J7, r6, w6⟩
    | false =>
      show wpAny _ X.A (handleBy (.ref a) X.env []) _ _ _
      refine wpAny_handleBy_nil ?_
      obtain ⟨_, _, _, o5, w5, T5, oT5, l5, get5, zc5, fld5, at5, _⟩ := id land3
      unfold PySem.passOn
      refine wpAny_bind (wpAny_field get5 fld5 at5 ?_)
      rw [if_neg (by simp : ¬ ((Value.ref T5 == Value.none) = true))]
      have goOn : wpAny (model X.prog X.w) X.A (setFlight (.ref a) X.env.frame) (fun _ t4 => wpAny (model X.prog X.w) X.A (throw (.ref a) : Sem Flow) (L2.SP X pins D) X.xe t4) X.xe { sv with heap := k3 } := by
        rw [hfm]
        refine HandSPX.setFlight_upZ land3 fun k4 held4 up4 => wpAny_throw (tk _ _ ?_)
        exact ⟨a, B, t0, pins, τ, G, cls, d, rfl, J, keepB, (upA.trans up3).trans up4, .inr (.inr (hst ▸ held4)), noA, osE, bareE, no rfl⟩
      first
        | exact wpAny_bind (wpAny_pure (wpAny_bind goOn))
        | exact wpAny_bind goOn
  · cases fl with
    | next => exact let ⟨τ, G, J, q⟩ := got; wpAny_execs_nil ⟨τ, G, J.ofTry okX, q⟩
    | brk => exact let ⟨τ, G, J, q⟩ := got; ⟨τ, G, J.ofTry okX, q⟩
    | cont => exact let ⟨τ, G, J, q⟩ := got; ⟨τ, G, J.ofTry okX, q⟩
    | ret u => exact let ⟨v, τ, G, J, r, q⟩ := got; ⟨v, τ, G, J.ofTry okX, r, q⟩
end
end Ds
end
section
set_option Elab.async false
set_option linter.all false
set_option maxRecDepth 100000
set_option maxHeartbeats 4000000
namespace Ds
open PySem PySem.Spec PyProof.Rows L2
def xSu (K : PySem.W.Frag) (mg : Str → Option Value) (C : Cn) (i : Nat) (a : Addr) (oe : Obj) (s : SS) : TS := fun D σ H =>
  ∃ ow S, Rl K C ow S σ H ∧ H a = some (kepO a oe) ∧ σ[i]? = some (some (.ref a)) ∧ sst K mg W0 C ow H D (s S)
def clr : Option Sl → Bool
  | some (.val _) => true
  | some .nil => true
  | _ => false
theorem clr_eq {o : Option Sl} (h : clr o = true) : own? o = none ∧ nn o = true := by
  match o, h with
  | some (.val _), _ => exact ⟨rfl, rfl⟩
  | some .nil, _ => exact ⟨rfl, rfl⟩
def suEnd (i : Nat) : RS → RS
  | .nx T => if clr T[i]? = true then .nx (T.set i .nil) else .no
  | .rt r T => .rt r T
  | _ => .no
def sTryS (cs : List Str) (i : Nat) (s u : SS) : SS := fun S => match s S with
  | .ex c S' => if c.n ∈ cs ∧ isNil S'[i]? = true then suEnd i (u (S'.set i (.val (excD c)))) else .no
  | r => r
section
variable {X : Cx} {W : WX} {C : Cn} {x n : Str} {cB : Value} {i : Nat} {body suite : List Stmt} {b0 : Stmt} {np pos pos2 : Pos} {s u : SS} {cs : List Str}
theorem s_tryS (hT : Caught X.K X.mg cB cs) (hst : X.stack = X.env :: X.outer) (hfm : X.env.frame = some X.env.locals) (hex : X.ex = []) (hnd : X.N.Nodup) (hix : X.N[i]? = some n) (hlc : X.env.kindOf n = some .local) (hcl : Names X x cB) (tk : Takes X W)
    (hbd : ∀ (W : WX) (pn : List (Addr × Obj)) (xe : Value → Shared → Prop), Takes (X.tr pn xe) W → PSs (X.tr pn xe) body (xS X.K X.mg W C s))
    (hsu : ∀ (a : Addr) (oe : Obj) (pn : List (Addr × Obj)), PXN.CtxN oe → (∃ vs, oe.data = .fields vs) → PSs (X.suite a pn) (b0 :: suite) (xSu X.K X.mg C i a oe u)) :
    PS X (.Try body [.ExceptHandler (some (.Name x np)) (some n) (b0 :: suite) pos2] [] [] pos) (xS X.K X.mg W C (sTryS cs i s u)) :=
  ps_imp (ps_try_told (tb := fun W => xS X.K X.mg W C s) (ts := fun a oe _ _ => xSu X.K X.mg C i a oe u) hst hfm hex hnd hix hlc hcl tk (fun W pn xe t _ => hbd W pn xe t) fun a oe cls d pn z f => hsu a oe pn z.2.2 f) fun D σ H ⟨ow, S, r, q⟩ => by
    refine ⟨ow, S, r, ?_⟩
    change sst X.K X.mg W C ow H D (match s S with
      | .ex c S' => if c.n ∈ cs ∧ isNil S'[i]? = true then suEnd i (u (S'.set i (.val (excD c)))) else .no
      | r => r) at q
    cases e : s S with
    | nx S' => rw [e] at q; exact q
    | rt v S' => rw [e] at q; exact q
    | bk S' => rw [e] at q; exact q
    | ct S' => rw [e] at q; exact q
    | no => rw [e] at q; exact q
    | ex c S' =>
      rw [e] at q
      have q1 : sst X.K X.mg W C ow H D (if c.n ∈ cs ∧ isNil S'[i]? = true then suEnd i (u (S'.set i (.val (excD c)))) else .no) := q
      intro ow' σ' H' r1 x1 g1 d0 hd0
      by_cases z : c.n ∈ cs ∧ isNil S'[i]? = true
      · rw [if_pos z] at q1
        obtain ⟨z1, z3⟩ := z
        obtain ⟨E, m1, m2, m3, m4⟩ := hT c.n z1
        have ec : clOf X.mg c.n = .ref E := by unfold clOf; rw [m1]; rfl
        have hi := isNil_eq z3
        rw [ec]
        refine ⟨true, m3, fun _ a oe na hz hf => ?_, fun w => by cases w⟩
        have il : i < σ'.length := by
          rw [← r1.len]
          exact (List.getElem?_eq_some_iff.mp hi).1
        have rd : RD X.K (av C ow') (upd H' a (kepO a oe)) (.ref a) (excD c) := rd_excD r1 hd0 na m2 hz hf m4
        have r2 := (r1.same (same_new (o := kepO a oe) na)).putV (i := i) (by rw [hi]; rfl) rd
        have x2 : Ext (av C ow) H (upd H' a (kepO a oe)) := x1.trans (Grow.refl _ _) (Ext.same (same_new na))
        have g2 : Grow (av C ow) (av C (owSet ow' i none)) H := fun b w => g1 b (by
          rcases w with w | ⟨j, w⟩
          · exact .inl w
          · unfold owSet at w
            by_cases hj : j = i
            · rw [if_pos hj] at w; cases w
            · rw [if_neg hj] at w; exact .inr ⟨j, w⟩)
        refine ⟨_, _, r2, upd_same, List.getElem?_set_self il, ?_⟩
        have q2 := sst_from x2 g2 q1
        cases eu : u (S'.set i (.val (excD c))) with
        | nx T =>
          rw [eu] at q2
          change sst X.K X.mg W C _ _ D (if clr T[i]? = true then .nx (T.set i .nil) else .no) at q2
          by_cases hc : clr T[i]? = true
          · rw [if_pos hc] at q2
            obtain ⟨c1, c2⟩ := clr_eq hc
            exact fun ow3 σ3 H3 r3 x3 g3 => q2 ow3 _ H3 (r3.wipe1 c1 c2) x3 g3
          · rw [if_neg hc] at q2; exact q2.elim
        | rt v T => rw [eu] at q2; exact q2
        | bk T => rw [eu] at q2; exact q2.elim
        | ct T => rw [eu] at q2; exact q2.elim
        | ex d T => rw [eu] at q2; exact q2.elim
        | no => rw [eu] at q2; exact q2.elim
      · rw [if_neg z] at q1
        exact q1.elim
variable {all tst : List Str} {base : Str}
theorem s_trySF (F : ErrF X.K X.mg all tst base) (hst : X.stack = X.env :: X.outer) (hfm : X.env.frame = some X.env.locals) (hex : X.ex = []) (hnd : X.N.Nodup) (hix : X.N[i]? = some n) (hlc : X.env.kindOf n = some .local) (hg : Gl X base) (hdb : (base == ("__debug__" : Str)) = false) (tk : Takes X W)
    (hbd : ∀ (W : WX) (pn : List (Addr × Obj)) (xe : Value → Shared → Prop), Takes (X.tr pn xe) W → PSs (X.tr pn xe) body (xS X.K X.mg W C s))
    (hsu : ∀ (a : Addr) (oe : Obj) (pn : List (Addr × Obj)), PXN.CtxN oe → (∃ vs, oe.data = .fields vs) → PSs (X.suite a pn) (b0 :: suite) (xSu X.K X.mg C i a oe u)) :
    PS X (.Try body [.ExceptHandler (some (.Name base np)) (some n) (b0 :: suite) pos2] [] [] pos) (xS X.K X.mg W C (sTryS all i s u)) := by
  obtain ⟨E, h1, h2⟩ := F.b
  exact s_tryS (F.caught h2) hst hfm hex hnd hix hlc ⟨hg, hdb, .inl h1⟩ tk hbd hsu
end
end Ds
end
section
set_option Elab.async false
set_option linter.all false
set_option maxRecDepth 100000
set_option maxHeartbeats 4000000
namespace Ds
open PySem PySem.Spec PyProof.Rows L2
def sJoinT (sa sb : SE) : SE := fun S => (sa S).bind fun d S1 => match d with
  | .str s => (sb S1).bind fun e S2 => (match e with
    | .tuple ds => R.opt (gJoin (.str s) ds) S2
    | _ => .no)
  | _ => .no
@[simp] theorem r_sJoinT {sa sb : SE} {S : En} : sJoinT sa sb S = ((sa S).bnd fun d S1 => match d with
  | .str s => (sb S1).bnd fun e S2 => (match e with
    | .tuple ds => R.opt (gJoin (.str s) ds) S2
    | _ => .no)
  | _ => .no) := rfl
end Ds
end
section
set_option Elab.async false
set_option linter.all false
set_option maxRecDepth 100000
set_option maxHeartbeats 4000000
namespace Ds
open PySem PySem.Spec PyProof.Rows L2
section
variable {prog : Program} {w : World} {A : Around} {E : Value → Shared → Prop} {s : Shared}
variable {z P O T i j a b : Addr} {f : Bool} {ob : Obj} {n m : Nat} {us vs : Array Value} {u v : Value}
/-- the pairs made so far -/
structure ZG (us vs : Array Value) (S : Addr) (h : Heap) (ts : List Addr) : Prop where
  rise : ts.Pairwise (· < ·)
  above : ∀ t ∈ ts, S < t
  pair : ∀ (n : Nat) (t : Addr), ts[n]? = some t → ∃ u v, us[n]? = some u ∧ vs[n]? = some v ∧ IsPair h t u v
/-- the zip between two turns -/
structure ZS (z P O i j a b S : Addr) (us vs : Array Value) (n : Nat) (h : Heap) : Prop where
  zip : (n = 0 ∧ IsZip h z P O .none ∧ ∃ x y, IsPair h O x y) ∨ ∃ T f ob, IsZipHeld h z P O T f ∧ h.get? T = some ob ∧ S < T
  its : IsPair h P (.ref i) (.ref j)
  one : h.IsTupleIter i a n
  two : h.IsTupleIter j b n
  ta : h.IsTuple a us
  tb : h.IsTuple b vs
/-- what stands below the list being made -/
structure ZB (z P O i j a b S : Addr) : Prop where
  D : ZipApart z P O i j a b
  z : z < S
  P : P < S
  O : O < S
  i : i < S
  j : j < S
  a : a < S
  b : b < S
theorem ZS.keep {S : Addr} {h h' : Heap} (B : ZB z P O i j a b S) (x : ZS z P O i j a b S us vs n h) (k : ∀ c o, c ≠ S → h.get? c = some o → h'.get? c = some o) : ZS z P O i j a b S us vs n h' where
  zip := x.zip.elim (fun ⟨e, q, p1, p2, q2⟩ => .inl ⟨e, k _ _ (Nat.ne_of_lt B.z) q, p1, p2, k _ _ (Nat.ne_of_lt B.O) q2⟩) fun ⟨T, f, ob, q1, q2, q3⟩ => .inr ⟨T, f, ob, k _ _ (Nat.ne_of_lt B.z) q1, k _ _ (Nat.ne_of_gt q3) q2, q3⟩
  its := k _ _ (Nat.ne_of_lt B.P) x.its
  one := x.one.at fun o e => k _ _ (Nat.ne_of_lt B.i) e
  two := x.two.at fun o e => k _ _ (Nat.ne_of_lt B.j) e
  ta := x.ta.at fun o e => k _ _ (Nat.ne_of_lt B.a) e
  tb := x.tb.at fun o e => k _ _ (Nat.ne_of_lt B.b) e
theorem ZG.there {S : Addr} {h : Heap} {ts : List Addr} (g : ZG us vs S h ts) {t : Addr} (m : t ∈ ts) : t < h.objs.size := by
  obtain ⟨n, e⟩ := List.mem_iff_getElem?.mp m
  obtain ⟨_, _, _, _, q⟩ := g.pair n t e
  exact Heap.lt_size q
theorem ZG.keep {S : Addr} {h h' : Heap} {ts : List Addr} (g : ZG us vs S h ts) (k : ∀ c o, S < c → h.get? c = some o → h'.get? c = some o) : ZG us vs S h' ts :=
  ⟨g.rise, g.above, fun n t e => by
    obtain ⟨u, v, q1, q2, q3⟩ := g.pair n t e
    exact ⟨u, v, q1, q2, k _ _ (g.above t (List.mem_of_getElem? e)) q3⟩⟩
theorem ZG.more {S : Addr} {h : Heap} {ts : List Addr} {t : Addr} (g : ZG us vs S h ts) (lt : ∀ x ∈ ts, x < t) (hS : S < t) (eu : us[ts.length]? = some u) (ev : vs[ts.length]? = some v) (np : IsPair h t u v) : ZG us vs S h (ts ++ [t]) := by
  refine ⟨List.pairwise_append.mpr ⟨g.rise, List.pairwise_singleton _ _, fun x hx y hy => ?_⟩, fun x hx => ?_, fun n x e => ?_⟩
  · rw [List.mem_singleton.mp hy]
    exact lt x hx
  · rcases List.mem_append.mp hx with hx | hx
    · exact g.above x hx
    · rw [List.mem_singleton.mp hx]
      exact hS
  · rcases Nat.lt_trichotomy n ts.length with q | q | q
    · rw [List.getElem?_append_left q] at e
      exact g.pair n x e
    · subst q
      have e2 : t = x := by simpa using e
      subst e2
      exact ⟨u, v, eu, ev, np⟩
    · rw [List.getElem?_eq_none (by rw [List.length_append, List.length_singleton]; omega)] at e
      cases e
end
section
variable {X : Cx}
def zipD (ds es : List PyData) : List PyData := List.zipWith (fun d e => .tuple [d, e]) ds es
def sLstZip (sr : SN) : SN := fun S => (sr S).bind fun ds S1 => match ds with
  | [.tuple xs, .tuple ys] => if xs.length = ys.length then .ok (zipD xs ys) S1 else .no
  | _ => .no
end
@[simp] theorem r_sLstZip {sr : SN} {S : En} : sLstZip sr S = ((sr S).bnd fun ds S1 => match ds with
  | [.tuple xs, .tuple ys] => if xs.length = ys.length then .ok (zipD xs ys) S1 else .no
  | _ => .no) := rfl
end Ds
end
section
set_option Elab.async false
set_option linter.all false
set_option maxRecDepth 100000
set_option maxHeartbeats 4000000
namespace Ds
open PySem PySem.Spec PyProof.Rows L2
section
variable {X : Cx} {W : WX} {C : Cn} {a e : Expr} {apos cpos : Pos} {td ty : TE} {i : Nat} {sk : SE}
def sDGetN (i : Nat) (sk : SE) : SE := fun S => if (dct? S[i]?).isSome = true then (sk S).bind fun k S1 => match k with
  | .none => if (dct? S1[i]?).isSome = true then .ok .none S1 else .no
  | k => R.opt ((dct? S1[i]?).bind fun kvs => (toK k).bind fun κ => dGet kvs κ) S1
  else .no
end
@[simp] theorem r_sDGetN {i : Nat} {sk : SE} {S : En} : sDGetN i sk S = (if (dct? S[i]?).isSome = true then (sk S).bnd fun k S1 => match k with
  | .none => if (dct? S1[i]?).isSome = true then .ok .none S1 else .no
  | k => R.opt ((dct? S1[i]?).bind fun kvs => (toK k).bind fun κ => dGet kvs κ) S1
  else .no) := rfl
end Ds
end
section
set_option Elab.async false
set_option linter.all false
set_option maxRecDepth 100000
set_option maxHeartbeats 4000000
namespace Ds
open PySem PySem.Spec PyProof.Rows L2
section
variable {K : PySem.W.Frag}
def gLenS : List PyData → Option PyData
  | [.dict [(.bool true, .list ds)]] => some (.int ds.length)
  | ds => gLen ds
theorem cd_lenS : CallD K (rLenD K) gLenS := fun av H xs ds z Q tr r g q => by
  cases r with
  | nil => cases g
  | cons h t =>
    cases t with
    | nil =>
      cases h with
      | @scr a ns h1 =>
        change some (PyData.int (((ns.map PyData.int).length : Nat) : Int)) = some z at g
        cases g
        refine ⟨_, _, rfl, .inl ⟨_, h1.sq, rfl⟩, ?_⟩
        rw [List.length_map]
        have q' := q (.int ((ns.map PyData.int).length : Nat)) H (Same.refl H) (.int _)
        rw [List.length_map] at q'
        exact q'
      | non => exact cd_len av H _ _ z Q tr (.cons .non .nil) g q
      | bl b => exact cd_len av H _ _ z Q tr (.cons (.bl b) .nil) g q
      | int i => exact cd_len av H _ _ z Q tr (.cons (.int i) .nil) g q
      | str x => exact cd_len av H _ _ z Q tr (.cons (.str x) .nil) g q
      | lst a b => exact cd_len av H _ _ z Q tr (.cons (.lst a b) .nil) g q
      | tup a b => exact cd_len av H _ _ z Q tr (.cons (.tup a b) .nil) g q
      | dic a b => cases g
      | exc a b => cases g
      | exf a b c => cases g
      | dct _ _ _ _ _ _ => cases g
    | cons h2 t2 =>
      have : gLenS = gLenS := rfl
      cases h <;> cases g
def gIxS : PyData → PyData → Option PyData
  | .dict [(.bool true, .list ds)], .int i => atI ds i
  | a, b => gIx a b
theorem od_ixS : OpD K (rIx K) gIxS := fun av H x y d e z Q tr rx ry g q => by
  cases rx with
  | @scr a ns h1 =>
    cases ry with
    | int i =>
      obtain ⟨v, e1, e2⟩ := (RDs.mkInts (K := K) (av := av) (H := H) ns).atI (i := i) g
      exact .inl ⟨a, _, i, v, rfl, rfl, h1.sq, e1, q v H (Same.refl H) e2⟩
    | _ => cases g
  | non => exact od_ix av H _ _ _ _ z Q tr .non ry g q
  | bl b => exact od_ix av H _ _ _ _ z Q tr (.bl b) ry g q
  | int i => exact od_ix av H _ _ _ _ z Q tr (.int i) ry g q
  | str x => exact od_ix av H _ _ _ _ z Q tr (.str x) ry g q
  | lst a b => exact od_ix av H _ _ _ _ z Q tr (.lst a b) ry g q
  | tup a b => exact od_ix av H _ _ _ _ z Q tr (.tup a b) ry g q
  | dic a b => cases ry <;> cases g
  | exc a b => cases ry <;> cases g
  | exf a b c => cases ry <;> cases g
  | dct _ _ _ _ _ _ => cases ry <;> cases g
end
@[simp] theorem g_lenScr {ds : List PyData} : gLenS [.dict [(.bool true, .list ds)]] = some (.int ds.length) := rfl
@[simp] theorem g_ixScr {ds : List PyData} {i : Int} : gIxS (.dict [(.bool true, .list ds)]) (.int i) = atI ds i := rfl
end Ds
end
section
set_option Elab.async false
set_option linter.all false
set_option maxRecDepth 100000
set_option maxHeartbeats 4000000
namespace Ds
open PySem PySem.Spec PyProof.Rows L2
section
variable {X : Cx} {W : WX} {C : Cn} {sa sb : SE} {a b : Expr} {pos : Pos}
def sTct (sa sb : SE) : SE := fun S => (sa S).bind fun d S1 => match d with
  | .tuple ds => (sb S1).bind fun e S2 => R.opt (gCnt ds e) S2
  | _ => .no
@[simp] theorem r_sTct {S : En} : sTct sa sb S = ((sa S).bnd fun d S1 => match d with
  | .tuple ds => (sb S1).bnd fun e S2 => R.opt (gCnt ds e) S2
  | _ => .no) := rfl
end
end Ds
end
section
set_option Elab.async false
set_option linter.all false
set_option maxRecDepth 100000
set_option maxHeartbeats 4000000
namespace Ds
open PySem PySem.Spec PyProof.Rows L2
section
variable {X : Cx} {W : WX} {C : Cn} {sa sb : SN} {ta : STt} {a b c : Expr} {pos : Pos}
def sIfN (t : STt) (sa sb : SN) : SN := fun S => (t S).bind fun c S1 => if c = true then sa S1 else sb S1
@[simp] theorem r_sIfN {S : En} : sIfN ta sa sb S = ((ta S).bnd fun c S1 => if c = true then sa S1 else sb S1) := rfl
end
end Ds
end
section
set_option Elab.async false
set_option linter.all false
set_option maxRecDepth 100000
set_option maxHeartbeats 4000000
namespace Ds
open PySem PySem.Spec PyProof.Rows L2
def lexS : List Str → List Str → Bool
  | [], ys => !ys.isEmpty
  | _ :: _, [] => false
  | x :: xs, y :: ys => if x = y then lexS xs ys else !leS y x
def leQ (a b : List Str) : Bool := !lexS b a
def srtQ (ps : List (List Str)) : List (List Str) := ps.mergeSort leQ
end Ds
end
section
set_option Elab.async false
set_option linter.all false
set_option maxRecDepth 100000
set_option maxHeartbeats 4000000
namespace Ds
open PySem PySem.Spec PyProof.Rows L2
abbrev mkQ (p : List Str) : PyData := .tuple (p.map .str)
def prsQ : List PyData → Option (List (List Str))
  | [] => some []
  | .tuple es :: ds => match strsOf es with
    | some p => (prsQ ds).map (p :: ·)
    | none => none
  | _ => none
section
variable {X : Cx} {W : WX} {C : Cn} {a : Expr} {sr : SN} {pos : Pos}
def srtOfQ : List PyData → Option (List PyData)
  | [.list es] => match prsQ es with
    | some ps => if ps.all (fun p => !p.isEmpty) then some ((srtQ ps).map mkQ) else none
    | none => none
  | _ => none
def sSrtQ (sr : SN) : SN := fun S => (sr S).bind fun ds S1 => R.opt (srtOfQ ds) S1
end
@[simp] theorem r_sSrtQ {sr : SN} {S : En} : sSrtQ sr S = ((sr S).bnd fun ds S1 => R.opt (srtOfQ ds) S1) := rfl
end Ds
end
section
set_option Elab.async false
set_option linter.all false
set_option maxRecDepth 100000
set_option maxHeartbeats 4000000
namespace Ds
open PySem PySem.Spec PyProof.Rows L2
section
variable {X : Cx} {W : WX} {C : Cn} {e e2 : Expr} {pos : Pos}
/-- zip, as data -/
def zipM (ds es : List PyData) : List PyData := ds.zipWith (fun d e => .tuple [d, e]) es
def asZL : List PyData → Option (List PyData)
  | [.list ds, .list es] => some (zipM ds es)
  | _ => none
def sIZL (sr : SN) : SN := fun S => (sr S).bind fun ds S1 => R.opt (asZL ds) S1
end
@[simp] theorem r_sIZL {sr : SN} {S : En} : sIZL sr S = ((sr S).bnd fun ds S1 => R.opt (asZL ds) S1) := rfl
end Ds
end
section
set_option Elab.async false
set_option linter.all false
set_option maxRecDepth 100000
set_option maxHeartbeats 4000000
namespace Ds
open PySem PySem.Spec PyProof.Rows L2
section
variable {X : Cx} {W : WX} {C : Cn} {a : Expr} {sl : SN} {pos : Pos}
def sListL (sl : SN) : SN := fun S => (sl S).bind fun ds S1 => .ok ds S1
end
@[simp] theorem r_sListL {sl : SN} {S : En} : sListL sl S = ((sl S).bnd fun ds S1 => .ok ds S1) := rfl
end Ds
end
section
set_option Elab.async false
set_option linter.all false
set_option maxRecDepth 100000
set_option maxHeartbeats 4000000
namespace Ds
open PySem PySem.Spec PyProof.Rows L2
def rTupSt : List V → Hp → VK → Prop := fun xs H Q => ∃ x : Str, xs = [.str x] ∧ x.cps.size ≤ sizeLine ∧ NT H (x.cps.toList.map fun c => V.str ⟨#[c]⟩) Q
theorem call_tupSt {X : Cx} (hc : X.calm = true) : CallR X (.type "tuple") rTupSt := by
  intro pins s σ H xs us Q I r h
  obtain ⟨x, rfl, hz, q⟩ := h
  obtain ⟨u, rfl, t, rfl⟩ := vals1 r
  refine call_tuple_str (I.ok.hd hc) x t (fun h' tk acc kp hi => ?_) hz
  have := q.run (tk := tk) (s := { s with heap := h' }) (I.kept (t' := s.toks) kp) (vals_signs hi) (by rw [List.length_map, Array.length_toList]; exact hz)
  rw [Array.toArray_toList] at this
  exact this
def gTupSt : List PyData → Option PyData
  | [.str x] => if x.cps.size ≤ sizeLine then some (.tuple (signs x)) else none
  | _ => none
theorem cd_tupSt {K : PySem.W.Frag} : CallD K rTupSt gTupSt := fun av H xs ds z Q tr r g q => by
  match ds, r, g with
  | [.str x], .cons (.str _) .nil, g =>
    by_cases h : x.cps.size ≤ sizeLine
    · have e : PyData.tuple (signs x) = z := by simpa only [gTupSt, if_pos h, Option.some.injEq] using g
      subst e
      exact ⟨x, rfl, h, fun l o nl d c => q _ _ (same_new nl) (rd_newT tr (rds_signs _) nl d c)⟩
    · simp only [gTupSt, if_neg h, reduceCtorEq] at g
end Ds
end
section
set_option Elab.async false
set_option linter.all false
set_option maxRecDepth 100000
set_option maxHeartbeats 4000000
namespace Ds
open PySem PySem.Spec PyProof.Rows L2
def lcL2 (g : GT) (t : STt) (it1 : SN) (g1 : GT) (t1 : STt) (e : SE) (vs vs1 : List Nat) : List PyData → En → R (List PyData)
  | [], S => .ok [] S
  | d :: ds, S => match g d S with
    | .nx S2 => (t S2).bind fun b S3 => if b = true then (it1 S3).bind fun es S4 => (lcL g1 t1 e vs1 es (wipeS vs1 S4)).bind fun ys S5 => (lcL2 g t it1 g1 t1 e vs vs1 ds (wipeS vs S5)).bind fun zs S6 => .ok (ys ++ zs) S6 else lcL2 g t it1 g1 t1 e vs vs1 ds (wipeS vs S3)
    | _ => .no
def sLc2 (it : SN) (g : GT) (t : STt) (it1 : SN) (g1 : GT) (t1 : STt) (e : SE) (vs vs1 : List Nat) : SN := fun S => (it S).bind fun ds S1 =>
  if (vs.all fun v => (own? S1[v]?).isNone && nn S1[v]?) = true then (noEx (lcL2 g t it1 g1 t1 e vs vs1 ds (wipeS vs S1))).bind fun ys S2 => if ys.length ≤ sizeLine then .ok ys (unwipe vs S1 S2) else .no else .no
@[simp] theorem r_sLc2 {it it1 : SN} {g g1 : GT} {t t1 : STt} {e : SE} {vs vs1 : List Nat} {S : En} : sLc2 it g t it1 g1 t1 e vs vs1 S = ((it S).bnd fun ds S1 =>
  if (vs.all fun v => (own? S1[v]?).isNone && nn S1[v]?) = true then (noEx (lcL2 g t it1 g1 t1 e vs vs1 ds (wipeS vs S1))).bnd fun ys S2 => if ys.length ≤ sizeLine then .ok ys (unwipe vs S1 S2) else .no else .no) := rfl
end Ds
end
section
set_option Elab.async false
set_option linter.all false
set_option maxRecDepth 100000
set_option maxHeartbeats 4000000
namespace Ds
open PySem PySem.Spec PyProof.Rows L2
abbrev NK := NestedKey
abbrev KsT := List (NK × Addr × V)
section
variable {X : Cx} {pins : List (Addr × Obj)} {σ : St} {H : Hp} {s : Shared}
def valT {β : Type} (kvs : List (NK × β)) (k : NK) : Option β := (kvs.find? fun kv => decide (kv.1 = k)).map (·.2)
def dGetT (kvs : List (NK × PyData)) (k : NK) : Option PyData := valT kvs k
def dPutT (kvs : List (NK × PyData)) (k : NK) (v : PyData) : List (NK × PyData) :=
  if (valT kvs k).isSome = true then kvs.map (fun kv => if kv.1 = k then (kv.1, v) else kv) else kvs ++ [(k, v)]
def kPutT (ks : KsT) (k : NK) (b : Addr) (v : V) : KsT :=
  if (valT ks k).isSome = true then ks.map (fun kv => if kv.1 = k then (kv.1, kv.2.1, v) else kv) else ks ++ [(k, b, v)]
theorem valT_cons {β : Type} {j k : NK} {v : β} {kvs : List (NK × β)} : valT ((j, v) :: kvs) k = if j = k then some v else valT kvs k := by
  unfold valT
  by_cases h : j = k
  · rw [List.find?_cons_of_pos (by simp [h]), if_pos h]; rfl
  · rw [List.find?_cons_of_neg (by simp [h]), if_neg h]
section
variable {K : PySem.W.Frag} {av : Av} {Hh : Hp}
theorem DtR.len {ks : KsT} {kvs : List (NK × PyData)} (h : DtR K av Hh ks kvs) : ks.length = kvs.length := by
  have := congrArg List.length h.key
  rw [List.length_map, List.length_map] at this
  exact this
theorem DtR.nil : DtR K av Hh [] [] := ⟨rfl, .nil, (fun p hp => by cases hp), .nil⟩
theorem DtR.tail {p : NK × Addr × V} {kv : NK × PyData} {ks : KsT} {kvs : List (NK × PyData)} (h : DtR K av Hh (p :: ks) (kv :: kvs)) : p.1 = kv.1 ∧ RD K av Hh (.ref p.2.1) (nkD kv.1) ∧ (∃ l, p.1 = .tup l ∧ p.1.depth ≤ 8) ∧ RD K av Hh p.2.2 kv.2 ∧ DtR K av Hh ks kvs := by
  have e := h.key
  have t := h.tup
  have v := h.val
  rw [List.map_cons, List.map_cons] at e t v
  injection e with e1 e2
  cases t with
  | cons t1 t2 =>
    cases v with
    | cons v1 v2 => exact ⟨e1, t1, h.isT p List.mem_cons_self, v1, e2, t2, fun q hq => h.isT q (List.mem_cons_of_mem _ hq), v2⟩
theorem DtR.cons {p : NK × Addr × V} {kv : NK × PyData} {ks : KsT} {kvs : List (NK × PyData)} (h1 : p.1 = kv.1) (h2 : RD K av Hh (.ref p.2.1) (nkD kv.1)) (h3 : ∃ l, p.1 = .tup l ∧ p.1.depth ≤ 8) (h4 : RD K av Hh p.2.2 kv.2) (h : DtR K av Hh ks kvs) : DtR K av Hh (p :: ks) (kv :: kvs) :=
  ⟨by rw [List.map_cons, List.map_cons, h1, h.key], .cons h2 h.tup, fun q hq => (List.mem_cons.mp hq).elim (fun z => z ▸ h3) (h.isT q), .cons h4 h.val⟩
theorem DtR.some {k : NK} : ∀ {ks : KsT} {kvs : List (NK × PyData)}, DtR K av Hh ks kvs → (valT ks k).isSome = (valT kvs k).isSome
  | [], [], _ => rfl
  | [], _ :: _, h => by have := h.len; cases this
  | _ :: _, [], h => by have := h.len; cases this
  | (j, b, v) :: ks, (j2, d) :: kvs, h => by
    obtain ⟨e, _, _, _, t⟩ := h.tail
    simp only at e
    subst e
    rw [valT_cons, valT_cons]
    by_cases z : j = k
    · rw [if_pos z, if_pos z]; rfl
    · rw [if_neg z, if_neg z]; exact DtR.some t
theorem DtR.get {k : NK} {p : Addr × V} : ∀ {ks : KsT} {kvs : List (NK × PyData)}, DtR K av Hh ks kvs → valT ks k = Option.some p → ∃ d, dGetT kvs k = Option.some d ∧ RD K av Hh p.2 d
  | [], _, _, e => by cases e
  | _ :: _, [], h, _ => by have := h.len; cases this
  | (j, b, v) :: ks, (j2, d) :: kvs, h, e => by
    obtain ⟨e1, _, _, r, t⟩ := h.tail
    simp only at e1
    subst e1
    unfold dGetT
    rw [valT_cons] at e ⊢
    by_cases z : j = k
    · rw [if_pos z] at e ⊢
      cases e
      exact ⟨d, rfl, r⟩
    · rw [if_neg z] at e ⊢
      exact DtR.get t e
theorem DtR.repl {k : NK} {v : V} {d : PyData} (r : RD K av Hh v d) : ∀ {ks : KsT} {kvs : List (NK × PyData)}, DtR K av Hh ks kvs → DtR K av Hh (ks.map fun kv => if kv.1 = k then (kv.1, kv.2.1, v) else kv) (kvs.map fun kv => if kv.1 = k then (kv.1, d) else kv)
  | [], [], h => h
  | [], _ :: _, h => by have := h.len; cases this
  | _ :: _, [], h => by have := h.len; cases this
  | (j, b, x) :: ks, (j2, y) :: kvs, h => by
    obtain ⟨e, t1, t2, t3, t⟩ := h.tail
    simp only at e
    subst e
    rw [List.map_cons, List.map_cons]
    by_cases z : j = k
    · rw [if_pos z, if_pos z]; exact .cons rfl t1 t2 r (DtR.repl r t)
    · rw [if_neg z, if_neg z]; exact .cons rfl t1 t2 t3 (DtR.repl r t)
theorem DtR.snoc {p : NK × Addr × V} {kv : NK × PyData} (h1 : p.1 = kv.1) (h2 : RD K av Hh (.ref p.2.1) (nkD kv.1)) (h3 : ∃ l, p.1 = .tup l ∧ p.1.depth ≤ 8) (h4 : RD K av Hh p.2.2 kv.2) : ∀ {ks : KsT} {kvs : List (NK × PyData)}, DtR K av Hh ks kvs → DtR K av Hh (ks ++ [p]) (kvs ++ [kv])
  | [], [], _ => .cons h1 h2 h3 h4 .nil
  | [], _ :: _, h => by have := h.len; cases this
  | _ :: _, [], h => by have := h.len; cases this
  | _ :: _, _ :: _, h => by
    obtain ⟨g1, g2, g3, g4, t⟩ := h.tail
    exact .cons g1 g2 g3 g4 (DtR.snoc h1 h2 h3 h4 t)
theorem DtR.put {k : NK} {b : Addr} {v : V} {d : PyData} {ks : KsT} {kvs : List (NK × PyData)} (h : DtR K av Hh ks kvs) (rb : RD K av Hh (.ref b) (nkD k)) (hk : ∃ l, k = .tup l ∧ k.depth ≤ 8) (r : RD K av Hh v d) : DtR K av Hh (kPutT ks k b v) (dPutT kvs k d) := by
  unfold kPutT dPutT
  rw [h.some]
  by_cases e : (valT kvs k).isSome = true
  · rw [if_pos e, if_pos e]; exact h.repl r
  · rw [if_neg e, if_neg e]; exact h.snoc (kv := (k, d)) rfl rb hk r
end
mutual
def toN : PyData → Option NK
  | .none => some .none
  | .int i => some (.num i)
  | .str x => some (.text x)
  | .tuple ds => (toNs ds).map .tup
  | _ => none
def toNs : List PyData → Option (List NK)
  | [] => some []
  | d :: ds => match toN d, toNs ds with
    | some k, some ks => some (k :: ks)
    | _, _ => none
end
/-- a tuple that may be a key -/
def toT (d : PyData) : Option NK := match toN d with
  | some (.tup l) => if (NestedKey.tup l).depth ≤ 8 then some (.tup l) else none
  | _ => none
end
end Ds
end
section
set_option Elab.async false
set_option linter.all false
set_option maxRecDepth 100000
set_option maxHeartbeats 4000000
namespace Ds
open PySem PySem.Spec PyProof.Rows L2
def dtt? : Option Sl → Option (List (NK × PyData))
  | some (.nst (.dt kvs)) => some kvs
  | _ => none
section
variable {X : Cx} {W : WX} {C : Cn} {pos pos2 pos' apos cpos : Pos} {i : Nat} {a e k f : Expr} {se sk sx : SE}
def sDtNew (i : Nat) : SS := fun S => if noio S[i]? = true then .nx (S.set i (.nst (.dt []))) else .no
def sDtPt (i : Nat) (sk se : SE) : SS := fun S => (se S).st fun d S1 => if (dtt? S1[i]?).isSome = true then (sk S1).st fun k S2 => match dtt? S2[i]?, toT k with
  | some kvs, some κ => if kvs.length < sizeLine then .nx (S2.set i (.nst (.dt (dPutT kvs κ d)))) else .no
  | _, _ => .no
  else .no
def sDtGd (i : Nat) (sk sx : SE) : SE := fun S => if (dtt? S[i]?).isSome = true then (sk S).bind fun k S1 => (sx S1).bind fun x S2 => match dtt? S2[i]?, toT k with
  | some kvs, some κ => .ok ((dGetT kvs κ).getD x) S2
  | _, _ => .no
  else .no
/-- list(d) -/
def sDtKs (i : Nat) : SN := fun S => match dtt? S[i]? with
  | some kvs => .ok (kvs.map fun kv => nkD kv.1) S
  | none => .no
end
@[simp] theorem dtt?_n {d : List (NK × PyData)} : dtt? (some (.nst (.dt d))) = some d := rfl
@[simp] theorem r_sDtNew {i : Nat} {S : En} : sDtNew i S = (if noio S[i]? = true then .nx (S.set i (.nst (.dt []))) else .no) := rfl
@[simp] theorem r_sDtPt {i : Nat} {sk se : SE} {S : En} : sDtPt i sk se S = ((se S).stt fun d S1 => if (dtt? S1[i]?).isSome = true then (sk S1).stt fun k S2 => match dtt? S2[i]?, toT k with
  | some kvs, some κ => if kvs.length < sizeLine then .nx (S2.set i (.nst (.dt (dPutT kvs κ d)))) else .no
  | _, _ => .no
  else .no) := rfl
@[simp] theorem r_sDtGd {i : Nat} {sk sx : SE} {S : En} : sDtGd i sk sx S = (if (dtt? S[i]?).isSome = true then (sk S).bnd fun k S1 => (sx S1).bnd fun x S2 => match dtt? S2[i]?, toT k with
  | some kvs, some κ => .ok ((dGetT kvs κ).getD x) S2
  | _, _ => .no
  else .no) := rfl
@[simp] theorem r_sDtKs {i : Nat} {S : En} : sDtKs i S = (match dtt? S[i]? with
  | some kvs => .ok (kvs.map fun kv => nkD kv.1) S
  | none => .no) := rfl
end Ds
end
section
set_option Elab.async false
set_option linter.all false
set_option maxRecDepth 100000
set_option maxHeartbeats 4000000
namespace Ds
open PySem PySem.Spec PyProof.Rows L2
abbrev supBody (f m : Str) (j : Nat) (p : Nat → Pos) : List Stmt :=
  [.Expr (.Call (.Attribute (.Call (.Name "super" (p 0)) [] [] (p 1)) "__init__" (p 2)) [.JoinedStr [.Constant (.str m) j (p 3), .FormattedValue (.Name f (p 4)) (-1) none (p 5)] (p 6)] [] (p 7)) (p 8),
   .Assign [.Attribute (.Name "self" (p 9)) f (p 10)] (.Name f (p 11)) (p 12)]
/-- what the program and the written part must say of it -/
structure SupK (prog : Program) (K : PySem.W.Frag) (C : Addr) (f : Str) : Prop where
  ex : ∃ (fI cc cda : Addr) (m q : Str) (j : Nat) (p : Nat → Pos) (params : Arguments) (scope : Scope) (dV kV doc pm ct oc ccl cl : Value) (an od cdd cld : Option Addr) (osl ccs csl : Array (Option Value)) (vs : Array Value) (file : Str) (tf : Tok) (cdD : ClassData),
    PySem.W.findIn K (.ref C) "__init__" = some (some (.ref fI)) ∧ PySem.W.typeIn K (.ref fI) = some (.type "function") ∧
    K.lookup fI = some ⟨oc, od, .func (PySem.W.ksFn "__init__" q params (supBody f m j p) scope dV kV doc pm an (.ref cda) ct cc), osl⟩ ∧ PySem.W.codeIn K (.ref cda) q = true ∧
    (∀ (s : Shared) (a v : Value), BindsTo s (PySem.W.ksFn "__init__" q params (supBody f m j p) scope dV kV doc pm an (.ref cda) ct cc) ⟨[a, v], []⟩ [("self", a), (f, v)]) ∧
    (∃ ar, (params.posonlyargs ++ params.args).head? = some ar ∧ ar.arg = "self") ∧ scope.kind = .function ∧ scope.isCoroutine = false ∧ scope.isGenerator = false ∧ (∀ x ∈ scope.names, x.2 ≠ .cell) ∧
    scope.names.lookup ("super" : Str) = some .globalImplicit ∧ scope.names.lookup ("__class__" : Str) = some .free ∧ scope.names.lookup ("self" : Str) = some .local ∧ scope.names.lookup f = some .local ∧
    K.lookup cda = some ⟨ccl, cdd, .fields vs, ccs⟩ ∧ vs[2]? = some (.str file tf) ∧ ((prog.main.file : Str) == file) = true ∧
    K.lookup cc = some ⟨cl, cld, .cell (some (.ref C)), csl⟩ ∧ PySem.W.clsIn K C = some cdD ∧ m.length ≤ 1000 ∧
    ((f == ("__debug__" : Str)) = false ∧ ¬ f = "self") ∧ ((p 2).endLine == (p 7).line) = true
  sub : PySem.W.mroIn K C (.ref C) = some true
  sup : PySem.W.nsIn K mainGlobals "super" = some none
  top : (prog.main.scope.names.lookup ("super" : Str)).isSome = false
  opq : PySem.W.nsIn K cStatics "thirdparty.any" = some none
  mth : PySem.W.ks_superIn K C C "__init__" = some (some (.builtin "ValueError.__init__"))
  vE : PySem.W.subIn K (.ref C) (.type "ValueError") = some true
  ini : PySem.W.excInitIn K C [.type "ValueError", .type "Exception", .type "BaseException", .type "object"] "ValueError.__new__" = true
  no : PySem.W.findIn K (.ref C) f = some none
  cl : OexC K C
theorem meth_eq {o : Expr} {name : Str} {apos pos : Pos} {args : List Expr} {env : Env} (hp : (apos.endLine == pos.line) = true) (hf : methodCallForm (args.length + 0) (backTo pos (starEach args env)) (backToKw pos (keywordEach [] env)) = true) :
    eval (.Call (.Attribute o name apos) args [] pos) env = (do
      let ov ← attributeBase o name env (eval o env)
      standAt apos.atName
      let (f, first) ← holding [ov] (getMethod ov name (do return (← importBound o env).getD true))
      callWith pos f first (backTo pos (starEach args env)) []) := by
  show (do
      let ov ← attributeBase o name env (eval o env)
      standAt apos.atName
      methodCall o name apos pos env ov (args.length + 0) (backTo pos (starEach args env)) (backToKw pos (keywordEach [] env))) = _
  have h : ∀ ov, methodCall o name apos pos env ov (args.length + 0) (backTo pos (starEach args env)) (backToKw pos (keywordEach [] env)) = (do
      let (f, first) ← holding [ov] (getMethod ov name (do return (← importBound o env).getD true))
      callWith pos f first (backTo pos (starEach args env)) []) := fun ov => by
    unfold methodCall calleeOf methodCallPos
    rw [hf, hp]
    rfl
  simp only [h]
section
variable {prog : Program} {w : World} {A : Around} {K : PySem.W.Frag} {mg : Str → Option Value} {C : Addr} {f : Str} {R : Result → Shared → Prop}
open PySem.W in
theorem sup_init (S : SupK prog K C f) {fI : Addr} (hfI : PySem.W.findIn K (.ref C) "__init__" = some (some (.ref fI))) {h₀ : Heap} {s : Shared} {e t0 : Addr} {n : Int} {tn : Tok} (M : Mod K mg h₀) (hroom : A.depth < recursionLimit) (keep : ∀ b o, h₀.get? b = some o → s.heap.get? b = some o) (hsz : h₀.objs.size ≤ s.heap.objs.size)
    (he : s.heap.get? e = some (excObj C t0 none .none)) (hne : h₀.get? e = none) (hb : n.natAbs.log2 < 1000)
    (hR : ∀ h' tk dx t1 tn', (∀ b o, h₀.get? b = some o → h'.get? b = some o) → h'.get? e = some (excObj C t1 (some dx) .none) → h₀.objs.size ≤ dx → dx ≠ e → h'.Ns1 dx (fun y => if y = f then some (.int n tn') else none) → R (.ok (.ret .none)) { s with heap := h', toks := tk }) :
    codeAny (model prog w) A (.call (.ref fI) ⟨[.ref e, .int n tn], []⟩) R s := by
  obtain ⟨fI', cc, cda, m, q, j, p, params, scope, dV, kV, doc, pm, ct, oc, ccl, cl, an, od, cdd, cld, osl, ccs, csl, vs, file, tf, cdD, k1, k2, k3, k4, k5, ⟨ar, k6, k6b⟩, k7, k8, k9, k10, k11, k12, k13, k14, k15, k16, k17, k18, k19, k20, ⟨k21, k22⟩, k23⟩ := S.ex
  rw [hfI] at k1
  cases k1
  have X : K.In s.heap := M.kin.keeps keep
  refine ks_codeAny_call_defAt (fd := ksFn "__init__" q params (supBody f m j p) scope dV kV doc pm an (.ref cda) ct cc) (body := supBody f m j p) (binds := [("self", .ref e), (f, .int n tn)]) hroom (X _ _ k3) rfl (M.nolimit.keeps keep) (codeRec_of X k4) rfl (k5 s _ _) k10 (fun x hx => ?_) (fun h₁ hns hk₁ => ?_) k8 k9 k7
  · simp only [List.mem_cons, List.not_mem_nil, or_false] at hx
    rcases hx with rfl | rfl
    · exact k13
    · exact k14
  generalize eL : s.heap.objs.size = L at hns
  have F0 : Fr h₀ L h₁ (fun y => ([("self", .ref e), (f, .int n tn)] : List (Str × Value)).reverse.lookup y) := ⟨hns, fun b o z => hk₁ b o (keep b o z), by rw [← eL]; exact hsz⟩
  have eneL : e ≠ L := by rw [← eL]; exact Nat.ne_of_lt (Heap.lt_size he)
  have N0 : News h₀ L h₁ [(e, excObj C t0 none .none)] := fun p hp => by
    obtain rfl := List.mem_singleton.mp hp
    exact ⟨hk₁ _ _ he, eneL, hne⟩
  have hmg : ∀ h', (∀ b o, h₀.get? b = some o → h'.get? b = some o) → K.In h' := fun h' k => M.kin.keeps k
  obtain ⟨mb, hb1, hb2⟩ := M.blt
  obtain ⟨oD, hD1, hD2⟩ : ∃ oD, h₀.get? C = some oD ∧ oD.data = .cls cdD := by
    unfold clsIn at k19
    split at k19
    · rename_i c d cd' sl ho
      cases k19
      exact ⟨_, M.kin _ _ ho, rfl⟩
    · cases k19
  have up := F0.keep
  show _root_.PySem.wpAt (model prog w) (A.deeper (ksEnv q scope L fI (.ref cda) cc)) (.func (supBody f m j p) (ksEnv q scope L fI (.ref cda) cc)) (execs (supBody f m j p) (ksEnv q scope L fI (.ref cda) cc)) _ _ _
  refine ks_wpAt_execs_cons (ks_wpAt_Expr_any (ks_wpAt_MethodCall ?_ (meth_eq k23 (by rfl))) ?_ ?_)
  · refine ks_wpAt_super_base (env := ksEnv q scope L fI (.ref cda) cc) (attr := "__init__") k11 k12 (by decide) rfl (up _ _ (M.kin _ _ k3)) rfl k6 rfl (up _ _ (M.kin _ _ k15)) rfl k16 k17 S.top ?_
    refine ks_loadName_global k7 k11 (Calls.loadGlobal_builtin (env := ksEnv q scope L fI (.ref cda) cc) (M.glob.keeps up) (mg_none_of M.kin M.glob S.sup) (hb1.keeps up) ((hb2 _ (by decide)).trans PyProof.Rows.Boot.«super») ⟨rfl, ?_⟩)
    refine wpAny_loadName_free k7 k12 rfl ⟨_, up _ _ (M.kin _ _ k18), rfl⟩ ?_
    rw [k6b]
    refine wpAny_loadName_local k7 k13 F0.ns (v := .ref e) ?_ ?_
    · show List.lookup (Str.ofString "self") [(f, Value.int n tn), (Str.ofString "self", Value.ref e)] = _
      rw [List.lookup_cons]
      have z : (Str.ofString "self" == f) = false := by simpa using fun q => k22 q.symm
      rw [z]
      rfl
    refine ks_wpAny_isType_cls (up _ _ hD1) hD2 ⟨rfl, ?_⟩
    refine ks_wpAny_call_super (up _ _ hD1) hD2 (hk₁ _ _ he) rfl (fun c z => by cases z) (looks_mroIn (hmg _ up) S.sub) (fun h2 q2 kp2 => ?_)
    obtain ⟨F2, N2, l2⟩ := ks_newsPush (s := { s with heap := h₁ }) F0 N0 rfl q2 kp2
    refine kxs_method kxs_ValueError F2 M.kin N2 List.mem_cons_self (InstAt.of_exc0 N2 (List.mem_cons_of_mem _ List.mem_cons_self)) S.opq S.mth S.vE (by decide) fun q3 h3 F3 N3 l3 => ?_
    refine kxs_callWith1 (i := "ValueError.__init__") (x := e) N3 List.mem_cons_self ?_ (by rfl) (by rfl)
    have lkF : ∀ {h : Heap}, Fr h₀ L h (fun y => ([("self", .ref e), (f, .int n tn)] : List (Str × Value)).reverse.lookup y) → ∀ {t : Nat} {E : Value → Shared → Prop} {Q : Value → Shared → Prop}, Q (.int n tn) { s with heap := h, toks := t } → wpAny (model prog w) (A.deeper (ksEnv q scope L fI (.ref cda) cc)) (loadName (ksEnv q scope L fI (.ref cda) cc) f) Q E { s with heap := h, toks := t } := fun {h} F {t E Q} hq => by
      refine wpAny_loadName_local k7 k14 F.ns (v := .int n tn) ?_ hq
      show List.lookup f [(f, Value.int n tn), (Str.ofString "self", Value.ref e)] = _
      rw [List.lookup_cons]
      simp
    refine spliced_more (wpAny_JoinedStr ?_) (by rfl)
    show Joins _ _ _ (eval (.Constant (.str m) j (p 3)) _ :: eval (.FormattedValue (.Name f (p 4)) (-1) none (p 5)) _ :: []) _ _ _
    have em : (Str.empty ++ m).length = m.length := by rw [PySem.Str.length_append]; exact Nat.zero_add _
    have en : (Str.ofString (toString n)).length ≤ 1001 := by
      rw [PySem.ofString_length]
      exact int_text_length_le (k := 1000) (by decide) hb
    refine Calls.Constant_str ⟨m, _, rfl, by rw [em, sizeLine_eq]; omega, ?_⟩
    refine wpAny_FormattedValue_plain (wpAny_Name (lkF F3 (wpAny_formatField_int (Nat.lt_trans hb (by decide)) ⟨_, _, rfl, ?_, ?_⟩)) k21)
    · rw [PySem.Str.length_append, em, sizeLine_eq]; omega
    · refine ⟨?_, spliced_none ⟨?_, ?_⟩⟩
      · rw [PySem.Str.length_append, em, sizeLine_eq]; omega
      · exact kxs_at N3 List.mem_cons_self
      · have sne : h₁.objs.size ≠ e := Nat.ne_of_gt (l2 (e, _) List.mem_cons_self)
        have qne : q3 ≠ e := Nat.ne_of_gt (l3 (e, excObj C t0 none .none) (List.mem_cons_of_mem _ List.mem_cons_self))
        refine kxs_call F3 M.kin N3 F.excBase_ValueError S.ini List.mem_cons_self (.tail qne (.tail sne (.head (fun p hp => by cases hp)))) (by show 1 ≤ sizeLine; rw [sizeLine_eq]; omega) fun t' h4 F4 N4 l4 => ?_
        show _root_.PySem.wpAt (model prog w) _ _ (execs [_] _) _ _ _
        refine ks_wpAt_execs_cons (wpAt_of_wpAny (plainObj_wpAny_Assign_Attribute (wpAny_Name (lkF F4 ?_) k21) ?_))
        · refine wpAny_Name (wpAny_loadName_local k7 k13 F4.ns (v := .ref e) ?_ ?_)
          · show List.lookup (Str.ofString "self") [(f, Value.int n tn), (Str.ofString "self", Value.ref e)] = _
            rw [List.lookup_cons]
            have z : (Str.ofString "self" == f) = false := by simpa using fun q => k22 q.symm
            rw [z]
            rfl
          · obtain ⟨nm, q', Nn, bs, bm, sn, sub, ab, col, dd, c0, c1, c2, c3, c5, hC, hbm⟩ := S.cl.cls
            have hcl : PySem.W.clsIn K C = some { name := nm, bases := bs, mro := .ref C :: bm, ns := Nn, qualname := q', hasDict := true, slotNames := sn, subclasses := sub, abstract := ab, collection := col, hasDel := false } := by unfold PySem.W.clsIn; rw [hC] <;> rfl
            have hx4 := (N4 (e, excObj C t' none .none) (by simp)).1
            have XK := hmg _ F4.keep
            refine PySem.W.set_plain XK (ox := excObj C t' none .none) (od := none) ⟨hx4, rfl, rfl, trivial⟩ S.cl.sa ?_
            refine PySem.HandSPX.exc_osa XK hx4 hcl (show PySem.HandSPX.refsVE (.ref C :: bm) = true from hbm) rfl S.no (fun h' tk' dx k dn dne hx hn => ?_)
            refine wpAt_of_wpAny (wpAny_execs_nil ?_)
            exact hR h' tk' dx t' tn (fun b o z => k b o (fun y => by rw [y, hne] at z; cases z) (F4.keep b o z)) hx (Nat.le_trans (Nat.le_trans F4.above (Nat.le_of_lt (Heap.lt_size (show h4.get? L = some _ from (F4.ns.choose_spec.choose_spec.choose_spec).1)))) dn) dne hn
        · rfl
  · unfold interactive
    show (scope.kind == .module && _) = false
    rw [k7]
    rfl
  · rfl
theorem at_restrict {h h' : Heap} {dx e : Addr} {m : Str → Option Value} (hn : h.Ns1 dx m) (g : ∀ b, b ≠ e → h'.get? b = h.get? b) (ne : dx ≠ e) : h'.Ns1 dx m := hn.at fun o y => (g dx ne).trans y
end
section
variable {X : Cx} {C : Addr} {x f : Str} {e : Expr} {te : TE} {p pos : Pos} {k : Nat}
/-- C(e), C's own __init__ keeps the number -/
theorem pmk_sup (S : SupK X.prog X.K C f) (hr : Room 1 X.A) (hg : Gl X x) (hm : X.mg x = some (.ref C)) (ha : PE X e te)
    (hdb : (x == ("__debug__" : Str)) = false := by decide) (he : starEach (e :: []) X.env = (false, eval e X.env) :: starEach [] X.env := by rfl) (hpl : (backTo pos (starEach [] X.env)).any (·.1) = false := by rfl) :
    L2N.PMk X (.Call (.Name x p) [e] [] pos) (fun σ H Q => te σ H fun v H1 => ∃ n : Int, [v] = [V.int n] ∧ n.natAbs.log2 < 1000 ∧ ∀ d, H1 d = none → Q (.ref C) (some d) (upd H1 d (.xd [(f, .int n)]))) := by
  intro pins s σ H Q I h
  have T := S.cl
  obtain ⟨nm, q, N, bs, bm, sn, sub, ab, col, dd, k0, k1, k2, k3, k5, hC, hbm⟩ := T.cls
  obtain ⟨fI, _, _, _, _, _, _, _, _, _, _, _, _, _, _, _, _, _, _, _, _, _, _, _, _, _, _, _, iC, tI, _⟩ := S.ex
  have args : PA X [e] (tCons te tNil) := pa_cons ha pa_nil he
  refine wpAny_Call_Name_kw (ld_glob I hg hm ?_ hdb)
  refine PySem.W.callWith_K (h₀ := X.base) I.ok.mod.kin T.kC (thn (args.run pos pins s σ H (fun us H2 => ∃ n : Int, us = [V.int n] ∧ n.natAbs.log2 < 1000 ∧ ∀ d, H2 d = none → Q (.ref C) (some d) (upd H2 d (.xd [(f, .int n)]))) I ?_) fun us s1 ⟨vs, H1, I1, r1, q1⟩ => ⟨I1.kIn, ?_⟩) he hpl
  · exact h
  obtain ⟨n, rfl, hb, q1⟩ := q1
  obtain ⟨u, rfl, tn, rfl⟩ := vals1 r1
  · show wpAny _ _ (call (.ref C) [.int n tn]) _ _ _
    obtain ⟨hp, g, dr, tk, os⟩ := s1
    have kk : ∀ b o, hp.get? b = some o → ((hp.push (PySem.W.kdv_tup [.int n tn])).push (PySem.HandSPX.excO C hp.objs.size)).get? b = some o := fun b o e => Heap.get?_push_of_some _ (Heap.get?_push_of_some _ e)
    have hget : ((hp.push (PySem.W.kdv_tup [.int n tn])).push (PySem.HandSPX.excO C hp.objs.size)).get? (hp.objs.size + 1) = some (PySem.HandSPX.excO C hp.objs.size) := by heap_get
    have hnone : hp.get? (hp.objs.size + 1) = none := by
      cases z : hp.get? (hp.objs.size + 1) with
      | none => rfl
      | some o => exact absurd (Heap.lt_size z) (Nat.not_lt.mpr (Nat.le_succ _))
    obtain ⟨mb, b1, b2⟩ := I1.mod.blt
    have M1 : Mod X.K X.mg hp := ⟨I1.kIn, I1.mod.glob.keeps I1.bk, ⟨mb, b1.keeps I1.bk, b2⟩, I1.mod.nolimit.keeps I1.bk⟩
    have hus : ([.int n tn] : List Value).length ≤ sizeLine := by rw [sizeLine_eq]; show 1 ≤ _; omega
    refine wpAny_call (PySem.HandSPX.call_own (rest := [.int n tn]) F.excBase_ValueError (fun Y => PySem.HandSPX.refsVE_contains Y bm hbm) (I1.kIn _ _ hC) (PySem.W.looks_findIn I1.kIn iC) (fun self => PySem.W.bind_fn I1.kIn self tI) hus
      (sup_init S iC M1 (hr.make C [.int n tn] []).depth kk (by rw [Heap.size_push, Heap.size_push]; omega) hget hnone hb fun h' tk' dx t1 tn' k he1 hdx hne hns => ?_))
    refine ⟨rfl, ?_⟩
    obtain ⟨G, g1, g2⟩ := restrict h' fun b => decide (b ≠ hp.objs.size + 1)
    have gk : ∀ b, b ≠ hp.objs.size + 1 → G.get? b = h'.get? b := fun b hb => g1 b (decide_eq_true hb)
    have ge : G.get? (hp.objs.size + 1) = none := g2 _ (by simp)
    have kG : ∀ b o, hp.get? b = some o → G.get? b = some o := fun b o z => by
      rw [gk b fun y => by rw [y, hnone] at z; cases z]
      exact k b o z
    have hG : G.Ns1 dx (fun y => if y = f then some (.int n tn') else none) := at_restrict hns gk hne
    have J : Inv X pins σ (upd H1 dx (.xd [(f, .int n)])) ⟨G, g, dr, tk', os⟩ := I1.laid (t' := tk') kG hdx ⟨_, hG, fun y => by
      rw [lookup_put]
      by_cases z : y = f
      · rw [if_pos z, if_pos z]; exact ⟨tn', rfl⟩
      · rw [if_neg z, if_neg z]; exact True.intro⟩
    have hn1 : H1 dx = none := I1.hok.fresh hdx
    have na : (upd H1 dx (.xd [(f, .int n)])) (hp.objs.size + 1) = none := by
      rw [upd_ne (Ne.symm hne)]
      exact I1.hok.fresh (Nat.le_succ _)
    exact ⟨hp.objs.size + 1, _, _, ⟨G, g, dr, tk', os⟩, _, .ref C, some dx, rfl, J, (fun b o z => by
      by_cases hba : b = hp.objs.size + 1
      · rw [hba, ge] at z; cases z
      · exact (gk b hba).symm.trans z), ge, he1, ⟨rfl, rfl, fun vs z => by cases z; rfl⟩, rfl, rfl, na, rfl, I1.bare, raises_own T.exC T.tyC, q1 dx hn1⟩
end
end Ds
end
section
set_option Elab.async false
set_option linter.all false
set_option maxRecDepth 100000
set_option maxHeartbeats 4000000
namespace Ds
open PySem PySem.Spec PyProof.Rows L2
def sRaiseN (x f : Str) (se : SE) : SS := fun S => (se S).st fun d S1 => match d with
  | .int n => if n.natAbs.log2 < 1000 then .ex ⟨x, some (f, n)⟩ S1 else .no
  | _ => .no
@[simp] theorem r_sRaiseN {x f : Str} {se : SE} {S : En} : sRaiseN x f se S = ((se S).stt fun d S1 => match d with
  | .int n => if n.natAbs.log2 < 1000 then .ex ⟨x, some (f, n)⟩ S1 else .no
  | _ => .no) := rfl
/-- what the module says of the class named x, which keeps f -/
def SupM (prog : Program) (K : PySem.W.Frag) (mg : Str → Option Value) (x f : Str) : Prop := ∃ E, mg x = some (.ref E) ∧ PySem.W.nsIn K mainGlobals x = some (some (.ref E)) ∧ SupK prog K E f
section
variable {X : Cx} {W : WX} {C : Cn} {x f : Str} {e : Expr} {se : SE} {p pos pos' : Pos}
theorem s_raiseN (T : SupM X.prog X.K X.mg x f) (hc : X.calm = true) (hr : Room 1 X.A) (tk : Takes X W) (hg : Gl X x) (he : PE X e (xE X.K X.mg W C se)) (hdb : (x == ("__debug__" : Str)) = false := by decide)
    (hs : starEach (e :: []) X.env = (false, eval e X.env) :: starEach [] X.env := by rfl) (hpl : (backTo pos (starEach [] X.env)).any (·.1) = false := by rfl) :
    PS X (.Raise (some (.Call (.Name x p) [e] [] pos)) none pos') (xS X.K X.mg W C (sRaiseN x f se)) := by
  obtain ⟨E, h1, h2, h3⟩ := T
  refine ps_imp (L2N.ps_raise hc tk (pmk_sup h3 hr hg h1 he hdb hs hpl)) fun D σ H ⟨ow, S, r, q⟩ => seqS r q fun S1 d v H1 r1 x1 rd k => ?_
  cases rd with
  | int n =>
    by_cases hb : n.natAbs.log2 < 1000
    · have k' : sst X.K X.mg W C ow H1 D (if n.natAbs.log2 < 1000 then .ex ⟨x, some (f, n)⟩ S1 else .no) := k
      rw [if_pos hb] at k'
      refine ⟨n, rfl, hb, fun d hd => ?_⟩
      have z := k' ow σ _ (r1.same (same_new (o := .xd [(f, .int n)]) hd)) (Ext.same (same_new hd)) (Grow.refl _ _) (some d) ⟨d, rfl, upd_same, fun w => r1.fresh hd (.inl w)⟩
      have ec : clOf X.mg x = .ref E := by unfold clOf; rw [h1]; rfl
      have z2 : W (clOf X.mg x) (some d) σ _ := z
      rw [ec] at z2
      exact z2
    · have k' : sst X.K X.mg W C ow H1 D (if n.natAbs.log2 < 1000 then .ex ⟨x, some (f, n)⟩ S1 else .no) := k
      rw [if_neg hb] at k'
      exact k'.elim
  | _ => exact k.elim
/-- e.f, e a kept error of the class named x -/
def sFld (x f : Str) (se : SE) : SE := fun S => (se S).bind fun d S1 => match d with
  | .dict [(.none, .str c), (.str g, .int n)] => if c = x ∧ g = f then .ok (.int n) S1 else .no
  | _ => .no
@[simp] theorem r_sFld {x f : Str} {se : SE} {S : En} : sFld x f se S = ((se S).bnd fun d S1 => match d with
  | .dict [(.none, .str c), (.str g, .int n)] => if c = x ∧ g = f then .ok (.int n) S1 else .no
  | _ => .no) := rfl
def rFld (K : PySem.W.Frag) (f : Str) : V → Hp → VK → Prop := fun v H Q => ∃ (a : Addr) (oe : Obj) (D dd : Addr) (fs : List (Str × V)) (u : V), v = .ref a ∧ H a = some (kepO a oe) ∧ Zc (.ref D) (some dd) oe ∧ (∃ vs, oe.data = .fields vs) ∧ ExcC K D ∧ PySem.W.findIn K (.ref D) f = some none ∧ H dd = some (.xd fs) ∧ fs.lookup f = some u ∧ Q u H
theorem pe_fld {te : TE} (he : PE X e te) (hb : attributeBase e f X.env (eval e X.env) = eval e X.env := by rfl) : PE X (.Attribute e f pos) (fun σ H Q => te σ H fun v H1 => rFld X.K f v H1 Q) := by
  refine ⟨fun pins s σ H Q I h => ?_⟩
  refine attr_of hb (thn (he.run pins s σ H _ I h) fun u s1 hh => ?_)
  obtain ⟨x, H1, I1, rx, a, oe, D, dd, fs, v, ex, ha, hz, hf, T, hno, ea, l, q⟩ := hh
  subst ex
  obtain rfl : u = Value.ref a := rx
  obtain ⟨vs, hd⟩ := hf
  have hx : ObjOk X.prog X.w H1 s1.heap dd (.xd fs) := I1.hok dd _ ea
  obtain ⟨mA, hns, hr⟩ := hx
  obtain ⟨od, ho, hl⟩ := lookIn_ns hns
  obtain ⟨u, hu, ru⟩ := RelO.some_of (v := v) (o := mA f) (by rw [← l]; exact hr f)
  have J : PySem.W.InstAt s1.heap a oe D (some od) := ⟨(I1.hok a _ ha).1, hz.1, by unfold PySem.W.notCls; rw [hd] <;> rfl, by rw [hz.2]; exact ho⟩
  exact HandSPX.exc_get I1.kIn J T.hg T.hk T.hs (PySem.W.findObj_own T.hd hno rfl (by rw [hl, hu])) (handed_of ru) ⟨v, H1, I1.tok _, ru, q⟩
theorem e_fld (T : SupM X.prog X.K X.mg x f) (he : PE X e (xE X.K X.mg W C se)) (hb : attributeBase e f X.env (eval e X.env) = eval e X.env := by rfl) : PE X (.Attribute e f pos) (xE X.K X.mg W C (sFld x f se)) := by
  obtain ⟨E, t1, t2, t3⟩ := T
  refine pe_imp (pe_fld he hb) fun σ H Q ⟨ow, S, r, q⟩ => seq early_E r q fun S1 d v H1 r1 x1 rd k => ?_
  match d, rd, k with
  | .dict [(.none, .str c), (.str g, .int n)], rd, k =>
    by_cases z : c = x ∧ g = f
    · have k' : pst X.K X.mg W C (relE X.K) ow σ H1 Q (if c = x ∧ g = f then .ok (.int n) S1 else .no) := k
      rw [if_pos z] at k'
      obtain ⟨rfl, rfl⟩ := z
      cases rd with
      | exf y h2 h3 =>
        obtain ⟨oe, D, g1, g2, g3, g4, g5, g6⟩ := y
        rw [t2] at g2
        cases g2
        exact ⟨_, oe, E, _, _, .int n, rfl, g1, g3.zc, g4, g5.c, t3.no, g6, by simp [List.lookup], pst_ok r1 k' (.int n)⟩
    · have k' : pst X.K X.mg W C (relE X.K) ow σ H1 Q (if c = x ∧ g = f then .ok (.int n) S1 else .no) := k
      rw [if_neg z] at k'
      exact k'.elim
end
end Ds
end
section
set_option Elab.async false
set_option linter.all false
set_option maxRecDepth 100000
set_option maxHeartbeats 4000000
namespace L2H
open PySem PySem.Spec L2
theorem RoomH.units {k : Nat} {A : Around} (r : RoomH k A) : A.units + 64 < cLine := by have := r.un; omega
end L2H
end
section
set_option Elab.async false
set_option linter.all false
set_option maxRecDepth 100000
set_option maxHeartbeats 4000000
namespace Ds
open PySem PySem.Spec PyProof.Rows L2
section
variable {X : Cx} {C : Cn} {a : Addr} {oe : Obj} {i j : Nat} {pos2 : Pos} {pn : List (Addr × Obj)} {e : Expr} {se : SE}
theorem su_setF (he : PE (X.suite a pn) e (xE X.K X.mg W0 C se)) {tg : Expr} (hset : ∀ {t : TE}, PE (X.suite a pn) e t → PS (X.suite a pn) (.Assign [tg] e pos2) (tAsg t (gName j))) :
    PSs (X.suite a pn) [.Assign [tg] e pos2] (xSu X.K X.mg C i a oe (sSet j se)) :=
  pss_one (ps_imp (s_set (X := X.suite a pn) (W := W0) he hset) fun D σ H ⟨ow, S, r, _, _, q⟩ => ⟨ow, S, r, q⟩)
end
def sAlt (s1 s2 : SS) : SS := fun S => match s1 S with
  | .no => s2 S
  | r => r
def eAlt (s1 s2 : SE) : SE := fun S => match s1 S with
  | .no => s2 S
  | r => r
def sIsLN (sl : SN) : SE := fun S => (sl S).bind fun _ S1 => .ok (.bool true) S1
def sIsNL (sa : SE) : SE := fun S => (sa S).bind fun d S1 => match d with
  | .int _ => .ok (.bool false) S1
  | _ => .no
section
variable {X : Cx} {W : WX} {C : Cn} {a b e : Expr} {st : Stmt} {sa s1 s2 : SE} {t1 t2 : SS} {sl : SN} {pos : Pos}
theorem s_alt (h1 : PS X st (xS X.K X.mg W C t1)) (h2 : PS X st (xS X.K X.mg W C t2)) : PS X st (xS X.K X.mg W C (sAlt t1 t2)) := ⟨fun pins s σ H Q I q => by
  obtain ⟨ow, S, r, q⟩ := q
  change sst X.K X.mg W C ow H Q (match t1 S with
    | .no => t2 S
    | r => r) at q
  cases e : t1 S with
  | no => rw [e] at q; exact h2.run pins s σ H Q I ⟨ow, S, r, q⟩
  | nx S' => rw [e] at q; exact h1.run pins s σ H Q I ⟨ow, S, r, by rw [e]; exact q⟩
  | rt v S' => rw [e] at q; exact h1.run pins s σ H Q I ⟨ow, S, r, by rw [e]; exact q⟩
  | bk S' => rw [e] at q; exact h1.run pins s σ H Q I ⟨ow, S, r, by rw [e]; exact q⟩
  | ct S' => rw [e] at q; exact h1.run pins s σ H Q I ⟨ow, S, r, by rw [e]; exact q⟩
  | ex c S' => rw [e] at q; exact h1.run pins s σ H Q I ⟨ow, S, r, by rw [e]; exact q⟩⟩
theorem e_alt (h1 : PE X e (xE X.K X.mg W C s1)) (h2 : PE X e (xE X.K X.mg W C s2)) : PE X e (xE X.K X.mg W C (eAlt s1 s2)) := ⟨fun pins s σ H Q I q => by
  obtain ⟨ow, S, r, q⟩ := q
  change pst X.K X.mg W C (relE X.K) ow σ H Q (match s1 S with
    | .no => s2 S
    | r => r) at q
  cases e : s1 S with
  | no => rw [e] at q; exact h2.run pins s σ H Q I ⟨ow, S, r, q⟩
  | ok v S' => rw [e] at q; exact h1.run pins s σ H Q I ⟨ow, S, r, by rw [e]; exact q⟩
  | ex c S' => rw [e] at q; exact h1.run pins s σ H Q I ⟨ow, S, r, by rw [e]; exact q⟩⟩
theorem ty_sq {K : PySem.W.Frag} {H : Hp} {a : Addr} {xs : List V} (h : SqL K H a xs) : TyX K H (.ref a) (.type "list") := by
  rcases h with (h1 | ⟨o, h1⟩) | ⟨o, its, n, e, c, _⟩
  · exact .base (.lst h1)
  · exact .base (.frz h1)
  · exact .kList e c
theorem e_isLN {p : Pos} (hg : Gl X "isinstance") (hm : X.mg "isinstance" = none) (ha : PE X a (xL X.K X.mg W C sl)) (hb : PE X b (tC (.ty "list")))
    (h1 : starEach (a :: [b]) X.env = (false, eval a X.env) :: starEach [b] X.env := by rfl) (h2 : starEach (b :: []) X.env = (false, eval b X.env) :: starEach [] X.env := by rfl) (hpl : (backTo pos (starEach [b] X.env)).any (·.1) = false := by rfl) :
    PE X (.Call (.Name "isinstance" p) [a, b] [] pos) (xE X.K X.mg W C (sIsLN sl)) :=
  pe_imp (pe_callB (call_isi.or call_isX) hg hm (by decide +kernel) (pa_cons ha (pa_cons hb pa_nil h2) h1) (by decide) (by decide) h1 hpl) fun σ H Q ⟨ow, S, r, q⟩ => seq early_E r q fun S1 ds v H1 r1 x1 rd k => by
    obtain ⟨p, vs, e1, e2, e3⟩ := rd
    subst e1
    exact .inl ⟨.ref p, .ty "list", _, _, true, rfl, .ty "list", ty_sq e2, kit_ty (show kitB "list" "list" = some true by decide +kernel), pst_ok r1 k (.bl true)⟩
theorem e_isNL {p : Pos} (hg : Gl X "isinstance") (hm : X.mg "isinstance" = none) (ha : PE X a (xE X.K X.mg W C sa)) (hb : PE X b (tC (.ty "list")))
    (h1 : starEach (a :: [b]) X.env = (false, eval a X.env) :: starEach [b] X.env := by rfl) (h2 : starEach (b :: []) X.env = (false, eval b X.env) :: starEach [] X.env := by rfl) (hpl : (backTo pos (starEach [b] X.env)).any (·.1) = false := by rfl) :
    PE X (.Call (.Name "isinstance" p) [a, b] [] pos) (xE X.K X.mg W C (sIsNL sa)) :=
  pe_imp (pe_callB (call_isi.or call_isX) hg hm (by decide +kernel) (pa_cons ha (pa_cons hb pa_nil h2) h1) (by decide) (by decide) h1 hpl) fun σ H Q ⟨ow, S, r, q⟩ => seq early_E r q fun S1 d v H1 r1 x1 rd k => by
    match d, rd, k with
    | .int n, rd, k =>
      rcases ty_rd rd with ty | ⟨a, c, _, _, z, _⟩ | ⟨⟨ns, z⟩, _⟩ | ⟨_, _, _, _, _, _, _, z, _⟩
      · exact .inl ⟨v, .ty "list", _, _, false, rfl, .ty "list", ty, kit_ty (show kitB "int" "list" = some false by decide +kernel), pst_ok r1 k (.bl false)⟩
      · cases z
      · cases z
      · cases z
theorem s_setIxP {X : Cx} {W : WX} {C : Cn} {tg e k : Expr} {sk se : SE} {i : Nat} {pos : Pos} (hp : ∀ {t u : TE}, PE X e t → PE X k u → PS X (.Assign [tg] e pos) (tAsg t (gSub (tVar i) u rSetL))) (he : PE X e (xE X.K X.mg W C se)) (hk : PE X k (xE X.K X.mg W C sk)) : PS X (.Assign [tg] e pos) (xS X.K X.mg W C (sSetIx i sk se)) := s_setIx he hk hp
end
def sInN (neg : Bool) (sa : SE) (sl : SN) : SE := fun S => (sa S).bind fun d S1 => (sl S1).bind fun es S2 => R.opt (gInT neg d (.list es)) S2
@[simp] theorem r_sInN {neg : Bool} {sa : SE} {sl : SN} {S : En} : sInN neg sa sl S = ((sa S).bnd fun d S1 => (sl S1).bnd fun es S2 => R.opt (gInT neg d (.list es)) S2) := rfl
section
variable {X : Cx} {W : WX} {C : Cn} {a b : Expr} {sa : SE} {sl : SN} {pos : Pos}
theorem in_tOp {neg : Bool} {σ : L2.St} {H : Hp} {Q : VK} (h : xE X.K X.mg W C (sInN neg sa sl) σ H Q) : tOp (rIn X.K neg) (xE X.K X.mg W C sa) (xL X.K X.mg W C sl) σ H Q := by
  obtain ⟨ow, S, rl, q⟩ := h
  refine seq early_E rl q fun S1 d x H1 r1 x1 rd k1 => ?_
  refine seq early_E r1 k1 fun S2 es y H2 r2 x2 re k2 => ?_
  obtain ⟨p, vs, h1, h2, h3⟩ := re
  subst h1
  refine fin_opt (H' := H2) r2 k2 fun z ez f => ?_
  have rx := RD.mono x2 (Grow.refl _ _) d x rd
  change (if flatD d = true ∧ es.all flatD = true then some (PyData.bool (if neg then !inD d es else inD d es)) else none) = some z at ez
  by_cases c : flatD d = true ∧ es.all flatD = true
  · rw [if_pos c] at ez; cases ez
    exact ⟨p, vs, rfl, .inl h2, flat_rd rx c.1, flat_rds h3 c.2, by rw [inD_rd rx c.1 h3 c.2]; exact f _ H2 (Same.refl H2) (.bl _)⟩
  · rw [if_neg c] at ez; cases ez
theorem t_inN (ha : PE X a (xE X.K X.mg W C sa)) (hb : PE X b (xL X.K X.mg W C sl)) (hm : behindInMarks .In b = false) : PT X (.Compare a [.In] [b] pos) (xB X.K X.mg W C (sTst (sInN false sa sl))) :=
  pt_imp (pt_cmpR op_in_seq ha hb hm) fun _ _ _ h => tst_tB h fun _ q => in_tOp q
end
end Ds
end
section
set_option linter.all false
set_option Elab.async false
open PySem PySem.Spec PyProof.Rows L2
namespace Ds
abbrev ERRS : List Str := ["Impossible"]
abbrev ERRT : List Str := ["Impossible"]
abbrev ERRB : Str := "Impossible"
end Ds
end
section
set_option linter.all false
set_option Elab.async false
set_option maxRecDepth 100000
open PySem PySem.Spec PyProof.Rows L2
namespace Ds
def c_is_whole : SS :=
  (sRet (sAndV (sIsi "int" (sVar 0)) (sNotV (sIsi "bool" (sVar 0)))))
def m_is_whole : Mf := mB 1 c_is_whole
def c_is_name : SS :=
  (sSeq (sIf (sOr (sNot (sTst (sIsi "str" (sVar 0)))) (sNot (sTst (sCh gLe gLe (sK (.int 1)) (sCallB gLen (sCons (sVar 0) sNil)) (sK (.int 8))))))
    (sRet (sK (.bool false)))
    sNx)
  (sRet (sRd lAll (sLc (sIS (sVar 0)) (gNm 1) sYes (sBin (gIn false) (sVar 1) (sK (.str (Str.ofString "abcdefghijklmnopqrstuvwxyz")))) [1]))))
def m_is_name : Mf := mB 2 c_is_name
def c_is_number : SS :=
  (sRet (sAndV (sCallV m_is_whole (sGv (sVar 0) sG0)) (sCh gLe gLe (sVar 1) (sVar 0) (sVar 2))))
def m_is_number : Mf := mB 3 c_is_number
def c_are_different_names : SS :=
  (sSeq (sIf (sOr (sNot (sTst (sIsi "tuple" (sVar 0)))) (sNot (sTst (sRd lAll (sLc (sISq (sVar 0)) (gNm 1) sYes (sCallV m_is_name (sGv (sVar 1) sG0)) [1])))))
    (sRet (sK (.bool false)))
    sNx)
  (sRet (sBin gEq (sLenSet (sVar 0)) (sCallB gLen (sCons (sVar 0) sNil)))))
def m_are_different_names : Mf := mB 2 c_are_different_names
def c_is_office : SS :=
  (sSeq (sIf (sOr (sNot (sTst (sIsi "tuple" (sVar 0)))) (sTst (sBin gGe (sCallB gLen (sCons (sVar 0) sNil)) (sK (.int 40)))))
    (sRet (sK (.bool false)))
    sNx)
  (sRet (sRd lAll (sLc (sIEnT (sCons (sVar 0) sNil)) (gTp (gNC (gNm 1) (gNC (gNm 2) gN0))) sYes (sCallV m_is_number (sGv (sVar 2) (sGv (sK (.int 0)) (sGv (sVar 1) sG0)))) [1, 2]))))
def m_is_office : Mf := mB 3 c_is_office
def c_need_office : SS :=
  (sIf (sNot (sTst (sCallV m_is_office (sGv (sVar 0) sG0))))
    sStop
    sNx)
def m_need_office : Mf := mB 1 c_need_office
end Ds
end
section
set_option linter.all false
set_option Elab.async false
set_option maxRecDepth 100000
open PySem PySem.Spec PyProof.Rows L2
namespace Ds
def c__law_draw : SS :=
  (sSeq (sIf (sTst (sBin gGt (sIxV 0 (sK (.int 0))) (sK (.int 0))))
    (sSeq (sSet 3 (sBin gMod (sIxV 0 (sK (.int 0))) (sVar 1)))
    (sSeq (sSetIx 0 (sK (.int 0)) (sBin gDiv (sIxV 0 (sK (.int 0))) (sVar 1)))
    (sRet (sVar 3))))
    sNx)
  (sSeq (sSetIx 0 (sK (.int 2)) (sBin gAdd (sIxV 0 (sK (.int 2))) (sK (.int 1))))
  (sSeq (sSet 2 (sBin gMod (sBin gPowB (sBin gAdd (sIxV 0 (sK (.int 1))) (sBin gMul (sK (.int 49979687)) (sIxV 0 (sK (.int 2))))) (sK (.int 3))) (sBin gAdd (sBin gPow (sK (.int 10)) (sK (.int 38))) (sK (.int 133)))))
  (sSeq (sSet 2 (sBin gMod (sBin gPowB (sBin gAdd (sVar 2) (sBin gMul (sK (.int 67867967)) (sIxV 0 (sK (.int 2))))) (sK (.int 5))) (sBin gAdd (sBin gPow (sK (.int 10)) (sK (.int 37))) (sK (.int 43)))))
  (sRet (sBin gMod (sBin gDiv (sVar 2) (sK (.int 1048576))) (sVar 1)))))))
def m__law_draw : Mf := mB 4 c__law_draw
def c__law_day : SS :=
  (sSeq (sSetNew 3 (sListN (sCons (sVar 1) sNil)))
  (sSeq (sFor (sISq (sVar 2)) (gNm 4)
    (sSeq (sSet 5 (sLixV 3 (sVar 4)))
    (sIf (sTst (sBin gGt (sVar 5) (sK (.int 0))))
      (sSeq (sSet 6 (sBin gIx (sVar 0) (sBin gSub_ (sVar 5) (sK (.int 1)))))
      (sAsg (gTp (gNC (gSubI 3 (sVar 5)) (gNC (gSubI 3 (sVar 6)) gN0))) (sTup (sCons (sIxV 3 (sVar 6)) (sCons (sIxV 3 (sVar 5)) sNil)))))
      sNx)))
  (sRet (sRd lTup (sLVar 3)))))
def c__law_office : SS :=
  (sSeq (sSet 2 (sNE (sLst (sCons (sBin gAdd (sK (.int 1)) (sCallV m__law_draw (sGr 0 (sGv (sCallB gMin (sCons (sVar 1) (sCons (sK (.int 6)) sNil))) sG0)))) (sCons (sBin gAdd (sK (.int 1)) (sCallV m__law_draw (sGr 0 (sGv (sVar 1) sG0)))) (sCons (sVar 1) sNil))))))
  (sSeq (sParV 5 6 (sCons (sBin gIx (sVar 2) (sCallV m__law_draw (sGr 0 (sGv (sK (.int 3)) sG0)))) (sCons (sCallV m__law_draw (sGr 0 (sGv (sK (.int 5)) sG0))) sNil)))
  (sSeq (sSetNew 3 (sLst sNil))
  (sSeq (sFor (sRng2 (sCons (sK (.int 1)) (sCons (sVar 5) sNil))) (gNm 4)
    (sSeq (sParV3 7 8 9 (sCons (sCallV m__law_draw (sGr 0 (sGv (sVar 4) sG0))) (sCons (sCallV m__law_draw (sGr 0 (sGv (sK (.int 3)) sG0))) (sCons (sCallV m__law_draw (sGr 0 (sGv (sCallB gMin (sCons (sVar 4) (sCons (sK (.int 4)) sNil))) sG0))) sNil))))
    (sDrop (sAppend 3 (sBin gIx (sNE (sLst (sCons (sBin gSub_ (sVar 4) (sK (.int 1))) (sCons (sK (.int 0)) (sCons (sVar 7) (sCons (sCallB gMax (sCons (sK (.int 0)) (sCons (sBin gSub_ (sBin gSub_ (sVar 4) (sK (.int 1))) (sVar 8)) sNil))) (sCons (sVar 9) sNil))))))) (sVar 6))))))
  (sRet (sRd lTup (sLVar 3)))))))
def m__law_office : Mf := mB 10 c__law_office
def c__law_names : SS :=
  (sSeq (sSetNew 2 (sCatN (sNE (sListS (sCons (sK (.str (Str.ofString "abcdefghijklmnopqrstuvwxyz"))) sNil))) (sNE (sLst (sCons (sK (.str (Str.ofString "ab"))) (sCons (sK (.str (Str.ofString "ba"))) (sCons (sK (.str (Str.ofString "aa"))) (sCons (sK (.str (Str.ofString "zz"))) (sCons (sK (.str (Str.ofString "zzzzzzzz"))) (sCons (sK (.str (Str.ofString "zzzzzzza"))) (sCons (sK (.str (Str.ofString "open"))) (sCons (sK (.str (Str.ofString "call"))) (sCons (sK (.str (Str.ofString "days"))) sNil)))))))))))))
  (sSeq (sSetNew 2 (sCatV 2 (sNE (sLst (sCons (sK (.str (Str.ofString "order"))) (sCons (sK (.str (Str.ofString "silent"))) (sCons (sK (.str (Str.ofString "center"))) (sCons (sK (.str (Str.ofString "at"))) (sCons (sK (.str (Str.ofString "none"))) sNil)))))))))
  (sRet (sRd lTup (sLc (sRng1 (sCons (sVar 1) sNil)) (gNm 3) sYes (sPop 2 (sCallV m__law_draw (sGr 0 (sGv (sRd lLen (sLVar 2)) sG0)))) [3])))))
def m__law_names : Mf := mB 4 c__law_names
def c__law_called : SS :=
  (sSeq (sSetNew 2 (sListN (sCons (sVar 1) sNil)))
  (sSeq (sSet 3 (sNE (sLst (sCons (sRd lLen (sLVar 2)) (sCons (sCallV m__law_draw (sGr 0 (sGv (sBin gAdd (sRd lLen (sLVar 2)) (sK (.int 1))) sG0))) (sCons (sRd lLen (sLVar 2)) (sCons (sCallB gMin (sCons (sRd lLen (sLVar 2)) (sCons (sCallV m__law_draw (sGr 0 (sGv (sK (.int 4)) sG0))) sNil))) sNil)))))))
  (sRet (sRd lTup (sLc (sRng1 (sCons (sBin gIx (sVar 3) (sCallV m__law_draw (sGr 0 (sGv (sK (.int 4)) sG0)))) sNil)) (gNm 4) sYes (sPop 2 (sCallV m__law_draw (sGr 0 (sGv (sRd lLen (sLVar 2)) sG0)))) [4])))))
def m__law_called : Mf := mB 5 c__law_called
end Ds
end
section
set_option linter.all false
set_option Elab.async false
set_option maxRecDepth 100000
open PySem PySem.Spec PyProof.Rows L2
namespace Ds
def c__law_potP : SS :=
  (sSeq (sSet 2 (sK (.int 0)))
  (sSeq (sIf (sTst (sBin gLt (sVar 1) (sCallB gLenS (sCons (sVar 0) sNil))))
    (sSet 2 (sBin gIxS (sVar 0) (sVar 1)))
    sNx)
  (sRetNew (sLst (sCons (sCallB gMax (sCons (sK (.int 0)) (sCons (sBin gSub_ (sVar 2) (sBin gPow (sK (.int 10)) (sK (.int 18)))) sNil))) (sCons (sBin gAdd (sBin gAdd (sBin gMod (sVar 2) (sBin gAdd (sBin gPow (sK (.int 10)) (sK (.int 38))) (sK (.int 133)))) (sBin gMul (sK (.int 30011)) (sVar 1))) (sK (.int 3))) (sCons (sK (.int 0)) sNil)))))))
def m__law_potP : Mf := mB 3 c__law_potP
def c__law_drawP : SS :=
  (sSeq (sIf (sTst (sBin gGt (sIxV 0 (sK (.int 0))) (sK (.int 0))))
    (sSeq (sSet 3 (sBin gMod (sIxV 0 (sK (.int 0))) (sVar 1)))
    (sSeq (sSetIx 0 (sK (.int 0)) (sBin gDiv (sIxV 0 (sK (.int 0))) (sVar 1)))
    (sRet (sVar 3))))
    sNx)
  (sSeq (sSetIx 0 (sK (.int 2)) (sBin gAdd (sIxV 0 (sK (.int 2))) (sK (.int 1))))
  (sSeq (sSet 2 (sBin gMod (sBin gPowB (sBin gAdd (sIxV 0 (sK (.int 1))) (sBin gMul (sK (.int 53471161)) (sIxV 0 (sK (.int 2))))) (sK (.int 3))) (sBin gAdd (sBin gPow (sK (.int 10)) (sK (.int 41))) (sK (.int 37)))))
  (sSeq (sSet 2 (sBin gMod (sBin gPowB (sBin gAdd (sVar 2) (sBin gMul (sK (.int 71755423)) (sIxV 0 (sK (.int 2))))) (sK (.int 3))) (sBin gAdd (sBin gPow (sK (.int 10)) (sK (.int 40))) (sK (.int 121)))))
  (sRet (sBin gMod (sBin gDiv (sVar 2) (sK (.int 524287))) (sVar 1)))))))
def m__law_drawP : Mf := mB 4 c__law_drawP
def c__law_officeP : SS :=
  (sSeq (sSet 2 (sCallB gMin (sCons (sVar 1) (sCons (sBin gAdd (sK (.int 1)) (sCallV m__law_drawP (sGr 0 (sGv (sBin gIx (sNE (sLst (sCons (sK (.int 4)) (sCons (sVar 1) sNil)))) (sCallV m__law_drawP (sGr 0 (sGv (sK (.int 2)) sG0)))) sG0)))) sNil))))
  (sSeq (sParVN 4 5 (sCallV m__law_drawP (sGr 0 (sGv (sK (.int 4)) sG0))) (sLst sNil))
  (sSeq (sFor (sRng1 (sCons (sBin gSub_ (sVar 2) (sK (.int 1))) sNil)) (gNm 3)
    (sSeq (sSet 6 (sBin gSub_ (sVar 3) (sCallB gMin (sCons (sVar 3) (sCons (sCallV m__law_drawP (sGr 0 (sGv (sK (.int 4)) sG0))) sNil)))))
    (sDrop (sAppend 5 (sBin gIx (sNE (sLst (sCons (sVar 3) (sCons (sK (.int 0)) (sCons (sCallV m__law_drawP (sGr 0 (sGv (sBin gAdd (sVar 3) (sK (.int 1))) sG0))) (sCons (sVar 6) sNil)))))) (sVar 4))))))
  (sRet (sRd lTup (sLVar 5))))))
def m__law_officeP : Mf := mB 7 c__law_officeP
def c__law_mixedP : SS :=
  (sSeq (sSetNew 2 (sListN (sCons (sVar 1) sNil)))
  (sRetNew (sLc (sRng1 (sCons (sCallB gLen (sCons (sVar 1) sNil)) sNil)) (gNm 3) sYes (sPop 2 (sCallV m__law_drawP (sGr 0 (sGv (sRd lLen (sLVar 2)) sG0)))) [3])))
def m__law_mixedP : Mf := mB 4 c__law_mixedP
def c__law_namesP : SS :=
  (sSeq (sSet 2 (sK (.str (Str.ofString "abcdefghijklmnopqrstuvwxyz"))))
  (sSeq (sSet 3 (sBin gAdd (sBin gAdd (sNE (sLc (sIS (sVar 2)) (gNm 5) sYes (sVar 5) [5])) (sNE (sLc (sIS (sVar 2)) (gNm 5) sYes (sBin gAdd (sK (.str (Str.ofString "a"))) (sVar 5)) [5]))) (sNE (sLc (sIS (sK (.str (Str.ofString "xyz")))) (gNm 4) sYes (sBin gAdd (sK (.str (Str.ofString "zzzzzzz"))) (sVar 4)) [4]))))
  (sRet (sCallB gTupT (sCons (sCut (sNE (sCallN m__law_mixedP (sGr 0 (sGv (sVar 3) sG0)))) sP0 (sP1 (sVar 1))) sNil)))))
def m__law_namesP : Mf := mB 6 c__law_namesP
end Ds
end
section
set_option linter.all false
set_option Elab.async false
set_option maxRecDepth 100000
open PySem PySem.Spec PyProof.Rows L2
namespace Ds
def c__law_dayP : SS :=
  (sSeq (sPar 4 5 (sListN (sCons (sVar 1) sNil)) (sLst sNil))
  (sSeq (sFor (sISq (sVar 2)) (gNm 3)
    (sSeq (sSet 6 (sLixV 4 (sVar 3)))
    (sSeq (sDrop (sAppend 5 (sVar 6)))
    (sIf (sTst (sBin gGt (sVar 6) (sK (.int 0))))
      (sSeq (sSet 7 (sBin gIx (sVar 0) (sBin gSub_ (sVar 6) (sK (.int 1)))))
      (sAsg (gTp (gNC (gSubI 4 (sVar 6)) (gNC (gSubI 4 (sVar 7)) gN0))) (sTup (sCons (sIxV 4 (sVar 7)) (sCons (sVar 3) sNil)))))
      sNx))))
  (sRetOwn 5)))
def m__law_dayP : Mf := mB 8 c__law_dayP
def c__law_dueP : SS :=
  (sSeq (sPar 2 3 (sLstRg (sBin gAdd (sCallB gLen (sCons (sVar 0) sNil)) (sK (.int 1)))) (sLst sNil))
  (sSeq (sFor (sIEnL (sCons (sVar 1) sNil)) (gTp (gNC (gNm 4) (gNC (gNm 5) gN0)))
    (sSeq (sIf (sTst (sInN false (sIxV 2 (sVar 5)) (sLVar 3)))
      (sRet (sVar 4))
      sNx)
    (sSeq (sDrop (sAppend 3 (sIxV 2 (sVar 5))))
    (sIf (sTst (sBin gGt (sVar 5) (sK (.int 0))))
      (sSeq (sSet 6 (sBin gIx (sVar 0) (sBin gSub_ (sVar 5) (sK (.int 1)))))
      (sAsg (gTp (gNC (gSubI 2 (sVar 5)) (gNC (gSubI 2 (sVar 6)) gN0))) (sTup (sCons (sIxV 2 (sVar 6)) (sCons (sIxV 2 (sVar 5)) sNil)))))
      sNx))))
  (sFrz 3 (sRet (sVar 3)))))
def m__law_dueP : Mf := mB 7 c__law_dueP
def c_need_persons : SS :=
  (sIf (sOr (sNot (sTst (sCallV m_are_different_names (sGv (sVar 1) sG0)))) (sTst (sBin gGt (sCallB gLen (sCons (sVar 1) sNil)) (sBin gAdd (sCallB gLen (sCons (sVar 0) sNil)) (sK (.int 1))))))
    sStop
    sNx)
def m_need_persons : Mf := mB 2 c_need_persons
def c_need_desks : SS :=
  (sSeq (sIf (sOr (sNot (sTst (sIsi "tuple" (sVar 2)))) (sTst (sBin gNe (sCallB gLen (sCons (sVar 2) sNil)) (sCallB gLen (sCons (sVar 1) sNil)))))
    sStop
    sNx)
  (sIf (sNot (sTst (sRd lAll (sLc (sISq (sVar 2)) (gNm 3) sYes (sCallV m_is_number (sGv (sVar 3) (sGv (sK (.int 0)) (sGv (sCallB gLen (sCons (sVar 0) sNil)) sG0)))) [3]))))
    sStop
    sNx))
def m_need_desks : Mf := mB 4 c_need_desks
def c_seating_from_desks : SS :=
  (sSeq (sDrop (sCallV m_need_office (sGv (sVar 0) sG0)))
  (sSeq (sDrop (sCallV m_need_persons (sGv (sVar 0) (sGv (sVar 1) sG0))))
  (sSeq (sDrop (sCallV m_need_desks (sGv (sVar 0) (sGv (sVar 1) (sGv (sVar 2) sG0)))))
  (sSeq (sSetNew 3 (sLstRg (sBin gAdd (sCallB gLen (sCons (sVar 0) sNil)) (sK (.int 1)))))
  (sSeq (sSetNew 4 (sLst sNil))
  (sSeq (sFor (sIEnT (sCons (sVar 2) sNil)) (gTp (gNC (gNm 5) (gNC (gNm 6) gN0)))
    (sSeq (sIf (sTst (sInN false (sIxV 3 (sVar 6)) (sLVar 4)))
      (sRaiseN "Impossible" "index" (sVar 5))
      sNx)
    (sSeq (sDrop (sAppend 4 (sIxV 3 (sVar 6))))
    (sIf (sTst (sBin gGt (sVar 6) (sK (.int 0))))
      (sSeq (sSet 7 (sBin gIx (sVar 0) (sBin gSub_ (sVar 6) (sK (.int 1)))))
      (sAsg (gTp (gNC (gSubI 3 (sVar 7)) (gNC (gSubI 3 (sVar 6)) gN0))) (sTup (sCons (sIxV 3 (sVar 6)) (sCons (sIxV 3 (sVar 7)) sNil)))))
      sNx))))
  (sRetOwn 4)))))))
def m_seating_from_desks : Mf := mB 8 c_seating_from_desks
def c__law_toldP : SS :=
  (sSeq (sSet 3 (sK .none))
  (sSeq (sTryS ERRS 4
    (sSetNew 3 (sCallN m_seating_from_desks (sGv (sVar 0) (sGv (sVar 1) (sGv (sVar 2) sG0)))))
    (sSet 3 (sFld "Impossible" "index" (sVar 4))))
  (sAlt (sRetOwn 3) (sRet (sVar 3)))))
def m__law_toldP : Mf := mB 5 c__law_toldP
def c__law_rightP : SS :=
  (sSeq (sSet 1 (sCallV m__law_officeP (sGr 0 (sGv (sK (.int 40)) sG0))))
  (sSeq (sSet 2 (sCallV m__law_namesP (sGr 0 (sGv (sBin gAdd (sCallB gLen (sCons (sVar 1) sNil)) (sK (.int 1))) sG0))))
  (sSeq (sSet 3 (sCallB gTupT (sCons (sCut (sNE (sCallN m__law_mixedP (sGr 0 (sGv (sVar 2) sG0)))) sP0 (sP1 (sBin gSub_ (sCallB gLen (sCons (sVar 2) sNil)) (sCallV m__law_drawP (sGr 0 (sGv (sBin gIx (sNE (sLst (sCons (sK (.int 1)) (sCons (sBin gAdd (sCallB gLen (sCons (sVar 2) sNil)) (sK (.int 1))) sNil)))) (sCallV m__law_drawP (sGr 0 (sGv (sK (.int 2)) sG0)))) sG0)))))) sNil)))
  (sSeq (sSet 4 (sNE (sCallN m__law_dayP (sGv (sVar 1) (sGv (sVar 2) (sGv (sVar 3) sG0))))))
  (sSeq (sSet 5 (sNE (sLc (sISq (sVar 3)) (gNm 11) sYes (sTix (sVar 2) (sVar 11)) [11])))
  (sSeq (sIf (sTst (sBin gNe (sRd lRepr (sCallN m_seating_from_desks (sGv (sVar 1) (sGv (sVar 3) (sGv (sCallB gTupT (sCons (sVar 4) sNil)) sG0))))) (sRepr (sVar 5))))
    (sRet (sK (.bool false)))
    sNx)
  (sSeq (sSetNew 6 (sLst (sCons (sNE (sLc (sISq (sVar 3)) (gNm 11) sYes (sCallV m__law_drawP (sGr 0 (sGv (sCallB gLen (sCons (sVar 2) sNil)) sG0))) [11])) sNil)))
  (sSeq (sFor (sRng1 (sCons (sK (.int 3)) sNil)) (gNm 7)
    (sSeq (sSetNew 8 (sListN (sCons (sVar 4) sNil)))
    (sSeq (sFor (sRng1 (sCons (sBin gMul (sCallV m__law_drawP (sGr 0 (sGv (sK (.int 3)) sG0))) (sCallB gInt1 (sCons (sBin gNe (sVar 3) (sTup sNil)) sNil))) sNil)) (gNm 9)
      (sSetIx 8 (sCallV m__law_drawP (sGr 0 (sGv (sRd lLen (sLVar 8)) sG0))) (sCallV m__law_drawP (sGr 0 (sGv (sCallB gLen (sCons (sVar 2) sNil)) sG0)))))
    (sFrz 8 (sDrop (sAppend 6 (sVar 8)))))))
  (sFrz 6 (sSeq (sFor (sIL (sVar 6)) (gNm 8)
    (sSeq (sParV 12 13 (sCons (sRd lRepr (sLst (sCons (sVar 1) (sCons (sVar 3) (sCons (sVar 8) sNil))))) (sCons (sCallV m__law_dueP (sGv (sVar 1) (sGv (sVar 8) sG0))) sNil)))
    (sSeq (sAlt (sSetNew 10 (sCallN m__law_toldP (sGv (sVar 1) (sGv (sVar 3) (sGv (sRd lTup (sLVar 8)) sG0))))) (sSet 10 (sCallV m__law_toldP (sGv (sVar 1) (sGv (sVar 3) (sGv (sRd lTup (sLVar 8)) sG0))))))
    (sSeq (sIf (sOr (sTst (sBin gNe (eAlt (sRd lRepr (sLVar 10)) (sRepr (sVar 10))) (sRepr (sVar 13)))) (sTst (sBin gNe (sRd lRepr (sLst (sCons (sVar 1) (sCons (sVar 3) (sCons (sVar 8) sNil))))) (sVar 12))))
      (sRet (sK (.bool false)))
      sNx)
    (sIf (sTst (eAlt (sIsLN (sLVar 10)) (sIsNL (sVar 10))))
      (sSeq (sDrop (sAppend 10 (sK (.int 0))))
      (sIf (sTst (sBin gNe (sNE (sCallN m_seating_from_desks (sGv (sVar 1) (sGv (sVar 3) (sGv (sRd lTup (sLVar 8)) sG0))))) (sVar 13)))
        (sRet (sK (.bool false)))
        sNx))
      sNx)))))
  (sRet (sK (.bool true)))))))))))))
def m__law_rightP : Mf := mB 14 c__law_rightP
def c_law : SS :=
  (sSeq (sFor (sRng1 (sCons (sCallB gMax (sCons (sK (.int 1)) (sCons (sCallB gMin (sCons (sK (.int 4)) (sCons (sCallB gLenS (sCons (sVar 0) sNil)) sNil))) sNil))) sNil)) (gNm 1)
    (sSeq (sSetNew 2 (sCallN m__law_potP (sGv (sVar 0) (sGv (sVar 1) sG0))))
    (sFor (sRng1 (sCons (sK (.int 3)) sNil)) (gNm 3)
      (sIf (sNot (sTst (sCallV m__law_rightP (sGr 2 sG0))))
        (sRet (sK (.bool false)))
        sNx))))
  (sRet (sBin gEq (sCallV m__law_toldP (sGv (sTup (sCons (sK (.int 0)) (sCons (sK (.int 0)) (sCons (sK (.int 2)) sNil)))) (sGv (sCallB gTupSt (sCons (sK (.str (Str.ofString "abcd"))) sNil)) (sGv (sTup (sCons (sK (.int 0)) (sCons (sK (.int 0)) (sCons (sK (.int 1)) (sCons (sK (.int 2)) sNil))))) sG0)))) (sK (.int 1)))))
def m_law : Mf := mB 4 c_law
end Ds
end
section
set_option linter.all false
set_option maxRecDepth 100000
set_option maxHeartbeats 1000000
open PySem PySem.Spec PyProof.Rows L2
namespace Ds
theorem hr100 {k : Nat} {A : Around} (r : Room k A) : A.units + 100 < cLine := by have := r.un; omega
def topS (i : Nat) : Stmt := PySem.Challenge.pw_deskswaps_k42_desks_read.main.body.getD i (.Pass ⟨0, 0, 0, 0⟩)
section
variable {P : Program} {w : World} {K : PySem.W.Frag} {mg : Str → Option Value} {base : Heap}
abbrev S_is_whole : Stmt := topS 9
abbrev N_is_whole : List Str := ["value"]
theorem sc_is_whole : FnScope N_is_whole ["value"] (defScope S_is_whole) := ⟨rfl, rfl, rfl, by decide +kernel, rfl, by decide +kernel, by decide +kernel⟩
theorem ok_is_whole {f : Addr} {fd : FuncData} (F : Fun K "is_whole" "is_whole" S_is_whole f fd)
    (z_isinstance : mg "isinstance" = none)
    (z_int : mg "int" = none)
    (z_bool : mg "bool" = none) : FnG P w K mg base 1 f fd ["value"] (spM K mg m_is_whole 1) :=
  fn_ok F sc_is_whole fun cdv A outer sh H E C gd hr => (s_one (s_ret (e_and (e_isi rfl z_isinstance (e_var (i := 0) (pv 0)) (pe_bltn (v := .ty "int") rfl z_int (by decide +kernel) rfl)) (pe_one (e_not (e_isi rfl z_isinstance (e_var (i := 0) (pv 0)) (pe_bltn (v := .ty "bool") rfl z_bool (by decide +kernel) rfl)))))))
abbrev S_is_name : Stmt := topS 11
abbrev N_is_name : List Str := ["value", "letter"]
theorem sc_is_name : FnScope N_is_name ["value"] (defScope S_is_name) := ⟨rfl, rfl, rfl, by decide +kernel, rfl, by decide +kernel, by decide +kernel⟩
theorem ok_is_name {f : Addr} {fd : FuncData} (F : Fun K "is_name" "is_name" S_is_name f fd)
    (z_all : mg "all" = none)
    (z_isinstance : mg "isinstance" = none)
    (z_str : mg "str" = none)
    (z_len : mg "len" = none)
    {t_LONGEST_NAME : Tok} (z_LONGEST_NAME : mg "LONGEST_NAME" = some (.int 8 t_LONGEST_NAME))
    {t_LETTERS : Tok} (z_LETTERS : mg "LETTERS" = some (.str (Str.ofString "abcdefghijklmnopqrstuvwxyz") t_LETTERS)) : FnG P w K mg base 1 f fd ["value"] (spM K mg m_is_name 1) :=
  fn_ok F sc_is_name fun cdv A outer sh H E C gd hr => (s_cons (s_if (PW.pt (w_or (t_not (t_val (e_isi rfl z_isinstance (e_var (i := 0) (pv 0)) (pe_bltn (v := .ty "str") rfl z_str (by decide +kernel) rfl)))) (pw_or1 (t_not (t_chain op_le op_le od_le od_le e_int (e_callB call_len cd_len rfl z_len (by decide +kernel) (a_cons (e_var (i := 0) (pv 0)) a_nil)) (e_con (d := .int 8) (v := .int 8) (pe_glob rfl z_LONGEST_NAME ⟨_, rfl⟩) (fun _ _ => .int _)))))))
    (s_one (s_ret e_bl))
    s_nil)
  (s_one (s_ret (e_rdB (cr_all rfl) ld_all rfl z_all (by decide +kernel) (l_of_n (n_lc rfl sc_is_name.nd (own := [("letter", 1)]) plain_nm (by decide) (i_str (e_var (i := 0) (pv 0))) (blkOk_by (own := [("letter", 1)]) (N := N_is_name) (sc := defScope S_is_name) (by decide +kernel)) (fun _ _ _ _ _ _ => (g_name (pg_name (i := 1) sc_is_name.nd rfl (by first | exact Or.inl rfl | exact Or.inr rfl)))) (fun _ _ _ _ _ _ => ts_nil) (fun _ _ _ _ _ _ => (e_cmp op_in_str od_in (e_var (i := 1) (pv 1)) (e_con (d := .str (Str.ofString "abcdefghijklmnopqrstuvwxyz")) (v := .str (Str.ofString "abcdefghijklmnopqrstuvwxyz")) (pe_glob rfl z_LETTERS ⟨_, rfl⟩) (fun _ _ => .str _)) rfl))))))))
abbrev S__law_pot : Stmt := topS 22
abbrev N__law_pot : List Str := ["script", "k", "cell"]
theorem sc__law_pot : FnScope N__law_pot ["script", "k"] (defScope S__law_pot) := ⟨rfl, rfl, rfl, by decide +kernel, rfl, by decide +kernel, by decide +kernel⟩
theorem ok__law_pot {f : Addr} {fd : FuncData} (F : Fun K "_law_pot" "_law_pot" S__law_pot f fd)
    (z_len : mg "len" = none)
    (z_max : mg "max" = none) : FnG P w K mg base 1 f fd ["script", "k"] (spM K mg m__law_potP 2) :=
  fn_ok F sc__law_pot fun cdv A outer sh H E C gd hr => (s_cons (s_set (i := 2) e_int (fun h => ps_set (i := 2) sc__law_pot.nd rfl (by first | exact Or.inl rfl | exact Or.inr rfl) h))
  (s_cons (s_if (t_cmp op_lt od_lt (e_var (i := 1) (pv 1)) (e_callB call_len cd_lenS rfl z_len (by decide +kernel) (a_cons (e_var (i := 0) (pv 0)) a_nil)) (nomark _))
    (s_one (s_set (i := 2) (e_ix ix_seq od_ixS (e_var (i := 0) (pv 0)) (e_var (i := 1) (pv 1)) (fun _ _ => rfl)) (fun h => ps_set (i := 2) sc__law_pot.nd rfl (by first | exact Or.inl rfl | exact Or.inr rfl) h)))
    s_nil)
  (s_one (s_retNew (n_lst (a_cons (e_callB (call_max2 rfl) cd_max rfl z_max (by decide +kernel) (a_cons e_int (a_cons (e_bin op_sub od_sub (e_var (i := 2) (pv 2)) (e_bin op_pow od_pow e_int e_int)) a_nil))) (a_cons (e_bin or_add od_add (e_bin or_add od_add (e_bin op_mod od_mod (e_var (i := 2) (pv 2)) (e_bin or_add od_add (e_bin op_pow od_pow e_int e_int) e_int)) (e_bin op_mulW od_mul e_int (e_var (i := 1) (pv 1)))) e_int) (a_cons e_int a_nil))))))))
abbrev S__law_draw : Stmt := topS 23
abbrev N__law_draw : List Str := ["pot", "bound", "mixed", "found"]
theorem sc__law_draw : FnScope N__law_draw ["pot", "bound"] (defScope S__law_draw) := ⟨rfl, rfl, rfl, by decide +kernel, rfl, by decide +kernel, by decide +kernel⟩
theorem ok__law_draw {f : Addr} {fd : FuncData} (F : Fun K "_law_draw" "_law_draw" S__law_draw f fd) : FnG P w K mg base 1 f fd ["pot", "bound"] (spM K mg m__law_drawP 2) :=
  fn_ok F sc__law_draw fun cdv A outer sh H E C gd hr => (s_cons (s_if (t_cmp op_gt od_gt (e_ixV (i := 0) (pv 0) e_int (fun _ _ => rfl)) e_int (nomark _))
    (s_cons (s_set (i := 3) (e_bin op_mod od_mod (e_ixV (i := 0) (pv 0) e_int (fun _ _ => rfl)) (e_var (i := 1) (pv 1))) (fun h => ps_set (i := 3) sc__law_draw.nd rfl (by first | exact Or.inl rfl | exact Or.inr rfl) h))
    (s_cons (s_setIx (i := 0) (e_bin op_fdivW od_div (e_ixV (i := 0) (pv 0) e_int (fun _ _ => rfl)) (e_var (i := 1) (pv 1))) e_int (fun h1 h2 => ps_asg h1 (pg_sub (pv 0) h2 set_list)))
    (s_one (s_ret (e_var (i := 3) (pv 3))))))
    s_nil)
  (s_cons (s_setIx (i := 0) (e_bin or_add od_add (e_ixV (i := 0) (pv 0) e_int (fun _ _ => rfl)) e_int) e_int (fun h1 h2 => ps_asg h1 (pg_sub (pv 0) h2 set_list)))
  (s_cons (s_set (i := 2) (e_bin op_mod od_mod (e_bin op_powB od_powB (e_bin or_add od_add (e_ixV (i := 0) (pv 0) e_int (fun _ _ => rfl)) (e_bin op_mulW od_mul e_int (e_ixV (i := 0) (pv 0) e_int (fun _ _ => rfl)))) e_int) (e_bin or_add od_add (e_bin op_pow od_pow e_int e_int) e_int)) (fun h => ps_set (i := 2) sc__law_draw.nd rfl (by first | exact Or.inl rfl | exact Or.inr rfl) h))
  (s_cons (s_set (i := 2) (e_bin op_mod od_mod (e_bin op_powB od_powB (e_bin or_add od_add (e_var (i := 2) (pv 2)) (e_bin op_mulW od_mul e_int (e_ixV (i := 0) (pv 0) e_int (fun _ _ => rfl)))) e_int) (e_bin or_add od_add (e_bin op_pow od_pow e_int e_int) e_int)) (fun h => ps_set (i := 2) sc__law_draw.nd rfl (by first | exact Or.inl rfl | exact Or.inr rfl) h))
  (s_one (s_ret (e_bin op_mod od_mod (e_bin op_fdivW od_div (e_var (i := 2) (pv 2)) e_int) (e_var (i := 1) (pv 1)))))))))
abbrev S__law_day : Stmt := topS 27
abbrev N__law_day : List Str := ["office", "seating", "order", "name", "people", "found", "desk", "boss"]
theorem sc__law_day : FnScope N__law_day ["office", "seating", "order"] (defScope S__law_day) := ⟨rfl, rfl, rfl, by decide +kernel, rfl, by decide +kernel, by decide +kernel⟩
theorem ok__law_day {f : Addr} {fd : FuncData} (F : Fun K "_law_day" "_law_day" S__law_day f fd)
    (z_list : mg "list" = none) : FnG P w K mg base 1 f fd ["office", "seating", "order"] (spM K mg m__law_dayP 3) :=
  fn_ok F sc__law_day fun cdv A outer sh H E C gd hr => (s_cons (s_par (i := 4) (j := 5) (n_list rfl z_list (by decide +kernel) (a_cons (e_var (i := 1) (pv 1)) a_nil)) (fun _ => (n_lst a_nil)) (by decide) (fun h1 h2 => ps_par rfl sc__law_day.nd rfl rfl (by decide) rfl rfl (pa_cons h1 (pa_cons h2 pa_nil)) (by rfl)))
  (s_cons (s_for (passes_of rfl) rfl plain_nm (i_seq (e_var (i := 2) (pv 2))) (g_name (pg_name (i := 3) sc__law_day.nd rfl (by first | exact Or.inl rfl | exact Or.inr rfl)))
    (s_cons (s_set (i := 6) (e_lixV (i := 4) (fun h => pe_bm PySem.F.plainAttrs_list PySem.F.slot_list_index PySem.F.type_list_index mt_index (pv 4) (pa_cons h pa_nil)) (e_var (i := 3) (pv 3))) (fun h => ps_set (i := 6) sc__law_day.nd rfl (by first | exact Or.inl rfl | exact Or.inr rfl) h))
    (s_cons (s_expr (e_app (i := 5) (fun h => pe_bm PySem.F.plainAttrs_list PySem.F.slot_list_append PySem.F.type_list_append mt_append (pv 5) (pa_cons h pa_nil)) (e_var (i := 6) (pv 6))))
    (s_one (s_if (t_cmp op_gt od_gt (e_var (i := 6) (pv 6)) e_int (nomark _))
      (s_cons (s_set (i := 7) (e_ix ix_seq od_ix (e_var (i := 0) (pv 0)) (e_bin op_sub od_sub (e_var (i := 6) (pv 6)) e_int) (fun _ _ => rfl)) (fun h => ps_set (i := 7) sc__law_day.nd rfl (by first | exact Or.inl rfl | exact Or.inr rfl) h))
      (s_one (s_asg (plain_t (plains_c plain_sub (plains_c plain_sub plains_0))) (e_tup (a_cons (e_ixV (i := 4) (pv 4) (e_var (i := 7) (pv 7)) (fun _ _ => rfl)) (a_cons (e_var (i := 3) (pv 3)) a_nil))) (g_tup rfl (gs_cons (g_subI (e_var (i := 6) (pv 6)) (fun h => pg_sub (pv 4) h set_list)) (gs_cons (g_subI (e_var (i := 7) (pv 7)) (fun h => pg_sub (pv 4) h set_list)) gs_nil)) (glc (glc gl0))) (fun h g => ps_asg h g))))
      s_nil)))))
  (s_one (s_retOwn (i := 5) (pv 5)))))
abbrev S__law_due : Stmt := topS 28
abbrev N__law_due : List Str := ["office", "desks", "marks", "found", "index", "desk", "boss"]
theorem sc__law_due : FnScope N__law_due ["office", "desks"] (defScope S__law_due) := ⟨rfl, rfl, rfl, by decide +kernel, rfl, by decide +kernel, by decide +kernel⟩
theorem ok__law_due {f : Addr} {fd : FuncData} (F : Fun K "_law_due" "_law_due" S__law_due f fd)
    (z_enumerate : mg "enumerate" = none)
    (z_list : mg "list" = none)
    (z_range : mg "range" = none)
    (z_len : mg "len" = none) : FnG P w K mg base 1 f fd ["office", "desks"] (spM K mg m__law_dueP 2) :=
  fn_ok F sc__law_due fun cdv A outer sh H E C gd hr => (s_cons (s_par (i := 2) (j := 3) (n_lstRg rfl rfl z_list rfl z_range (e_bin or_add od_add (e_callB call_len cd_len rfl z_len (by decide +kernel) (a_cons (e_var (i := 0) (pv 0)) a_nil)) e_int)) (fun _ => (n_lst a_nil)) (by decide) (fun h1 h2 => ps_par rfl sc__law_due.nd rfl rfl (by decide) rfl rfl (pa_cons h1 (pa_cons h2 pa_nil)) (by rfl)))
  (s_cons (s_for (passes_of rfl) rfl (plain_t (plains_c plain_nm (plains_c plain_nm plains_0))) (i_enumL rfl z_enumerate (a_cons (e_var (i := 1) (pv 1)) a_nil)) (g_tup rfl (gs_cons (g_name (pg_name (i := 4) sc__law_due.nd rfl (by first | exact Or.inl rfl | exact Or.inr rfl))) (gs_cons (g_name (pg_name (i := 5) sc__law_due.nd rfl (by first | exact Or.inl rfl | exact Or.inr rfl))) gs_nil)) (glc (glc gl0)))
    (s_cons (s_if (t_inN (e_ixV (i := 2) (pv 2) (e_var (i := 5) (pv 5)) (fun _ _ => rfl)) (l_var (i := 3) (pv 3)) rfl)
      (s_one (s_ret (e_var (i := 4) (pv 4))))
      s_nil)
    (s_cons (s_expr (e_app (i := 3) (fun h => pe_bm PySem.F.plainAttrs_list PySem.F.slot_list_append PySem.F.type_list_append mt_append (pv 3) (pa_cons h pa_nil)) (e_ixV (i := 2) (pv 2) (e_var (i := 5) (pv 5)) (fun _ _ => rfl))))
    (s_one (s_if (t_cmp op_gt od_gt (e_var (i := 5) (pv 5)) e_int (nomark _))
      (s_cons (s_set (i := 6) (e_ix ix_seq od_ix (e_var (i := 0) (pv 0)) (e_bin op_sub od_sub (e_var (i := 5) (pv 5)) e_int) (fun _ _ => rfl)) (fun h => ps_set (i := 6) sc__law_due.nd rfl (by first | exact Or.inl rfl | exact Or.inr rfl) h))
      (s_one (s_asg (plain_t (plains_c plain_sub (plains_c plain_sub plains_0))) (e_tup (a_cons (e_ixV (i := 2) (pv 2) (e_var (i := 6) (pv 6)) (fun _ _ => rfl)) (a_cons (e_ixV (i := 2) (pv 2) (e_var (i := 5) (pv 5)) (fun _ _ => rfl)) a_nil))) (g_tup rfl (gs_cons (g_subI (e_var (i := 5) (pv 5)) (fun h => pg_sub (pv 2) h set_list)) (gs_cons (g_subI (e_var (i := 6) (pv 6)) (fun h => pg_sub (pv 2) h set_list)) gs_nil)) (glc (glc gl0))) (fun h g => ps_asg h g))))
      s_nil)))))
  (ss_frz 3 (s_one (s_ret (e_var (i := 3) (pv 3)))))))
abbrev S_is_number : Stmt := topS 10
abbrev N_is_number : List Str := ["value", "low", "high"]
theorem sc_is_number : FnScope N_is_number ["value", "low", "high"] (defScope S_is_number) := ⟨rfl, rfl, rfl, by decide +kernel, rfl, by decide +kernel, by decide +kernel⟩
theorem ok_is_number {f : Addr} {fd : FuncData} (F : Fun K "is_number" "is_number" S_is_number f fd)
    {f_is_whole : Addr} {fd_is_whole : FuncData} (G_is_whole : FnG P w K mg base 1 f_is_whole fd_is_whole ["value"] (spM K mg m_is_whole 1)) (g_is_whole : mg "is_whole" = some (.ref f_is_whole)) (k_is_whole : PySem.W.keepIn K (.ref f_is_whole) = true) (b_is_whole : Binds K fd_is_whole ["value"] []) : FnG P w K mg base 2 f fd ["value", "low", "high"] (spM K mg m_is_number 3) :=
  fn_ok F sc_is_number fun cdv A outer sh H E C gd hr => (s_one (s_ret (e_and (e_call G_is_whole gd (hr.mono (by decide)) rfl g_is_whole k_is_whole b_is_whole (takes_of rfl rfl rfl rfl) (g_val (e_var (i := 0) (pv 0)) g_nil) (lnv ln0)) (pe_one (e_chain op_le op_le od_le od_le (e_var (i := 1) (pv 1)) (e_var (i := 0) (pv 0)) (e_var (i := 2) (pv 2)))))))
abbrev S_are_different_names : Stmt := topS 12
abbrev N_are_different_names : List Str := ["value", "item"]
theorem sc_are_different_names : FnScope N_are_different_names ["value"] (defScope S_are_different_names) := ⟨rfl, rfl, rfl, by decide +kernel, rfl, by decide +kernel, by decide +kernel⟩
theorem ok_are_different_names {f : Addr} {fd : FuncData} (F : Fun K "are_different_names" "are_different_names" S_are_different_names f fd)
    {f_is_name : Addr} {fd_is_name : FuncData} (G_is_name : FnG P w K mg base 1 f_is_name fd_is_name ["value"] (spM K mg m_is_name 1)) (g_is_name : mg "is_name" = some (.ref f_is_name)) (k_is_name : PySem.W.keepIn K (.ref f_is_name) = true) (b_is_name : Binds K fd_is_name ["value"] [])
    (z_len : mg "len" = none)
    (z_isinstance : mg "isinstance" = none)
    (z_tuple : mg "tuple" = none)
    (z_all : mg "all" = none)
    (z_set : mg "set" = none) : FnG P w K mg base 2 f fd ["value"] (spM K mg m_are_different_names 1) :=
  fn_ok F sc_are_different_names fun cdv A outer sh H E C gd hr => (s_cons (s_if (PW.pt (w_or (t_not (t_val (e_isi rfl z_isinstance (e_var (i := 0) (pv 0)) (pe_bltn (v := .ty "tuple") rfl z_tuple (by decide +kernel) rfl)))) (pw_or1 (t_not (t_val (e_rdB (cr_all rfl) ld_all rfl z_all (by decide +kernel) (l_of_n (n_lc rfl sc_are_different_names.nd (own := [("item", 1)]) plain_nm (by decide) (i_seq (e_var (i := 0) (pv 0))) (blkOk_by (own := [("item", 1)]) (N := N_are_different_names) (sc := defScope S_are_different_names) (by decide +kernel)) (fun _ _ _ _ _ _ => (g_name (pg_name (i := 1) sc_are_different_names.nd rfl (by first | exact Or.inl rfl | exact Or.inr rfl)))) (fun _ _ _ _ _ _ => ts_nil) (fun _ _ _ _ _ _ => (e_call G_is_name gd (hr.mono (by decide)) rfl g_is_name k_is_name b_is_name takes0 (g_val (e_var (i := 1) (pv 1)) g_nil) (lnv ln0)))))))))))
    (s_one (s_ret e_bl))
    s_nil)
  (s_one (s_ret (e_cmp (op_eqA hr.units) od_eq (e_lenSet rfl rfl z_len rfl z_set (e_var (i := 0) (pv 0))) (e_callB call_len cd_len rfl z_len (by decide +kernel) (a_cons (e_var (i := 0) (pv 0)) a_nil)) (nomark _)))))
abbrev S__law_office : Stmt := topS 24
abbrev N__law_office : List Str := ["pot", "most", "size", "k", "shape", "found", "near"]
theorem sc__law_office : FnScope N__law_office ["pot", "most"] (defScope S__law_office) := ⟨rfl, rfl, rfl, by decide +kernel, rfl, by decide +kernel, by decide +kernel⟩
theorem ok__law_office {f : Addr} {fd : FuncData} (F : Fun K "_law_office" "_law_office" S__law_office f fd)
    {f__law_draw : Addr} {fd__law_draw : FuncData} (G__law_draw : FnG P w K mg base 1 f__law_draw fd__law_draw ["pot", "bound"] (spM K mg m__law_drawP 2)) (g__law_draw : mg "_law_draw" = some (.ref f__law_draw)) (k__law_draw : PySem.W.keepIn K (.ref f__law_draw) = true) (b__law_draw : Binds K fd__law_draw ["pot", "bound"] [])
    (z_min : mg "min" = none)
    (z_range : mg "range" = none)
    (z_tuple : mg "tuple" = none) : FnG P w K mg base 2 f fd ["pot", "most"] (spM K mg m__law_officeP 2) :=
  fn_ok F sc__law_office fun cdv A outer sh H E C gd hr => (s_cons (s_set (i := 2) (e_callB (call_min2 rfl) cd_min rfl z_min (by decide +kernel) (a_cons (e_var (i := 1) (pv 1)) (a_cons (e_bin or_add od_add e_int (e_call G__law_draw gd (hr.mono (by decide)) rfl g__law_draw k__law_draw b__law_draw (takes_of rfl rfl rfl rfl) (g_ref (i := 0) (pv 0) (g_val (e_ix ix_seq od_ix (e_of_n (n_lst (a_cons e_int (a_cons (e_var (i := 1) (pv 1)) a_nil)))) (e_call G__law_draw gd (hr.mono (by decide)) rfl g__law_draw k__law_draw b__law_draw (takes_of rfl rfl rfl rfl) (g_ref (i := 0) (pv 0) (g_val e_int g_nil)) (lnr (lnv ln0))) (fun _ _ => rfl)) g_nil)) (lnr (lnv ln0)))) a_nil))) (fun h => ps_set (i := 2) sc__law_office.nd rfl (by first | exact Or.inl rfl | exact Or.inr rfl) h))
  (s_cons (s_parVN (i := 4) (j := 5) (e_call G__law_draw gd (hr.mono (by decide)) rfl g__law_draw k__law_draw b__law_draw (takes_of rfl rfl rfl rfl) (g_ref (i := 0) (pv 0) (g_val e_int g_nil)) (lnr (lnv ln0))) (n_lst a_nil) (fun h1 h2 => ps_par rfl sc__law_office.nd rfl rfl (by decide) rfl rfl (pa_cons h1 (pa_cons h2 pa_nil)) (by rfl)))
  (s_cons (s_for (passes_of rfl) rfl plain_nm (i_rng1 rfl z_range (a_cons (e_bin op_sub od_sub (e_var (i := 2) (pv 2)) e_int) a_nil)) (g_name (pg_name (i := 3) sc__law_office.nd rfl (by first | exact Or.inl rfl | exact Or.inr rfl)))
    (s_cons (s_set (i := 6) (e_bin op_sub od_sub (e_var (i := 3) (pv 3)) (e_callB (call_min2 rfl) cd_min rfl z_min (by decide +kernel) (a_cons (e_var (i := 3) (pv 3)) (a_cons (e_call G__law_draw gd (hr.mono (by decide)) rfl g__law_draw k__law_draw b__law_draw (takes_of rfl rfl rfl rfl) (g_ref (i := 0) (pv 0) (g_val e_int g_nil)) (lnr (lnv ln0))) a_nil)))) (fun h => ps_set (i := 6) sc__law_office.nd rfl (by first | exact Or.inl rfl | exact Or.inr rfl) h))
    (s_one (s_expr (e_app (i := 5) (fun h => pe_bm PySem.F.plainAttrs_list PySem.F.slot_list_append PySem.F.type_list_append mt_append (pv 5) (pa_cons h pa_nil)) (e_ix ix_seq od_ix (e_of_n (n_lst (a_cons (e_var (i := 3) (pv 3)) (a_cons e_int (a_cons (e_call G__law_draw gd (hr.mono (by decide)) rfl g__law_draw k__law_draw b__law_draw (takes_of rfl rfl rfl rfl) (g_ref (i := 0) (pv 0) (g_val (e_bin or_add od_add (e_var (i := 3) (pv 3)) e_int) g_nil)) (lnr (lnv ln0))) (a_cons (e_var (i := 6) (pv 6)) a_nil)))))) (e_var (i := 4) (pv 4)) (fun _ _ => rfl)))))))
  (s_one (s_ret (e_rdT call_tupF ld_tup rfl z_tuple (by decide +kernel) (l_var (i := 5) (pv 5))))))))
abbrev S__law_mixed : Stmt := topS 25
abbrev N__law_mixed : List Str := ["pot", "things", "left", "k"]
theorem sc__law_mixed : FnScope N__law_mixed ["pot", "things"] (defScope S__law_mixed) := ⟨rfl, rfl, rfl, by decide +kernel, rfl, by decide +kernel, by decide +kernel⟩
theorem ok__law_mixed {f : Addr} {fd : FuncData} (F : Fun K "_law_mixed" "_law_mixed" S__law_mixed f fd)
    {f__law_draw : Addr} {fd__law_draw : FuncData} (G__law_draw : FnG P w K mg base 1 f__law_draw fd__law_draw ["pot", "bound"] (spM K mg m__law_drawP 2)) (g__law_draw : mg "_law_draw" = some (.ref f__law_draw)) (k__law_draw : PySem.W.keepIn K (.ref f__law_draw) = true) (b__law_draw : Binds K fd__law_draw ["pot", "bound"] [])
    (z_list : mg "list" = none)
    (z_range : mg "range" = none)
    (z_len : mg "len" = none) : FnG P w K mg base 2 f fd ["pot", "things"] (spM K mg m__law_mixedP 2) :=
  fn_ok F sc__law_mixed fun cdv A outer sh H E C gd hr => (s_cons (s_setNew (i := 2) (n_list rfl z_list (by decide +kernel) (a_cons (e_var (i := 1) (pv 1)) a_nil)) (fun h => ps_set (i := 2) sc__law_mixed.nd rfl (by first | exact Or.inl rfl | exact Or.inr rfl) h))
  (s_one (s_retNew (n_lc rfl sc__law_mixed.nd (own := [("k", 3)]) plain_nm (by decide) (i_rng1 rfl z_range (a_cons (e_callB call_len cd_len rfl z_len (by decide +kernel) (a_cons (e_var (i := 1) (pv 1)) a_nil)) a_nil)) (blkOk_by (own := [("k", 3)]) (N := N__law_mixed) (sc := defScope S__law_mixed) (by decide +kernel)) (fun _ _ _ _ _ _ => (g_name (pg_name (i := 3) sc__law_mixed.nd rfl (by first | exact Or.inl rfl | exact Or.inr rfl)))) (fun _ _ _ _ _ _ => ts_nil) (fun _ _ _ _ _ _ => (e_pop (i := 2) (fun h => pe_bm PySem.F.plainAttrs_list PySem.F.slot_list_pop PySem.F.type_list_pop mt_popAt (pv 2) (pa_cons h pa_nil)) (e_call G__law_draw gd (hr.mono (by decide)) rfl g__law_draw k__law_draw b__law_draw takes0 (g_ref (i := 0) (pv 0) (g_val (e_rdB call_len ld_len rfl z_len (by decide +kernel) (l_var (i := 2) (pv 2))) g_nil)) (lnr (lnv ln0)))))))))
abbrev S_is_office : Stmt := topS 15
abbrev N_is_office : List Str := ["value", "index", "item"]
theorem sc_is_office : FnScope N_is_office ["value"] (defScope S_is_office) := ⟨rfl, rfl, rfl, by decide +kernel, rfl, by decide +kernel, by decide +kernel⟩
theorem ok_is_office {f : Addr} {fd : FuncData} (F : Fun K "is_office" "is_office" S_is_office f fd)
    {f_is_number : Addr} {fd_is_number : FuncData} (G_is_number : FnG P w K mg base 2 f_is_number fd_is_number ["value", "low", "high"] (spM K mg m_is_number 3)) (g_is_number : mg "is_number" = some (.ref f_is_number)) (k_is_number : PySem.W.keepIn K (.ref f_is_number) = true) (b_is_number : Binds K fd_is_number ["value", "low", "high"] [])
    (z_all : mg "all" = none)
    (z_isinstance : mg "isinstance" = none)
    (z_tuple : mg "tuple" = none)
    (z_len : mg "len" = none)
    (z_enumerate : mg "enumerate" = none)
    {t_MOST_DESKS : Tok} (z_MOST_DESKS : mg "MOST_DESKS" = some (.int 40 t_MOST_DESKS)) : FnG P w K mg base 3 f fd ["value"] (spM K mg m_is_office 1) :=
  fn_ok F sc_is_office fun cdv A outer sh H E C gd hr => (s_cons (s_if (PW.pt (w_or (t_not (t_val (e_isi rfl z_isinstance (e_var (i := 0) (pv 0)) (pe_bltn (v := .ty "tuple") rfl z_tuple (by decide +kernel) rfl)))) (pw_or1 (t_cmp op_ge od_ge (e_callB call_len cd_len rfl z_len (by decide +kernel) (a_cons (e_var (i := 0) (pv 0)) a_nil)) (e_con (d := .int 40) (v := .int 40) (pe_glob rfl z_MOST_DESKS ⟨_, rfl⟩) (fun _ _ => .int _)) (nomark _)))))
    (s_one (s_ret e_bl))
    s_nil)
  (s_one (s_ret (e_rdB (cr_all rfl) ld_all rfl z_all (by decide +kernel) (l_of_n (n_lc rfl sc_is_office.nd (own := [("index", 1), ("item", 2)]) (plain_t (plains_c plain_nm (plains_c plain_nm plains_0))) (by decide) (i_enumT rfl z_enumerate (a_cons (e_var (i := 0) (pv 0)) a_nil)) (blkOk_by (own := [("index", 1), ("item", 2)]) (N := N_is_office) (sc := defScope S_is_office) (by decide +kernel)) (fun _ _ _ _ _ _ => (g_tup rfl (gs_cons (g_name (pg_name (i := 1) sc_is_office.nd rfl (by first | exact Or.inl rfl | exact Or.inr rfl))) (gs_cons (g_name (pg_name (i := 2) sc_is_office.nd rfl (by first | exact Or.inl rfl | exact Or.inr rfl))) gs_nil)) (glc (glc gl0)))) (fun _ _ _ _ _ _ => ts_nil) (fun _ _ _ _ _ _ => (e_call G_is_number gd (hr.mono (by decide)) rfl g_is_number k_is_number b_is_number takes0 (g_val (e_var (i := 2) (pv 2)) (g_val e_int (g_val (e_var (i := 1) (pv 1)) g_nil))) (lnv (lnv (lnv ln0)))))))))))
abbrev S_need_persons : Stmt := topS 18
abbrev N_need_persons : List Str := ["office", "order"]
theorem sc_need_persons : FnScope N_need_persons ["office", "order"] (defScope S_need_persons) := ⟨rfl, rfl, rfl, by decide +kernel, rfl, by decide +kernel, by decide +kernel⟩
theorem ok_need_persons {f : Addr} {fd : FuncData} (F : Fun K "need_persons" "need_persons" S_need_persons f fd)
    {f_are_different_names : Addr} {fd_are_different_names : FuncData} (G_are_different_names : FnG P w K mg base 2 f_are_different_names fd_are_different_names ["value"] (spM K mg m_are_different_names 1)) (g_are_different_names : mg "are_different_names" = some (.ref f_are_different_names)) (k_are_different_names : PySem.W.keepIn K (.ref f_are_different_names) = true) (b_are_different_names : Binds K fd_are_different_names ["value"] [])
    (z_len : mg "len" = none) : FnG P w K mg base 3 f fd ["office", "order"] (spM K mg m_need_persons 2) :=
  fn_ok F sc_need_persons fun cdv A outer sh H E C gd hr => (s_one (s_if (PW.pt (w_or (t_not (t_val (e_call G_are_different_names gd (hr.mono (by decide)) rfl g_are_different_names k_are_different_names b_are_different_names (takes_of rfl rfl rfl rfl) (g_val (e_var (i := 1) (pv 1)) g_nil) (lnv ln0)))) (pw_or1 (t_cmp op_gt od_gt (e_callB call_len cd_len rfl z_len (by decide +kernel) (a_cons (e_var (i := 1) (pv 1)) a_nil)) (e_bin or_add od_add (e_callB call_len cd_len rfl z_len (by decide +kernel) (a_cons (e_var (i := 0) (pv 0)) a_nil)) e_int) (nomark _)))))
    (s_one s_never)
    s_nil))
abbrev S_need_desks : Stmt := topS 19
abbrev N_need_desks : List Str := ["office", "order", "desks", "desk"]
theorem sc_need_desks : FnScope N_need_desks ["office", "order", "desks"] (defScope S_need_desks) := ⟨rfl, rfl, rfl, by decide +kernel, rfl, by decide +kernel, by decide +kernel⟩
theorem ok_need_desks {f : Addr} {fd : FuncData} (F : Fun K "need_desks" "need_desks" S_need_desks f fd)
    {f_is_number : Addr} {fd_is_number : FuncData} (G_is_number : FnG P w K mg base 2 f_is_number fd_is_number ["value", "low", "high"] (spM K mg m_is_number 3)) (g_is_number : mg "is_number" = some (.ref f_is_number)) (k_is_number : PySem.W.keepIn K (.ref f_is_number) = true) (b_is_number : Binds K fd_is_number ["value", "low", "high"] [])
    (z_all : mg "all" = none)
    (z_isinstance : mg "isinstance" = none)
    (z_tuple : mg "tuple" = none)
    (z_len : mg "len" = none) : FnG P w K mg base 3 f fd ["office", "order", "desks"] (spM K mg m_need_desks 3) :=
  fn_ok F sc_need_desks fun cdv A outer sh H E C gd hr => (s_cons (s_if (PW.pt (w_or (t_not (t_val (e_isi rfl z_isinstance (e_var (i := 2) (pv 2)) (pe_bltn (v := .ty "tuple") rfl z_tuple (by decide +kernel) rfl)))) (pw_or1 (t_cmp (op_neA hr.units) od_ne (e_callB call_len cd_len rfl z_len (by decide +kernel) (a_cons (e_var (i := 2) (pv 2)) a_nil)) (e_callB call_len cd_len rfl z_len (by decide +kernel) (a_cons (e_var (i := 1) (pv 1)) a_nil)) (nomark _)))))
    (s_one s_never)
    s_nil)
  (s_one (s_if (t_not (t_val (e_rdB (cr_all rfl) ld_all rfl z_all (by decide +kernel) (l_of_n (n_lc rfl sc_need_desks.nd (own := [("desk", 3)]) plain_nm (by decide) (i_seq (e_var (i := 2) (pv 2))) (blkOk_by (own := [("desk", 3)]) (N := N_need_desks) (sc := defScope S_need_desks) (by decide +kernel)) (fun _ _ _ _ _ _ => (g_name (pg_name (i := 3) sc_need_desks.nd rfl (by first | exact Or.inl rfl | exact Or.inr rfl)))) (fun _ _ _ _ _ _ => ts_nil) (fun _ _ _ _ _ _ => (e_call G_is_number gd (hr.mono (by decide)) rfl g_is_number k_is_number b_is_number takes0 (g_val (e_var (i := 3) (pv 3)) (g_val e_int (g_val (e_callB call_len cd_len rfl z_len (by decide +kernel) (a_cons (e_var (i := 0) (pv 0)) a_nil)) g_nil))) (lnv (lnv (lnv ln0))))))))))
    (s_one s_never)
    s_nil)))
abbrev S__law_names : Stmt := topS 26
abbrev N__law_names : List Str := ["pot", "many", "letters", "some", "one", "letter"]
theorem sc__law_names : FnScope N__law_names ["pot", "many"] (defScope S__law_names) := ⟨rfl, rfl, rfl, by decide +kernel, rfl, by decide +kernel, by decide +kernel⟩
theorem ok__law_names {f : Addr} {fd : FuncData} (F : Fun K "_law_names" "_law_names" S__law_names f fd)
    {f__law_mixed : Addr} {fd__law_mixed : FuncData} (G__law_mixed : FnG P w K mg base 2 f__law_mixed fd__law_mixed ["pot", "things"] (spM K mg m__law_mixedP 2)) (g__law_mixed : mg "_law_mixed" = some (.ref f__law_mixed)) (k__law_mixed : PySem.W.keepIn K (.ref f__law_mixed) = true) (b__law_mixed : Binds K fd__law_mixed ["pot", "things"] [])
    (z_tuple : mg "tuple" = none) : FnG P w K mg base 3 f fd ["pot", "many"] (spM K mg m__law_namesP 2) :=
  fn_ok F sc__law_names fun cdv A outer sh H E C gd hr => (s_cons (s_set (i := 2) e_str (fun h => ps_set (i := 2) sc__law_names.nd rfl (by first | exact Or.inl rfl | exact Or.inr rfl) h))
  (s_cons (s_set (i := 3) (e_bin or_add od_add (e_bin or_add od_add (e_of_n (n_lc rfl sc__law_names.nd (own := [("letter", 5)]) plain_nm (by decide) (i_str (e_var (i := 2) (pv 2))) (blkOk_by (own := [("letter", 5)]) (N := N__law_names) (sc := defScope S__law_names) (by decide +kernel)) (fun _ _ _ _ _ _ => (g_name (pg_name (i := 5) sc__law_names.nd rfl (by first | exact Or.inl rfl | exact Or.inr rfl)))) (fun _ _ _ _ _ _ => ts_nil) (fun _ _ _ _ _ _ => (e_var (i := 5) (pv 5))))) (e_of_n (n_lc rfl sc__law_names.nd (own := [("letter", 5)]) plain_nm (by decide) (i_str (e_var (i := 2) (pv 2))) (blkOk_by (own := [("letter", 5)]) (N := N__law_names) (sc := defScope S__law_names) (by decide +kernel)) (fun _ _ _ _ _ _ => (g_name (pg_name (i := 5) sc__law_names.nd rfl (by first | exact Or.inl rfl | exact Or.inr rfl)))) (fun _ _ _ _ _ _ => ts_nil) (fun _ _ _ _ _ _ => (e_bin or_add od_add e_str (e_var (i := 5) (pv 5))))))) (e_of_n (n_lc rfl sc__law_names.nd (own := [("one", 4)]) plain_nm (by decide) (i_str e_str) (blkOk_by (own := [("one", 4)]) (N := N__law_names) (sc := defScope S__law_names) (by decide +kernel)) (fun _ _ _ _ _ _ => (g_name (pg_name (i := 4) sc__law_names.nd rfl (by first | exact Or.inl rfl | exact Or.inr rfl)))) (fun _ _ _ _ _ _ => ts_nil) (fun _ _ _ _ _ _ => (e_bin or_add od_add e_str (e_var (i := 4) (pv 4))))))) (fun h => ps_set (i := 3) sc__law_names.nd rfl (by first | exact Or.inl rfl | exact Or.inr rfl) h))
  (s_one (s_ret (e_callTy call_tupF cd_tup rfl z_tuple (by decide +kernel) (a_cons (e_cut (e_of_n (n_call G__law_mixed gd (hr.mono (by decide)) rfl g__law_mixed k__law_mixed b__law_mixed (takes_of rfl rfl rfl rfl) (g_ref (i := 0) (pv 0) (g_val (e_var (i := 3) (pv 3)) g_nil)) (lnr (lnv ln0)))) p_none (p_some (e_var (i := 1) (pv 1)))) a_nil))))))
abbrev S_need_office : Stmt := topS 16
abbrev N_need_office : List Str := ["office"]
theorem sc_need_office : FnScope N_need_office ["office"] (defScope S_need_office) := ⟨rfl, rfl, rfl, by decide +kernel, rfl, by decide +kernel, by decide +kernel⟩
theorem ok_need_office {f : Addr} {fd : FuncData} (F : Fun K "need_office" "need_office" S_need_office f fd)
    {f_is_office : Addr} {fd_is_office : FuncData} (G_is_office : FnG P w K mg base 3 f_is_office fd_is_office ["value"] (spM K mg m_is_office 1)) (g_is_office : mg "is_office" = some (.ref f_is_office)) (k_is_office : PySem.W.keepIn K (.ref f_is_office) = true) (b_is_office : Binds K fd_is_office ["value"] []) : FnG P w K mg base 4 f fd ["office"] (spM K mg m_need_office 1) :=
  fn_ok F sc_need_office fun cdv A outer sh H E C gd hr => (s_one (s_if (t_not (t_val (e_call G_is_office gd (hr.mono (by decide)) rfl g_is_office k_is_office b_is_office (takes_of rfl rfl rfl rfl) (g_val (e_var (i := 0) (pv 0)) g_nil) (lnv ln0))))
    (s_one s_never)
    s_nil))
abbrev S_seating_from_desks : Stmt := topS 20
abbrev N_seating_from_desks : List Str := ["office", "order", "desks", "first", "found", "index", "desk", "upper"]
theorem sc_seating_from_desks : FnScope N_seating_from_desks ["office", "order", "desks"] (defScope S_seating_from_desks) := ⟨rfl, rfl, rfl, by decide +kernel, rfl, by decide +kernel, by decide +kernel⟩
theorem ok_seating_from_desks {f : Addr} {fd : FuncData} (F : Fun K "seating_from_desks" "seating_from_desks" S_seating_from_desks f fd)
    {f_need_office : Addr} {fd_need_office : FuncData} (G_need_office : FnG P w K mg base 4 f_need_office fd_need_office ["office"] (spM K mg m_need_office 1)) (g_need_office : mg "need_office" = some (.ref f_need_office)) (k_need_office : PySem.W.keepIn K (.ref f_need_office) = true) (b_need_office : Binds K fd_need_office ["office"] [])
    {f_need_persons : Addr} {fd_need_persons : FuncData} (G_need_persons : FnG P w K mg base 3 f_need_persons fd_need_persons ["office", "order"] (spM K mg m_need_persons 2)) (g_need_persons : mg "need_persons" = some (.ref f_need_persons)) (k_need_persons : PySem.W.keepIn K (.ref f_need_persons) = true) (b_need_persons : Binds K fd_need_persons ["office", "order"] [])
    {f_need_desks : Addr} {fd_need_desks : FuncData} (G_need_desks : FnG P w K mg base 3 f_need_desks fd_need_desks ["office", "order", "desks"] (spM K mg m_need_desks 3)) (g_need_desks : mg "need_desks" = some (.ref f_need_desks)) (k_need_desks : PySem.W.keepIn K (.ref f_need_desks) = true) (b_need_desks : Binds K fd_need_desks ["office", "order", "desks"] [])
    (TM_Impossible : SupM P K mg "Impossible" "index")
    (z_list : mg "list" = none)
    (z_enumerate : mg "enumerate" = none)
    (z_range : mg "range" = none)
    (z_len : mg "len" = none) : FnG P w K mg base 5 f fd ["office", "order", "desks"] (spM K mg m_seating_from_desks 3) :=
  fn_ok F sc_seating_from_desks fun cdv A outer sh H E C gd hr => (s_cons (s_expr (e_call G_need_office gd (hr.mono (by decide)) rfl g_need_office k_need_office b_need_office (takes_of rfl rfl rfl rfl) (g_val (e_var (i := 0) (pv 0)) g_nil) (lnv ln0)))
  (s_cons (s_expr (e_call G_need_persons gd (hr.mono (by decide)) rfl g_need_persons k_need_persons b_need_persons (takes_of rfl rfl rfl rfl) (g_val (e_var (i := 0) (pv 0)) (g_val (e_var (i := 1) (pv 1)) g_nil)) (lnv (lnv ln0))))
  (s_cons (s_expr (e_call G_need_desks gd (hr.mono (by decide)) rfl g_need_desks k_need_desks b_need_desks (takes_of rfl rfl rfl rfl) (g_val (e_var (i := 0) (pv 0)) (g_val (e_var (i := 1) (pv 1)) (g_val (e_var (i := 2) (pv 2)) g_nil))) (lnv (lnv (lnv ln0)))))
  (s_cons (s_setNew (i := 3) (n_lstRg rfl rfl z_list rfl z_range (e_bin or_add od_add (e_callB call_len cd_len rfl z_len (by decide +kernel) (a_cons (e_var (i := 0) (pv 0)) a_nil)) e_int)) (fun h => ps_set (i := 3) sc_seating_from_desks.nd rfl (by first | exact Or.inl rfl | exact Or.inr rfl) h))
  (s_cons (s_setNew (i := 4) (n_lst a_nil) (fun h => ps_set (i := 4) sc_seating_from_desks.nd rfl (by first | exact Or.inl rfl | exact Or.inr rfl) h))
  (s_cons (s_for (passes_of rfl) rfl (plain_t (plains_c plain_nm (plains_c plain_nm plains_0))) (i_enumT rfl z_enumerate (a_cons (e_var (i := 2) (pv 2)) a_nil)) (g_tup rfl (gs_cons (g_name (pg_name (i := 5) sc_seating_from_desks.nd rfl (by first | exact Or.inl rfl | exact Or.inr rfl))) (gs_cons (g_name (pg_name (i := 6) sc_seating_from_desks.nd rfl (by first | exact Or.inl rfl | exact Or.inr rfl))) gs_nil)) (glc (glc gl0)))
    (s_cons (s_if (t_inN (e_ixV (i := 3) (pv 3) (e_var (i := 6) (pv 6)) (fun _ _ => rfl)) (l_var (i := 4) (pv 4)) rfl)
      (s_one (s_raiseN TM_Impossible rfl (hr.mono (by decide)) (takes_of rfl rfl rfl rfl) rfl (e_var (i := 5) (pv 5))))
      s_nil)
    (s_cons (s_expr (e_app (i := 4) (fun h => pe_bm PySem.F.plainAttrs_list PySem.F.slot_list_append PySem.F.type_list_append mt_append (pv 4) (pa_cons h pa_nil)) (e_ixV (i := 3) (pv 3) (e_var (i := 6) (pv 6)) (fun _ _ => rfl))))
    (s_one (s_if (t_cmp op_gt od_gt (e_var (i := 6) (pv 6)) e_int (nomark _))
      (s_cons (s_set (i := 7) (e_ix ix_seq od_ix (e_var (i := 0) (pv 0)) (e_bin op_sub od_sub (e_var (i := 6) (pv 6)) e_int) (fun _ _ => rfl)) (fun h => ps_set (i := 7) sc_seating_from_desks.nd rfl (by first | exact Or.inl rfl | exact Or.inr rfl) h))
      (s_one (s_asg (plain_t (plains_c plain_sub (plains_c plain_sub plains_0))) (e_tup (a_cons (e_ixV (i := 3) (pv 3) (e_var (i := 6) (pv 6)) (fun _ _ => rfl)) (a_cons (e_ixV (i := 3) (pv 3) (e_var (i := 7) (pv 7)) (fun _ _ => rfl)) a_nil))) (g_tup rfl (gs_cons (g_subI (e_var (i := 7) (pv 7)) (fun h => pg_sub (pv 3) h set_list)) (gs_cons (g_subI (e_var (i := 6) (pv 6)) (fun h => pg_sub (pv 3) h set_list)) gs_nil)) (glc (glc gl0))) (fun h g => ps_asg h g))))
      s_nil)))))
  (s_one (s_retOwn (i := 4) (pv 4)))))))))
abbrev S__law_told : Stmt := topS 29
abbrev N__law_told : List Str := ["office", "order", "desks", "told", "e"]
theorem sc__law_told : FnScope N__law_told ["office", "order", "desks"] (defScope S__law_told) := ⟨rfl, rfl, rfl, by decide +kernel, rfl, by decide +kernel, by decide +kernel⟩
theorem ok__law_told {f : Addr} {fd : FuncData} (F : Fun K "_law_told" "_law_told" S__law_told f fd)
    {f_seating_from_desks : Addr} {fd_seating_from_desks : FuncData} (G_seating_from_desks : FnG P w K mg base 5 f_seating_from_desks fd_seating_from_desks ["office", "order", "desks"] (spM K mg m_seating_from_desks 3)) (g_seating_from_desks : mg "seating_from_desks" = some (.ref f_seating_from_desks)) (k_seating_from_desks : PySem.W.keepIn K (.ref f_seating_from_desks) = true) (b_seating_from_desks : Binds K fd_seating_from_desks ["office", "order", "desks"] [])
    (EF : ErrF K mg ERRS ERRT ERRB)
    (TM_Impossible : SupM P K mg "Impossible" "index") : FnG P w K mg base 6 f fd ["office", "order", "desks"] (spM K mg m__law_toldP 3) :=
  fn_ok F sc__law_told fun cdv A outer sh H E C gd hr => (s_cons (s_set (i := 3) e_non (fun h => ps_set (i := 3) sc__law_told.nd rfl (by first | exact Or.inl rfl | exact Or.inr rfl) h))
  (s_cons (s_trySF (i := 4) EF rfl rfl rfl sc__law_told.nd rfl rfl rfl (by decide) (takes_of rfl rfl rfl rfl) (fun W pn xe tk => (s_one (s_setNew (i := 3) (n_call G_seating_from_desks gd (hr.mono (by decide)) rfl g_seating_from_desks k_seating_from_desks b_seating_from_desks tk (g_val (e_var (i := 0) (pv 0)) (g_val (e_var (i := 1) (pv 1)) (g_val (e_var (i := 2) (pv 2)) g_nil))) (lnv (lnv (lnv ln0)))) (fun h => ps_set (i := 3) sc__law_told.nd rfl (by first | exact Or.inl rfl | exact Or.inr rfl) h)))) (fun _ _ _ zn hf => (su_setF (i := 4) (j := 3) (e_fld TM_Impossible (e_var (i := 4) (pv 4))) (fun h => ps_set (i := 3) sc__law_told.nd rfl (by first | exact Or.inl rfl | exact Or.inr rfl) h))))
  (s_one (s_alt (s_retOwn (i := 3) (pv 3)) (s_ret (e_var (i := 3) (pv 3)))))))
abbrev S__law_right : Stmt := topS 30
abbrev N__law_right : List Str := ["pot", "office", "seating", "order", "desks", "first", "some", "turn", "row", "change", "told", "name", "kept", "due"]
theorem sc__law_right : FnScope N__law_right ["pot"] (defScope S__law_right) := ⟨rfl, rfl, rfl, by decide +kernel, rfl, by decide +kernel, by decide +kernel⟩
theorem ok__law_right {f : Addr} {fd : FuncData} (F : Fun K "_law_right" "_law_right" S__law_right f fd)
    {f__law_office : Addr} {fd__law_office : FuncData} (G__law_office : FnG P w K mg base 2 f__law_office fd__law_office ["pot", "most"] (spM K mg m__law_officeP 2)) (g__law_office : mg "_law_office" = some (.ref f__law_office)) (k__law_office : PySem.W.keepIn K (.ref f__law_office) = true) (b__law_office : Binds K fd__law_office ["pot", "most"] [])
    {f__law_names : Addr} {fd__law_names : FuncData} (G__law_names : FnG P w K mg base 3 f__law_names fd__law_names ["pot", "many"] (spM K mg m__law_namesP 2)) (g__law_names : mg "_law_names" = some (.ref f__law_names)) (k__law_names : PySem.W.keepIn K (.ref f__law_names) = true) (b__law_names : Binds K fd__law_names ["pot", "many"] [])
    {f__law_day : Addr} {fd__law_day : FuncData} (G__law_day : FnG P w K mg base 1 f__law_day fd__law_day ["office", "seating", "order"] (spM K mg m__law_dayP 3)) (g__law_day : mg "_law_day" = some (.ref f__law_day)) (k__law_day : PySem.W.keepIn K (.ref f__law_day) = true) (b__law_day : Binds K fd__law_day ["office", "seating", "order"] [])
    {f__law_told : Addr} {fd__law_told : FuncData} (G__law_told : FnG P w K mg base 6 f__law_told fd__law_told ["office", "order", "desks"] (spM K mg m__law_toldP 3)) (g__law_told : mg "_law_told" = some (.ref f__law_told)) (k__law_told : PySem.W.keepIn K (.ref f__law_told) = true) (b__law_told : Binds K fd__law_told ["office", "order", "desks"] [])
    {f__law_mixed : Addr} {fd__law_mixed : FuncData} (G__law_mixed : FnG P w K mg base 2 f__law_mixed fd__law_mixed ["pot", "things"] (spM K mg m__law_mixedP 2)) (g__law_mixed : mg "_law_mixed" = some (.ref f__law_mixed)) (k__law_mixed : PySem.W.keepIn K (.ref f__law_mixed) = true) (b__law_mixed : Binds K fd__law_mixed ["pot", "things"] [])
    {f_seating_from_desks : Addr} {fd_seating_from_desks : FuncData} (G_seating_from_desks : FnG P w K mg base 5 f_seating_from_desks fd_seating_from_desks ["office", "order", "desks"] (spM K mg m_seating_from_desks 3)) (g_seating_from_desks : mg "seating_from_desks" = some (.ref f_seating_from_desks)) (k_seating_from_desks : PySem.W.keepIn K (.ref f_seating_from_desks) = true) (b_seating_from_desks : Binds K fd_seating_from_desks ["office", "order", "desks"] [])
    {f__law_draw : Addr} {fd__law_draw : FuncData} (G__law_draw : FnG P w K mg base 1 f__law_draw fd__law_draw ["pot", "bound"] (spM K mg m__law_drawP 2)) (g__law_draw : mg "_law_draw" = some (.ref f__law_draw)) (k__law_draw : PySem.W.keepIn K (.ref f__law_draw) = true) (b__law_draw : Binds K fd__law_draw ["pot", "bound"] [])
    {f__law_due : Addr} {fd__law_due : FuncData} (G__law_due : FnG P w K mg base 1 f__law_due fd__law_due ["office", "desks"] (spM K mg m__law_dueP 2)) (g__law_due : mg "_law_due" = some (.ref f__law_due)) (k__law_due : PySem.W.keepIn K (.ref f__law_due) = true) (b__law_due : Binds K fd__law_due ["office", "desks"] [])
    (z_tuple : mg "tuple" = none)
    (z_range : mg "range" = none)
    (z_repr : mg "repr" = none)
    (z_list : mg "list" = none)
    (z_isinstance : mg "isinstance" = none)
    (z_len : mg "len" = none)
    (z_int : mg "int" = none) : FnG P w K mg base 7 f fd ["pot"] (spM K mg m__law_rightP 1) :=
  fn_ok F sc__law_right fun cdv A outer sh H E C gd hr => (s_cons (s_set (i := 1) (e_call G__law_office gd (hr.mono (by decide)) rfl g__law_office k__law_office b__law_office (takes_of rfl rfl rfl rfl) (g_ref (i := 0) (pv 0) (g_val e_int g_nil)) (lnr (lnv ln0))) (fun h => ps_set (i := 1) sc__law_right.nd rfl (by first | exact Or.inl rfl | exact Or.inr rfl) h))
  (s_cons (s_set (i := 2) (e_call G__law_names gd (hr.mono (by decide)) rfl g__law_names k__law_names b__law_names (takes_of rfl rfl rfl rfl) (g_ref (i := 0) (pv 0) (g_val (e_bin or_add od_add (e_callB call_len cd_len rfl z_len (by decide +kernel) (a_cons (e_var (i := 1) (pv 1)) a_nil)) e_int) g_nil)) (lnr (lnv ln0))) (fun h => ps_set (i := 2) sc__law_right.nd rfl (by first | exact Or.inl rfl | exact Or.inr rfl) h))
  (s_cons (s_set (i := 3) (e_callTy call_tupF cd_tup rfl z_tuple (by decide +kernel) (a_cons (e_cut (e_of_n (n_call G__law_mixed gd (hr.mono (by decide)) rfl g__law_mixed k__law_mixed b__law_mixed (takes_of rfl rfl rfl rfl) (g_ref (i := 0) (pv 0) (g_val (e_var (i := 2) (pv 2)) g_nil)) (lnr (lnv ln0)))) p_none (p_some (e_bin op_sub od_sub (e_callB call_len cd_len rfl z_len (by decide +kernel) (a_cons (e_var (i := 2) (pv 2)) a_nil)) (e_call G__law_draw gd (hr.mono (by decide)) rfl g__law_draw k__law_draw b__law_draw (takes_of rfl rfl rfl rfl) (g_ref (i := 0) (pv 0) (g_val (e_ix ix_seq od_ix (e_of_n (n_lst (a_cons e_int (a_cons (e_bin or_add od_add (e_callB call_len cd_len rfl z_len (by decide +kernel) (a_cons (e_var (i := 2) (pv 2)) a_nil)) e_int) a_nil)))) (e_call G__law_draw gd (hr.mono (by decide)) rfl g__law_draw k__law_draw b__law_draw (takes_of rfl rfl rfl rfl) (g_ref (i := 0) (pv 0) (g_val e_int g_nil)) (lnr (lnv ln0))) (fun _ _ => rfl)) g_nil)) (lnr (lnv ln0)))))) a_nil)) (fun h => ps_set (i := 3) sc__law_right.nd rfl (by first | exact Or.inl rfl | exact Or.inr rfl) h))
  (s_cons (s_set (i := 4) (e_of_n (n_call G__law_day gd (hr.mono (by decide)) rfl g__law_day k__law_day b__law_day (takes_of rfl rfl rfl rfl) (g_val (e_var (i := 1) (pv 1)) (g_val (e_var (i := 2) (pv 2)) (g_val (e_var (i := 3) (pv 3)) g_nil))) (lnv (lnv (lnv ln0))))) (fun h => ps_set (i := 4) sc__law_right.nd rfl (by first | exact Or.inl rfl | exact Or.inr rfl) h))
  (s_cons (lc_set (i := 5) rfl sc__law_right.nd rfl rfl (sw_true rfl rfl rfl (by decide +kernel)) (own := [("name", 11)]) plain_nm (by decide) (i_seq (e_var (i := 3) (pv 3))) (blkOk_by (own := [("name", 11)]) (N := N__law_right) (sc := defScope S__law_right) (by decide +kernel)) (fun _ _ _ _ _ _ => (g_name (pg_name (i := 11) sc__law_right.nd rfl (by first | exact Or.inl rfl | exact Or.inr rfl)))) (fun _ _ _ _ _ _ => ts_nil) (fun _ _ _ _ _ _ => (e_tidx (e_var (i := 2) (pv 2)) (e_var (i := 11) (pv 11)))) (fun _ _ _ h => asgE h))
  (s_cons (s_if (t_cmp (op_neA hr.units) od_ne (e_rdB (call_reprL gd (hr100 hr)) ld_repr rfl z_repr (by decide +kernel) (l_of_n (n_call G_seating_from_desks gd (hr.mono (by decide)) rfl g_seating_from_desks k_seating_from_desks b_seating_from_desks (takes_of rfl rfl rfl rfl) (g_val (e_var (i := 1) (pv 1)) (g_val (e_var (i := 3) (pv 3)) (g_val (e_callTy call_tupF cd_tup rfl z_tuple (by decide +kernel) (a_cons (e_var (i := 4) (pv 4)) a_nil)) g_nil))) (lnv (lnv (lnv ln0)))))) (e_repr gd (hr100 hr) rfl z_repr (e_var (i := 5) (pv 5))) (nomark _))
    (s_one (s_ret e_bl))
    s_nil)
  (s_cons (s_setNew (i := 6) (n_lst (a_cons (e_of_n (n_lc rfl sc__law_right.nd (own := [("name", 11)]) plain_nm (by decide) (i_seq (e_var (i := 3) (pv 3))) (blkOk_by (own := [("name", 11)]) (N := N__law_right) (sc := defScope S__law_right) (by decide +kernel)) (fun _ _ _ _ _ _ => (g_name (pg_name (i := 11) sc__law_right.nd rfl (by first | exact Or.inl rfl | exact Or.inr rfl)))) (fun _ _ _ _ _ _ => ts_nil) (fun _ _ _ _ _ _ => (e_call G__law_draw gd (hr.mono (by decide)) rfl g__law_draw k__law_draw b__law_draw takes0 (g_ref (i := 0) (pv 0) (g_val (e_callB call_len cd_len rfl z_len (by decide +kernel) (a_cons (e_var (i := 2) (pv 2)) a_nil)) g_nil)) (lnr (lnv ln0)))))) a_nil)) (fun h => ps_set (i := 6) sc__law_right.nd rfl (by first | exact Or.inl rfl | exact Or.inr rfl) h))
  (s_cons (s_for (passes_of rfl) rfl plain_nm (i_rng1 rfl z_range (a_cons e_int a_nil)) (g_name (pg_name (i := 7) sc__law_right.nd rfl (by first | exact Or.inl rfl | exact Or.inr rfl)))
    (s_cons (s_setNew (i := 8) (n_list rfl z_list (by decide +kernel) (a_cons (e_var (i := 4) (pv 4)) a_nil)) (fun h => ps_set (i := 8) sc__law_right.nd rfl (by first | exact Or.inl rfl | exact Or.inr rfl) h))
    (s_cons (s_for (passes_of rfl) rfl plain_nm (i_rng1 rfl z_range (a_cons (e_bin op_mulW od_mul (e_call G__law_draw gd (hr.mono (by decide)) rfl g__law_draw k__law_draw b__law_draw (takes_of rfl rfl rfl rfl) (g_ref (i := 0) (pv 0) (g_val e_int g_nil)) (lnr (lnv ln0))) (e_callTy call_int1 cd_int rfl z_int (by decide +kernel) (a_cons (e_cmp (op_neA hr.units) od_ne (e_var (i := 3) (pv 3)) (e_tup a_nil) (nomark _)) a_nil))) a_nil)) (g_name (pg_name (i := 9) sc__law_right.nd rfl (by first | exact Or.inl rfl | exact Or.inr rfl)))
      (s_one (s_setIxP (i := 8) (fun h1 h2 => ps_asg h1 (pg_sub (pv 8) h2 set_list)) (e_call G__law_draw gd (hr.mono (by decide)) rfl g__law_draw k__law_draw b__law_draw (takes_of rfl rfl rfl rfl) (g_ref (i := 0) (pv 0) (g_val (e_callB call_len cd_len rfl z_len (by decide +kernel) (a_cons (e_var (i := 2) (pv 2)) a_nil)) g_nil)) (lnr (lnv ln0))) (e_call G__law_draw gd (hr.mono (by decide)) rfl g__law_draw k__law_draw b__law_draw (takes_of rfl rfl rfl rfl) (g_ref (i := 0) (pv 0) (g_val (e_rdB call_len ld_len rfl z_len (by decide +kernel) (l_var (i := 8) (pv 8))) g_nil)) (lnr (lnv ln0))))))
    (ss_frz 8 (s_one (s_expr (e_app (i := 6) (fun h => pe_bm PySem.F.plainAttrs_list PySem.F.slot_list_append PySem.F.type_list_append mt_append (pv 6) (pa_cons h pa_nil)) (e_var (i := 8) (pv 8)))))))))
  (ss_frz 6 (s_cons (s_for (passes_of rfl) rfl plain_nm (i_list (e_var (i := 6) (pv 6))) (g_name (pg_name (i := 8) sc__law_right.nd rfl (by first | exact Or.inl rfl | exact Or.inr rfl)))
    (s_cons (s_parV (i := 12) (j := 13) (a_cons (e_rdB (call_reprL gd (hr100 hr)) ld_repr rfl z_repr (by decide +kernel) (l_of_n (n_lst (a_cons (e_var (i := 1) (pv 1)) (a_cons (e_var (i := 3) (pv 3)) (a_cons (e_var (i := 8) (pv 8)) a_nil)))))) (a_cons (e_call G__law_due gd (hr.mono (by decide)) rfl g__law_due k__law_due b__law_due (takes_of rfl rfl rfl rfl) (g_val (e_var (i := 1) (pv 1)) (g_val (e_var (i := 8) (pv 8)) g_nil)) (lnv (lnv ln0))) a_nil)) (fun h => ps_par rfl sc__law_right.nd rfl rfl (by decide) rfl rfl h (by rfl)))
    (s_cons (s_alt (s_setNew (i := 10) (n_call G__law_told gd (hr.mono (by decide)) rfl g__law_told k__law_told b__law_told (takes_of rfl rfl rfl rfl) (g_val (e_var (i := 1) (pv 1)) (g_val (e_var (i := 3) (pv 3)) (g_val (e_rdT call_tupF ld_tup rfl z_tuple (by decide +kernel) (l_var (i := 8) (pv 8))) g_nil))) (lnv (lnv (lnv ln0)))) (fun h => ps_set (i := 10) sc__law_right.nd rfl (by first | exact Or.inl rfl | exact Or.inr rfl) h)) (s_set (i := 10) (e_call G__law_told gd (hr.mono (by decide)) rfl g__law_told k__law_told b__law_told (takes_of rfl rfl rfl rfl) (g_val (e_var (i := 1) (pv 1)) (g_val (e_var (i := 3) (pv 3)) (g_val (e_rdT call_tupF ld_tup rfl z_tuple (by decide +kernel) (l_var (i := 8) (pv 8))) g_nil))) (lnv (lnv (lnv ln0)))) (fun h => ps_set (i := 10) sc__law_right.nd rfl (by first | exact Or.inl rfl | exact Or.inr rfl) h)))
    (s_cons (s_if (PW.pt (w_or (t_cmp (op_neA hr.units) od_ne (e_alt (e_rdB (call_reprL gd (hr100 hr)) ld_repr rfl z_repr (by decide +kernel) (l_var (i := 10) (pv 10))) (e_repr gd (hr100 hr) rfl z_repr (e_var (i := 10) (pv 10)))) (e_repr gd (hr100 hr) rfl z_repr (e_var (i := 13) (pv 13))) (nomark _)) (pw_or1 (t_cmp (op_neA hr.units) od_ne (e_rdB (call_reprL gd (hr100 hr)) ld_repr rfl z_repr (by decide +kernel) (l_of_n (n_lst (a_cons (e_var (i := 1) (pv 1)) (a_cons (e_var (i := 3) (pv 3)) (a_cons (e_var (i := 8) (pv 8)) a_nil)))))) (e_var (i := 12) (pv 12)) (nomark _)))))
      (s_one (s_ret e_bl))
      s_nil)
    (s_one (s_if (t_val (e_alt (e_isLN rfl z_isinstance (l_var (i := 10) (pv 10)) (pe_bltn (v := .ty "list") rfl z_list (by decide +kernel) rfl)) (e_isNL rfl z_isinstance (e_var (i := 10) (pv 10)) (pe_bltn (v := .ty "list") rfl z_list (by decide +kernel) rfl))))
      (s_cons (s_expr (e_app (i := 10) (fun h => pe_bm PySem.F.plainAttrs_list PySem.F.slot_list_append PySem.F.type_list_append mt_append (pv 10) (pa_cons h pa_nil)) e_int))
      (s_one (s_if (t_cmp (op_neA hr.units) od_ne (e_of_n (n_call G_seating_from_desks gd (hr.mono (by decide)) rfl g_seating_from_desks k_seating_from_desks b_seating_from_desks (takes_of rfl rfl rfl rfl) (g_val (e_var (i := 1) (pv 1)) (g_val (e_var (i := 3) (pv 3)) (g_val (e_rdT call_tupF ld_tup rfl z_tuple (by decide +kernel) (l_var (i := 8) (pv 8))) g_nil))) (lnv (lnv (lnv ln0))))) (e_var (i := 13) (pv 13)) (nomark _))
        (s_one (s_ret e_bl))
        s_nil)))
      s_nil))))))
  (s_one (s_ret e_bl))))))))))))
abbrev S_law : Stmt := topS 31
abbrev N_law : List Str := ["script", "k", "pot", "turn"]
theorem sc_law : FnScope N_law ["script"] (defScope S_law) := ⟨rfl, rfl, rfl, by decide +kernel, rfl, by decide +kernel, by decide +kernel⟩
theorem ok_law {f : Addr} {fd : FuncData} (F : Fun K "law" "law" S_law f fd)
    {f__law_pot : Addr} {fd__law_pot : FuncData} (G__law_pot : FnG P w K mg base 1 f__law_pot fd__law_pot ["script", "k"] (spM K mg m__law_potP 2)) (g__law_pot : mg "_law_pot" = some (.ref f__law_pot)) (k__law_pot : PySem.W.keepIn K (.ref f__law_pot) = true) (b__law_pot : Binds K fd__law_pot ["script", "k"] [])
    {f__law_told : Addr} {fd__law_told : FuncData} (G__law_told : FnG P w K mg base 6 f__law_told fd__law_told ["office", "order", "desks"] (spM K mg m__law_toldP 3)) (g__law_told : mg "_law_told" = some (.ref f__law_told)) (k__law_told : PySem.W.keepIn K (.ref f__law_told) = true) (b__law_told : Binds K fd__law_told ["office", "order", "desks"] [])
    {f__law_right : Addr} {fd__law_right : FuncData} (G__law_right : FnG P w K mg base 7 f__law_right fd__law_right ["pot"] (spM K mg m__law_rightP 1)) (g__law_right : mg "_law_right" = some (.ref f__law_right)) (k__law_right : PySem.W.keepIn K (.ref f__law_right) = true) (b__law_right : Binds K fd__law_right ["pot"] [])
    (z_range : mg "range" = none)
    (z_max : mg "max" = none)
    (z_min : mg "min" = none)
    (z_tuple : mg "tuple" = none)
    (z_len : mg "len" = none) : FnG P w K mg base 8 f fd ["script"] (spM K mg m_law 1) :=
  fn_ok F sc_law fun cdv A outer sh H E C gd hr => (s_cons (s_for (passes_of rfl) rfl plain_nm (i_rng1 rfl z_range (a_cons (e_callB (call_max2 rfl) cd_max rfl z_max (by decide +kernel) (a_cons e_int (a_cons (e_callB (call_min2 rfl) cd_min rfl z_min (by decide +kernel) (a_cons e_int (a_cons (e_callB call_len cd_lenS rfl z_len (by decide +kernel) (a_cons (e_var (i := 0) (pv 0)) a_nil)) a_nil))) a_nil))) a_nil)) (g_name (pg_name (i := 1) sc_law.nd rfl (by first | exact Or.inl rfl | exact Or.inr rfl)))
    (s_cons (s_setNew (i := 2) (n_call G__law_pot gd (hr.mono (by decide)) rfl g__law_pot k__law_pot b__law_pot (takes_of rfl rfl rfl rfl) (g_val (e_var (i := 0) (pv 0)) (g_val (e_var (i := 1) (pv 1)) g_nil)) (lnv (lnv ln0))) (fun h => ps_set (i := 2) sc_law.nd rfl (by first | exact Or.inl rfl | exact Or.inr rfl) h))
    (s_one (s_for (passes_of rfl) rfl plain_nm (i_rng1 rfl z_range (a_cons e_int a_nil)) (g_name (pg_name (i := 3) sc_law.nd rfl (by first | exact Or.inl rfl | exact Or.inr rfl)))
      (s_one (s_if (t_not (t_val (e_call G__law_right gd (hr.mono (by decide)) rfl g__law_right k__law_right b__law_right (takes_of rfl rfl rfl rfl) (g_ref (i := 2) (pv 2) g_nil) (lnr ln0))))
        (s_one (s_ret e_bl))
        s_nil))))))
  (s_one (s_ret (e_cmp (op_eqA hr.units) od_eq (e_call G__law_told gd (hr.mono (by decide)) rfl g__law_told k__law_told b__law_told (takes_of rfl rfl rfl rfl) (g_val (e_tup (a_cons e_int (a_cons e_int (a_cons e_int a_nil)))) (g_val (e_callTy (call_tupSt rfl) cd_tupSt rfl z_tuple (by decide +kernel) (a_cons e_str a_nil)) (g_val (e_tup (a_cons e_int (a_cons e_int (a_cons e_int (a_cons e_int a_nil))))) g_nil))) (lnv (lnv (lnv ln0)))) e_int (nomark _)))))
end
end Ds
end
section
set_option Elab.async false
set_option linter.all false
set_option maxRecDepth 100000
set_option maxHeartbeats 1000000
open PySem PySem.Spec PyProof.Rows L2
namespace Ds
def dInt : PyData → Bool
  | .bool _ => true
  | .int _ => true
  | _ => false
theorem kit_int (d : PyData) : kitB (tyN d) "int" = some (dInt d) := by
  cases d
  · exact (by decide +kernel : kitB "NoneType" "int" = some false)
  · exact (by decide +kernel : kitB "bool" "int" = some true)
  · exact (by decide +kernel : kitB "int" "int" = some true)
  · exact (by decide +kernel : kitB "str" "int" = some false)
  · exact (by decide +kernel : kitB "list" "int" = some false)
  · exact (by decide +kernel : kitB "tuple" "int" = some false)
  · exact (by decide +kernel : kitB "dict" "int" = some false)
def dBool : PyData → Bool
  | .bool _ => true
  | _ => false
theorem kit_bool (d : PyData) : kitB (tyN d) "bool" = some (dBool d) := by
  cases d
  · exact (by decide +kernel : kitB "NoneType" "bool" = some false)
  · exact (by decide +kernel : kitB "bool" "bool" = some true)
  · exact (by decide +kernel : kitB "int" "bool" = some false)
  · exact (by decide +kernel : kitB "str" "bool" = some false)
  · exact (by decide +kernel : kitB "list" "bool" = some false)
  · exact (by decide +kernel : kitB "tuple" "bool" = some false)
  · exact (by decide +kernel : kitB "dict" "bool" = some false)
def dTup : PyData → Bool
  | .tuple _ => true
  | _ => false
theorem kit_tuple (d : PyData) : kitB (tyN d) "tuple" = some (dTup d) := by
  cases d
  · exact (by decide +kernel : kitB "NoneType" "tuple" = some false)
  · exact (by decide +kernel : kitB "bool" "tuple" = some false)
  · exact (by decide +kernel : kitB "int" "tuple" = some false)
  · exact (by decide +kernel : kitB "str" "tuple" = some false)
  · exact (by decide +kernel : kitB "list" "tuple" = some false)
  · exact (by decide +kernel : kitB "tuple" "tuple" = some true)
  · exact (by decide +kernel : kitB "dict" "tuple" = some false)
@[simp] theorem kb_int_NoneType : kitB "NoneType" "int" = some false := by decide +kernel
@[simp] theorem kb_int_bool : kitB "bool" "int" = some true := by decide +kernel
@[simp] theorem kb_int_int : kitB "int" "int" = some true := by decide +kernel
@[simp] theorem kb_int_str : kitB "str" "int" = some false := by decide +kernel
@[simp] theorem kb_int_list : kitB "list" "int" = some false := by decide +kernel
@[simp] theorem kb_int_tuple : kitB "tuple" "int" = some false := by decide +kernel
@[simp] theorem kb_int_dict : kitB "dict" "int" = some false := by decide +kernel
@[simp] theorem kb_bool_NoneType : kitB "NoneType" "bool" = some false := by decide +kernel
@[simp] theorem kb_bool_bool : kitB "bool" "bool" = some true := by decide +kernel
@[simp] theorem kb_bool_int : kitB "int" "bool" = some false := by decide +kernel
@[simp] theorem kb_bool_str : kitB "str" "bool" = some false := by decide +kernel
@[simp] theorem kb_bool_list : kitB "list" "bool" = some false := by decide +kernel
@[simp] theorem kb_bool_tuple : kitB "tuple" "bool" = some false := by decide +kernel
@[simp] theorem kb_bool_dict : kitB "dict" "bool" = some false := by decide +kernel
@[simp] theorem kb_tuple_NoneType : kitB "NoneType" "tuple" = some false := by decide +kernel
@[simp] theorem kb_tuple_bool : kitB "bool" "tuple" = some false := by decide +kernel
@[simp] theorem kb_tuple_int : kitB "int" "tuple" = some false := by decide +kernel
@[simp] theorem kb_tuple_str : kitB "str" "tuple" = some false := by decide +kernel
@[simp] theorem kb_tuple_list : kitB "list" "tuple" = some false := by decide +kernel
@[simp] theorem kb_tuple_tuple : kitB "tuple" "tuple" = some true := by decide +kernel
@[simp] theorem kb_tuple_dict : kitB "dict" "tuple" = some false := by decide +kernel
@[simp] theorem g_le {i j : Int} : gLe (.int i) (.int j) = some (.bool (decide (i ≤ j))) := rfl
@[simp] theorem g_lt {i j : Int} : gLt (.int i) (.int j) = some (.bool (decide (i < j))) := rfl
@[simp] theorem g_ge {i j : Int} : gGe (.int i) (.int j) = some (.bool (decide (j ≤ i))) := rfl
@[simp] theorem g_gt {i j : Int} : gGt (.int i) (.int j) = some (.bool (decide (j < i))) := rfl
@[simp] theorem g_sub {i j : Int} : gSub_ (.int i) (.int j) = some (.int (i - j)) := rfl
@[simp] theorem g_add {i j : Int} : gAdd (.int i) (.int j) = some (.int (i + j)) := rfl
@[simp] theorem g_mul {i j : Int} : gMul (.int i) (.int j) = if i.natAbs.log2 + j.natAbs.log2 < 1000000 then some (.int (i * j)) else none := by simp [gMul, gII, cMul]
@[simp] theorem g_mod {i j : Int} : gMod (.int i) (.int j) = if 0 < j then some (.int (i % j)) else none := by simp [gMod, gII, cMod]
@[simp] theorem g_div {i j : Int} : gDiv (.int i) (.int j) = if 0 < j ∧ j.natAbs.log2 < 9000 then some (.int (i / j)) else none := by simp [gDiv, gII, cDiv]
@[simp] theorem g_pow {i j : Int} : gPow (.int i) (.int j) = if 0 ≤ j ∧ j ≤ 1000000 ∧ i.natAbs < 2 ^ 64 then some (.int (i ^ j.toNat)) else none := by simp [gPow, gII, cPow]
@[simp] theorem g_max {i j : Int} : gMax [.int i, .int j] = some (.int (if j > i then j else i)) := rfl
@[simp] theorem g_len1 {ds : List PyData} : gLen [.tuple ds] = some (.int ds.length) := rfl
@[simp] theorem g_ixl {ds : List PyData} {i : Int} : gIx (.list ds) (.int i) = atI ds i := rfl
@[simp] theorem g_ixt {ds : List PyData} {i : Int} : gIx (.tuple ds) (.int i) = atI ds i := rfl
def nIn (l h : Int) (d : PyData) : Bool := match d with | .int n => decide (l ≤ n ∧ n ≤ h) | _ => false
theorem lg_lt {x : Int} {k : Nat} (hk : 0 < k) (h0 : 0 ≤ x) (h : x < 2 ^ k) : x.natAbs.log2 < k := by
  have h2 : x.natAbs < 2 ^ k := by
    have e : ((x.natAbs : Nat) : Int) = x := Int.natAbs_of_nonneg h0
    have : ((x.natAbs : Nat) : Int) < ((2 ^ k : Nat) : Int) := by rw [e]; simpa using h
    exact Int.ofNat_lt.mp this
  by_cases z : x.natAbs = 0
  · rw [z]; simpa using hk
  · exact (Nat.log2_lt z).mpr h2
theorem atI_nn {α : Type} {xs : List α} {i : Int} (h : 0 ≤ i) : atI xs i = xs[i.toNat]? := by
  unfold atI ixN
  rw [if_pos h]
  by_cases c : i < xs.length
  · rw [if_pos c]; rfl
  · rw [if_neg c]
    have : xs.length ≤ i.toNat := by omega
    simp [this]
@[simp] theorem atI_0 {α : Type} {x : α} {xs : List α} : atI (x :: xs) 0 = some x := by rw [atI_nn (by decide)]; rfl
@[simp] theorem atI_1 {α : Type} {x y : α} {xs : List α} : atI (x :: y :: xs) 1 = some y := by rw [atI_nn (by decide)]; rfl
@[simp] theorem atI_2 {α : Type} {x y z : α} {xs : List α} : atI (x :: y :: z :: xs) 2 = some z := by rw [atI_nn (by decide)]; rfl
@[simp] theorem setI_0 {x y : PyData} {xs : List PyData} : setI (x :: xs) (.int 0) y = some (y :: xs) := by
  show (if (0:Int) ≤ 0 ∧ (0:Int) < (x :: xs).length then some ((x :: xs).set (0:Int).toNat y) else none) = _; rw [if_pos ⟨by decide, by simp⟩]; rfl
@[simp] theorem setI_2 {x y z u : PyData} {xs : List PyData} : setI (x :: y :: z :: xs) (.int 2) u = some (x :: y :: u :: xs) := by
  show (if (0:Int) ≤ 2 ∧ (2:Int) < (x :: y :: z :: xs).length then some ((x :: y :: z :: xs).set (2:Int).toNat u) else none) = _; rw [if_pos ⟨by decide, by simp; omega⟩]; rfl
theorem okEq_int {i : Int} : okEq (.int i) = true := by simp [okEq, SeqAt.shaped, PyData.hasDict, PyData.canLay0, PyData.depth]
theorem beq_dec {i j : Int} : (i == j) = decide (i = j) := by rw [Bool.eq_iff_iff]; simp
@[simp] theorem g_ne {i j : Int} : gNe (.int i) (.int j) = some (.bool (!decide (i = j))) := by
  show (if okEq (.int i) = true ∧ okEq (.int j) = true then some (PyData.bool (!PyData.eqv (.int i) (.int j))) else none) = _
  rw [if_pos ⟨okEq_int, okEq_int⟩]; simp [PyData.eqv, beq_dec]
@[simp] theorem g_eq {i j : Int} : gEq (.int i) (.int j) = some (.bool (decide (i = j))) := by
  show (if okEq (.int i) = true ∧ okEq (.int j) = true then some (PyData.bool (PyData.eqv (.int i) (.int j))) else none) = _
  rw [if_pos ⟨okEq_int, okEq_int⟩]; simp [PyData.eqv, beq_dec]
@[simp] theorem g_neS {i : Str} : gNe (.str i) (.str i) = some (.bool false) := by
  show some (PyData.bool (!(i == i))) = _
  simp
end Ds
end
section
set_option Elab.async false
set_option linter.all false
set_option maxRecDepth 100000
set_option maxHeartbeats 1000000
open PySem PySem.Spec PyProof.Rows L2
namespace Ds
theorem is_whole_ok (d : PyData) : ∃ T, m_is_whole [.val d] = .ok (.val (.bool (dInt d && !dBool d))) T := by
  cases d <;> simp [m_is_whole, c_is_whole, kit_int, kit_bool, dInt, dBool]
theorem is_num (d : PyData) (l h : Int) : ∃ T, m_is_number [.val d, .val (.int l), .val (.int h)] = .ok (.val (.bool (nIn l h d))) T := by
  obtain ⟨T, e⟩ := is_whole_ok d
  cases d with
  | int n => by_cases c : l ≤ n <;> simp [m_is_number, c_is_number, e, nIn, c, dInt, dBool]
  | _ => simp [m_is_number, c_is_number, e, nIn, dInt, dBool]
def Off (os : List Nat) : Prop := os.length ≤ 39 ∧ ∀ (i x : Nat), os[i]? = some x → x ≤ i
def offIt : PyData → Bool
  | .tuple [.int i, x] => nIn 0 i x
  | _ => false
def offB (d : PyData) : Bool := match d with
  | .tuple ds => decide (ds.length < 40) && (enumD ds).all offIt
  | _ => false
theorem bls_bools : ∀ bs : List Bool, bls (bs.map PyData.bool) = some bs
  | [] => rfl
  | b :: bs => by simp [bls, bls_bools bs]
theorem lAll_map {f : PyData → Bool} {ds : List PyData} : lAll (ds.mapIdx fun _ z => .bool (f z)) = some (.bool (ds.all f)) := by
  have e : (ds.mapIdx fun _ z => PyData.bool (f z)) = (ds.map f).map PyData.bool := by
    rw [List.map_map]
    apply List.ext_getElem?
    intro i
    simp
    cases ds[i]? <;> rfl
  rw [e]
  unfold lAll
  rw [bls_bools]
  simp [List.all_map]
theorem is_off (d : PyData) : ∃ T, m_is_office [.val d] = .ok (.val (.bool (offB d))) T := by
  cases d with
  | tuple ds =>
    by_cases c : ds.length < 40
    · have hl : lcL (gTp (gNC (gNm 1) (gNC (gNm 2) gN0))) sYes (sCallV m_is_number (sGv (sVar 2) (sGv (sK (.int 0)) (sGv (sVar 1) sG0)))) [1, 2] (enumD ds) [.val (.tuple ds), .nil, .nil] = .ok ((enumD ds).mapIdx fun _ z => .bool (offIt z)) [.val (.tuple ds), .nil, .nil] := by
        refine lc_map fun i z hz => ?_
        obtain ⟨x, hx, rfl⟩ := enumD_get hz
        obtain ⟨T, e⟩ := is_num x 0 (i : Nat)
        refine ⟨[.val (.tuple ds), .val (.int (i : Nat)), .val x], [.val (.tuple ds), .val (.int (i : Nat)), .val x], ?_, ?_, ?_⟩
        · simp [gTp, gNC]
        · simp [e, offIt]
        · simp [wipeS]
      have c' : ¬ (40 : Int) ≤ ds.length := by omega
      have c2 : ds.length < 16777216 := by omega
      simp [m_is_office, c_is_office, kit_tuple, dTup, c', enumD_len, wipeS, hl, unwipe, offB, c, sizeLine, c2, lAll_map]
    · have c' : (40 : Int) ≤ ds.length := by omega
      simp [m_is_office, c_is_office, kit_tuple, dTup, c', offB, c]
  | _ => simp [m_is_office, c_is_office, kit_tuple, dTup, offB]
def nts (os : List Nat) : List PyData := os.map fun x => .int (x : Nat)
theorem nts_len {os : List Nat} : (nts os).length = os.length := by simp [nts]
theorem nts_get {os : List Nat} {i : Nat} : (nts os)[i]? = (os[i]?).map fun x => .int (x : Nat) := by simp [nts]
theorem nts_cons {x : Nat} {os : List Nat} : nts (x :: os) = .int (x : Nat) :: nts os := rfl
theorem off_at {os : List Nat} (h : Off os) {d : Nat} (h0 : 0 < d) (h1 : d ≤ os.length) : atI (nts os) ((d : Int) - 1) = some (.int ((os.getD (d - 1) 0 : Nat) : Int)) ∧ os.getD (d - 1) 0 ≤ d - 1 := by
  have hl : d - 1 < os.length := by omega
  have e1 : ((d : Int) - 1).toNat = d - 1 := by omega
  rw [atI_nn (by omega), e1, nts_get, List.getElem?_eq_getElem hl]
  have e2 : os.getD (d - 1) 0 = os[d - 1] := by simp [List.getD, List.getElem?_eq_getElem hl]
  rw [e2]
  exact ⟨rfl, h.2 (d - 1) _ (List.getElem?_eq_getElem hl)⟩
theorem offB_off {os : List Nat} (h : Off os) : offB (.tuple (nts os)) = true := by
  have h1 := h.1
  have e : (enumD (nts os)).all offIt = true := by
    rw [List.all_eq_true]
    intro z hz
    obtain ⟨i, hi⟩ := List.getElem?_of_mem hz
    obtain ⟨x, hx, rfl⟩ := enumD_get hi
    rw [nts_get] at hx
    cases q : os[i]? with
    | none => rw [q] at hx; cases hx
    | some y =>
      rw [q] at hx
      cases hx
      have := h.2 i y q
      simp only [offIt, nIn]
      rw [decide_eq_true_eq]
      omega
  simp only [offB, e, nts_len]
  simp
  omega
theorem need_off {os : List Nat} (h : Off os) : ∃ T, m_need_office [.val (.tuple (nts os))] = .ok (.val .none) T := by
  obtain ⟨T, e⟩ := is_off (.tuple (nts os))
  rw [offB_off h] at e
  simp [m_need_office, c_need_office, e]
def LET : Str := Str.ofString "abcdefghijklmnopqrstuvwxyz"
def Nm (s : Str) : Prop := 1 ≤ s.length ∧ s.length ≤ 8 ∧ ∀ c ∈ s.cps.toList, 97 ≤ c ∧ c ≤ 122
def isT (o : Option PyData) : Bool := match o with | some (.bool true) => true | _ => false
theorem isT_some {o : Option PyData} (h : isT o = true) : o = some (.bool true) := by
  match o, h with
  | some (.bool true), _ => rfl
theorem let_all : (List.range 26).all (fun k => isT (gIn false (.str ⟨#[97 + k]⟩) (.str LET))) = true := by decide +kernel
theorem let_ok {c : Nat} (h0 : 97 ≤ c) (h1 : c ≤ 122) : gIn false (.str ⟨#[c]⟩) (.str LET) = some (.bool true) := by
  have := List.all_eq_true.mp let_all (c - 97) (List.mem_range.mpr (by omega))
  rw [show 97 + (c - 97) = c by omega] at this
  exact isT_some this
def dStr : PyData → Bool
  | .str _ => true
  | _ => false
theorem kit_str (d : PyData) : kitB (tyN d) "str" = some (dStr d) := by
  cases d
  · exact (by decide +kernel : kitB "NoneType" "str" = some false)
  · exact (by decide +kernel : kitB "bool" "str" = some false)
  · exact (by decide +kernel : kitB "int" "str" = some false)
  · exact (by decide +kernel : kitB "str" "str" = some true)
  · exact (by decide +kernel : kitB "list" "str" = some false)
  · exact (by decide +kernel : kitB "tuple" "str" = some false)
  · exact (by decide +kernel : kitB "dict" "str" = some false)
@[simp] theorem kb_str_str : kitB "str" "str" = some true := by decide +kernel
theorem g_lenS {x : Str} (h : x.length ≤ 16777216) : gLen [.str x] = some (.int x.length) := by
  show (if x.length ≤ sizeLine then some (PyData.int x.length) else none) = _
  rw [if_pos (by rw [sizeLine_eq]; exact h)]
@[simp] theorem r_asS {x : Str} : asS (.str x) = some (signs x) := rfl
theorem signs_len {x : Str} : (signs x).length = x.length := by simp [signs]; rfl
theorem lAll_true {n : Nat} : lAll (List.replicate n (.bool true)) = some (.bool true) := by
  have : List.replicate n (PyData.bool true) = (List.replicate n true).map PyData.bool := by simp
  rw [this, lAll, bls_bools]
  simp
theorem mapIdx_rep {α β : Type} {b : β} {l : List α} : (l.mapIdx fun _ _ => b) = List.replicate l.length b := by
  apply List.ext_getElem
  · simp
  · intro i h1 h2
    simp
theorem nm_ok {s : Str} (h : Nm s) : ∃ T, m_is_name [.val (.str s)] = .ok (.val (.bool true)) T := by
  have hl : lcL (gNm 1) sYes (sBin (gIn false) (sVar 1) (sK (.str LET))) [1] (signs s) [.val (.str s), .nil] = .ok (List.replicate s.length (.bool true)) [.val (.str s), .nil] := by
    have := lc_map (g := gNm 1) (e := sBin (gIn false) (sVar 1) (sK (.str LET))) (vs := [1]) (f := fun _ _ => .bool true) (S := [.val (.str s), .nil]) (ds := signs s) fun i d hd => by
      unfold signs at hd
      rw [List.getElem?_map] at hd
      cases q : s.cps.toList[i]? with
      | none => rw [q] at hd; cases hd
      | some c =>
        rw [q] at hd
        cases hd
        have b := h.2.2 c (List.mem_of_getElem? q)
        refine ⟨[.val (.str s), .val (.str ⟨#[c]⟩)], [.val (.str s), .val (.str ⟨#[c]⟩)], by simp, by simp [let_ok b.1 b.2], by simp [wipeS]⟩
    rw [this]
    congr 1
    rw [← signs_len]
    exact mapIdx_rep
  have h1 : (1 : Int) ≤ s.length := by have := h.1; omega
  have h8 : (s.length : Int) ≤ 8 := by have := h.2.1; omega
  have hs : s.length < 16777216 := by have := h.2.1; omega
  have gl := g_lenS (x := s) (by omega)
  unfold LET at hl
  simp [gl, m_is_name, c_is_name, kit_str, dStr, h1, h8, wipeS, unwipe, signs_len, sizeLine, hs, hl, lAll_true]
def sts (ss : List Str) : List PyData := ss.map .str
theorem sts_len {ss : List Str} : (sts ss).length = ss.length := by simp [sts]
theorem sts_get {ss : List Str} {i : Nat} : (sts ss)[i]? = (ss[i]?).map .str := by simp [sts]
theorem strsOf_sts : ∀ ss : List Str, strsOf (sts ss) = some ss
  | [] => rfl
  | s :: ss => by
    show (strsOf (sts ss)).map (s :: ·) = _
    rw [strsOf_sts ss]
    rfl
end Ds
end
section
set_option Elab.async false
set_option linter.all false
set_option maxRecDepth 100000
set_option maxHeartbeats 1000000
open PySem PySem.Spec PyProof.Rows L2
namespace Ds
theorem dct_nodup : ∀ {xs : List Str}, xs.Nodup → dct xs = xs.length
  | [], _ => rfl
  | x :: xs, h => by
    have q := List.nodup_cons.mp h
    unfold dct
    rw [dct_nodup q.2, if_neg q.1, List.length_cons]
theorem gLS_nodup {ys : List Str} (h : ys.Nodup) (hl : ys.length < 2000) : gLS (.tuple (sts ys)) = some (.int ys.length) := by
  show (match strsOf (sts ys) with
    | some ys => if ys.length < 2000 then some (PyData.int (dct (pre ys ys.length) : Nat)) else none
    | none => none) = _
  rw [strsOf_sts]
  show (if ys.length < 2000 then some (PyData.int (dct (pre ys ys.length) : Nat)) else none) = _
  rw [if_pos hl, dct_nodup (by unfold pre; rw [List.take_length]; exact (List.reverse_perm _).nodup_iff.mpr h)]
  unfold pre
  simp
theorem lc_true {g : GT} {e : SE} {vs : List Nat} {S : En} {ds : List PyData} (h : ∀ (i : Nat) (d : PyData), ds[i]? = some d → ∃ S2 S4, g d S = .nx S2 ∧ e S2 = .ok (.bool true) S4 ∧ wipeS vs S4 = S) :
    lcL g sYes e vs ds S = .ok (List.replicate ds.length (.bool true)) S := by
  rw [lc_map (f := fun _ _ => .bool true) h, mapIdx_rep]
theorem diff_ok {ys : List Str} (h : ys.Nodup) (hn : ∀ s ∈ ys, Nm s) (hl : ys.length < 2000) : ∃ T, m_are_different_names [.val (.tuple (sts ys))] = .ok (.val (.bool true)) T := by
  have lc : lcL (gNm 1) sYes (sCallV m_is_name (sGv (sVar 1) sG0)) [1] (sts ys) [.val (.tuple (sts ys)), .nil] = .ok (List.replicate ys.length (.bool true)) [.val (.tuple (sts ys)), .nil] := by
    have := lc_true (g := gNm 1) (e := sCallV m_is_name (sGv (sVar 1) sG0)) (vs := [1]) (S := [.val (.tuple (sts ys)), .nil]) (ds := sts ys) fun i d hd => by
      rw [sts_get] at hd
      cases q : ys[i]? with
      | none => rw [q] at hd; cases hd
      | some s =>
        rw [q] at hd
        cases hd
        obtain ⟨T, e⟩ := nm_ok (hn s (List.mem_of_getElem? q))
        exact ⟨[.val (.tuple (sts ys)), .val (.str s)], [.val (.tuple (sts ys)), .val (.str s)], by simp, by simp [e], by simp [wipeS]⟩
    rw [this, sts_len]
  have l2 : ys.length < 16777216 := by omega
  simp [m_are_different_names, c_are_different_names, wipeS, unwipe, sts_len, sizeLine, l2, lc, lAll_true, gLS_nodup h hl]
/-- an office, a seating, an order -/
structure Case (os : List Nat) (ss ord : List Str) : Prop where
  off : Off os
  len : ss.length = os.length + 1
  nd : ss.Nodup
  nm : ∀ s ∈ ss, Nm s
  ond : ord.Nodup
  osub : ∀ s ∈ ord, s ∈ ss
abbrev vO (os : List Nat) : Sl := .val (.tuple (nts os))
abbrev vS (ss : List Str) : Sl := .val (.tuple (sts ss))
section
variable {os : List Nat} {ss ord : List Str}
theorem Case.small (c : Case os ss ord) : ss.length ≤ 40 := by have := c.len; have := c.off.1; omega
theorem nodup_len_le {α : Type} [DecidableEq α] : ∀ {xs ys : List α}, xs.Nodup → (∀ x ∈ xs, x ∈ ys) → xs.length ≤ ys.length
  | [], _, _, _ => Nat.zero_le _
  | x :: xs, ys, h, s => by
    have q := List.nodup_cons.mp h
    have m := s x List.mem_cons_self
    have := nodup_len_le (ys := ys.erase x) q.2 fun y hy => (List.mem_erase_of_ne fun e => q.1 (by rw [← e]; exact hy)).mpr (s y (List.mem_cons_of_mem _ hy))
    rw [List.length_erase_of_mem m] at this
    have : 0 < ys.length := List.length_pos_of_mem m
    rw [List.length_cons]
    omega
theorem Case.osmall (c : Case os ss ord) : ord.length ≤ 40 := Nat.le_trans (nodup_len_le c.ond c.osub) c.small
theorem flat_sts {ss : List Str} : (sts ss).all flatD = true := by
  rw [List.all_eq_true]
  intro d hd
  obtain ⟨s, _, rfl⟩ := List.mem_map.mp hd
  rfl
theorem inD_sts {s : Str} {ss : List Str} : inD (.str s) (sts ss) = decide (s ∈ ss) := by
  rw [Bool.eq_iff_iff]
  simp only [inD, List.any_eq_true, decide_eq_true_eq]
  constructor
  · rintro ⟨d, h1, h2⟩
    obtain ⟨x, h3, rfl⟩ := List.mem_map.mp h1
    simp [PyData.eqv] at h2
    rw [← h2]; exact h3
  · intro h
    exact ⟨.str s, List.mem_map.mpr ⟨s, h, rfl⟩, by simp [PyData.eqv]⟩
@[simp] theorem g_inT {s : Str} {ss : List Str} : gInT false (.str s) (.tuple (sts ss)) = some (.bool (decide (s ∈ ss))) := by
  show (if flatD (.str s) = true ∧ (sts ss).all flatD = true then some (PyData.bool (if false = true then !inD (.str s) (sts ss) else inD (.str s) (sts ss))) else none) = _
  rw [if_pos ⟨rfl, flat_sts⟩, inD_sts]
  rfl
@[simp] theorem g_ninT {s : Str} {ss : List Str} : gInT true (.str s) (.tuple (sts ss)) = some (.bool (!decide (s ∈ ss))) := by
  show (if flatD (.str s) = true ∧ (sts ss).all flatD = true then some (PyData.bool (if true = true then !inD (.str s) (sts ss) else inD (.str s) (sts ss))) else none) = _
  rw [if_pos ⟨rfl, flat_sts⟩, inD_sts]
  rfl
end
end Ds
end
section
set_option Elab.async false
set_option linter.all false
set_option maxRecDepth 100000
set_option maxHeartbeats 1000000
open PySem PySem.Spec PyProof.Rows L2
namespace Ds
section
variable (os : List Nat) (cal : Nat → Bool)
def kids (d : Nat) : List Nat := (List.range' 1 os.length).filter fun e => decide (os.getD (e - 1) 0 = d)
def opF : Nat → Nat → Bool
  | 0, _ => false
  | k + 1, e => cal e && (kids os e).all fun c => !opF k c
def op (e : Nat) : Bool := opF os cal (os.length + 1 - e) e
/-- the open desks directly below d, of those behind t -/
def okd (t d : Nat) : List Nat := (List.range' (t + 1) (os.length - t)).filter fun e => decide (os.getD (e - 1) 0 = d) && op os cal e
end
section
variable {os : List Nat} {cal : Nat → Bool}
theorem mem_kids {d e : Nat} : e ∈ kids os d ↔ 1 ≤ e ∧ e ≤ os.length ∧ os.getD (e - 1) 0 = d := by
  unfold kids
  rw [List.mem_filter, List.mem_range'_1, decide_eq_true_eq]
  constructor
  · rintro ⟨⟨h1, h2⟩, h3⟩; exact ⟨h1, by omega, h3⟩
  · rintro ⟨h1, h2, h3⟩; exact ⟨⟨h1, by omega⟩, h3⟩
theorem off_lt (h : Off os) {e : Nat} (h1 : 1 ≤ e) (h2 : e ≤ os.length) : os.getD (e - 1) 0 < e := by
  have := (off_at h (d := e) (by omega) h2).2
  omega
theorem opF_op (h : Off os) : ∀ (n k : Nat), k ≤ n → ∀ e, e ≤ os.length → os.length + 1 - e ≤ k → opF os cal k e = op os cal e := by
  intro n
  induction n with
  | zero => intro k hk e he h1; omega
  | succ n ih =>
    intro k hk e he h1
    have hall : ∀ j, j ≤ n → os.length ≤ j + e → ((kids os e).all fun c => !opF os cal j c) = (kids os e).all fun c => !op os cal c := fun j hj h2 => by
      rw [Bool.eq_iff_iff, List.all_eq_true, List.all_eq_true]
      have key : ∀ c ∈ kids os e, opF os cal j c = op os cal c := fun c hc => by
        obtain ⟨m1, m2, m3⟩ := mem_kids.mp hc
        have := off_lt h m1 m2
        exact ih j hj c m2 (by omega)
      constructor
      · intro z c hc; rw [← key c hc]; exact z c hc
      · intro z c hc; rw [key c hc]; exact z c hc
    cases k with
    | zero => omega
    | succ k =>
      show (cal e && (kids os e).all fun c => !opF os cal k c) = opF os cal (os.length + 1 - e) e
      have e1 : os.length + 1 - e = (os.length - e) + 1 := by omega
      rw [e1]
      show _ = (cal e && (kids os e).all fun c => !opF os cal (os.length - e) c)
      rw [hall k (by omega) (by omega), hall (os.length - e) (by omega) (by omega)]
theorem op_eq (h : Off os) {e : Nat} (he : e ≤ os.length) : op os cal e = (cal e && (kids os e).all fun c => !op os cal c) := by
  have e1 : os.length + 1 - e = (os.length - e) + 1 := by omega
  show opF os cal (os.length + 1 - e) e = _
  rw [e1]
  show (cal e && (kids os e).all fun c => !opF os cal (os.length - e) c) = _
  congr 1
  rw [Bool.eq_iff_iff, List.all_eq_true, List.all_eq_true]
  have key : ∀ c ∈ kids os e, opF os cal (os.length - e) c = op os cal c := fun c hc => by
    obtain ⟨m1, m2, m3⟩ := mem_kids.mp hc
    have := off_lt h m1 m2
    exact opF_op h _ _ (Nat.le_refl _) c m2 (by omega)
  constructor
  · intro z c hc; rw [← key c hc]; exact z c hc
  · intro z c hc; rw [key c hc]; exact z c hc
theorem mem_okd {t d e : Nat} : e ∈ okd os cal t d ↔ t < e ∧ e ≤ os.length ∧ os.getD (e - 1) 0 = d ∧ op os cal e = true := by
  unfold okd
  rw [List.mem_filter, List.mem_range'_1, Bool.and_eq_true, decide_eq_true_eq]
  constructor
  · rintro ⟨⟨h1, h2⟩, h3, h4⟩; exact ⟨by omega, by omega, h3, h4⟩
  · rintro ⟨h1, h2, h3, h4⟩; exact ⟨⟨by omega, by omega⟩, h3, h4⟩
theorem op_okd (h : Off os) {e : Nat} (he : e ≤ os.length) : op os cal e = (cal e && (okd os cal 0 e).isEmpty) := by
  rw [op_eq h he]
  congr 1
  rw [Bool.eq_iff_iff, List.all_eq_true, List.isEmpty_iff, List.eq_nil_iff_forall_not_mem]
  constructor
  · intro z c hc
    obtain ⟨h1, h2, h3, h4⟩ := mem_okd.mp hc
    have := z c (mem_kids.mpr ⟨h1, h2, h3⟩)
    rw [h4] at this
    cases this
  · intro z c hc
    obtain ⟨h1, h2, h3⟩ := mem_kids.mp hc
    cases q : op os cal c with
    | false => rfl
    | true => exact absurd (mem_okd.mpr ⟨h1, h2, h3, q⟩) (z c)
end
def nmAt (ss : List Str) (t : Nat) : Str := ss.getD t Str.empty
theorem sts_at {ss : List Str} {t : Nat} (h : t < ss.length) : atI (sts ss) (t : Nat) = some (.str (nmAt ss t)) := by
  rw [atI_nn (by omega), Int.toNat_natCast, sts_get]
  simp [nmAt, h]
theorem nmAt_get {ss : List Str} {t : Nat} (h : t < ss.length) : ss[t]? = some (nmAt ss t) := by simp [nmAt, h]
def calB (ss ord : List Str) (d : Nat) : Bool := decide (nmAt ss d ∈ ord)
section
variable {os : List Nat} {ss ord : List Str} {cal : Nat → Bool}
theorem okd_len {t d : Nat} : (okd os cal t d).length ≤ os.length := by
  unfold okd
  refine Nat.le_trans (List.length_filter_le _ _) ?_
  rw [List.length_range']
  omega
theorem rng1_run {sr : SN} {S S1 : En} {ds zs : List PyData} (h : sr S = .ok ds S1) (e : rng1 ds = some zs) : sRng1 sr S = .ok zs S1 := by rw [r_sRng1, h, bnd_ok, e]; rfl
theorem rng2_run {sr : SN} {S S1 : En} {ds zs : List PyData} (h : sr S = .ok ds S1) (e : rng2 ds = some zs) : sRng2 sr S = .ok zs S1 := by rw [r_sRng2, h, bnd_ok, e]; rfl
end
end Ds
end
section
set_option Elab.async false
set_option linter.all false
set_option maxRecDepth 100000
set_option maxHeartbeats 1000000
open PySem PySem.Spec PyProof.Rows L2
namespace Ds
theorem lc_mapF {g : GT} {e : SE} {vs : List Nat} {S : En} {f : PyData → PyData} : ∀ {ds : List PyData}, (∀ d ∈ ds, ∃ S2 S4, g d S = .nx S2 ∧ e S2 = .ok (f d) S4 ∧ wipeS vs S4 = S) → lcL g sYes e vs ds S = .ok (ds.map f) S
  | [], _ => rfl
  | d :: ds, h => by
    obtain ⟨S2, S4, e1, e2, e3⟩ := h d List.mem_cons_self
    have ih := lc_mapF (g := g) (e := e) (vs := vs) (S := S) (f := f) (ds := ds) fun d hd => h d (List.mem_cons_of_mem _ hd)
    rw [lcL, e1]
    show ((e S2).bind fun y S4 => (lcL g sYes e vs ds (wipeS vs S4)).bind fun ys S5 => .ok (y :: ys) S5) = _
    rw [e2, bind_ok, e3, ih, bind_ok]
    rfl
theorem findIdx_mem {s : Str} : ∀ {ys : List Str}, s ∈ ys → ys.findIdx? (· == s) = some (ys.idxOf s)
  | [], h => by cases h
  | y :: ys, h => by
    rw [List.findIdx?_cons, List.idxOf_cons]
    by_cases e : (y == s) = true
    · rw [if_pos e, e]; rfl
    · rw [if_neg e]
      have hm : s ∈ ys := by
        rcases List.mem_cons.mp h with h | h
        · exact absurd (by rw [h]; simp) e
        · exact h
      have e' : (y == s) = false := by simpa using e
      rw [findIdx_mem hm, e']
      rfl
theorem g_tix {s : Str} {ys : List Str} (h : s ∈ ys) : gTIx (.tuple (sts ys)) (.str s) = some (.int (ys.idxOf s : Nat)) := by
  show (match strsOf (sts ys) with
    | some ys => (ys.findIdx? (· == s)).map fun j => PyData.int (j : Nat)
    | none => none) = _
  rw [strsOf_sts]
  show (ys.findIdx? (· == s)).map (fun j => PyData.int (j : Nat)) = _
  rw [findIdx_mem h]
  rfl
theorem idx_lt {s : Str} {ys : List Str} (h : s ∈ ys) : ys.idxOf s < ys.length := List.idxOf_lt_length_of_mem h
theorem idx_get {s : Str} {ys : List Str} (h : s ∈ ys) : ys[ys.idxOf s]? = some s := by
  rw [List.getElem?_eq_getElem (idx_lt h), List.getElem_idxOf (idx_lt h)]
theorem idx_inj {s t : Str} {ys : List Str} (h : s ∈ ys) (g : t ∈ ys) (e : ys.idxOf s = ys.idxOf t) : s = t := by
  have := idx_get h
  rw [e, idx_get g] at this
  exact (Option.some.inj this).symm
theorem nodup_at {α : Type} {l : List α} (h : l.Nodup) {i j : Nat} {x : α} (a : l[i]? = some x) (b : l[j]? = some x) : i = j := nodup_idx h a b
theorem nm_mem {ss : List Str} {d : Nat} (hd : d < ss.length) : nmAt ss d ∈ ss := List.mem_of_getElem? (nmAt_get hd)
theorem nm_idx {ss : List Str} {s : Str} (h : s ∈ ss) : nmAt ss (ss.idxOf s) = s := by
  have := nmAt_get (idx_lt h)
  rw [idx_get h] at this
  exact (Option.some.inj this).symm
def blk (ss ord : List Str) (under : List Nat) (d : Nat) : List PyData :=
  if nmAt ss d ∈ ord then ((ord.drop (ord.idxOf (nmAt ss d) + 1)).filter fun s => decide (s ∈ under.map (nmAt ss))).map fun s => .int (ss.idxOf s : Nat)
  else if under = [] then [] else [.none]
end Ds
end
section
set_option Elab.async false
set_option linter.all false
set_option maxRecDepth 100000
set_option maxHeartbeats 1000000
open PySem PySem.Spec PyProof.Rows L2
namespace Ds
def blkD (os : List Nat) (ss ord : List Str) (d : Nat) : List PyData := blk ss ord (okd os (calB ss ord) 0 d) d
def desks (os : List Nat) : List Nat := List.range (os.length + 1)
section
variable {os : List Nat} {ss ord : List Str}
theorem okd_small (c : Case os ss ord) {d : Nat} : (∀ x ∈ okd os (calB ss ord) 0 d, x < ss.length) ∧ (okd os (calB ss ord) 0 d).length ≤ 40 := by
  have := c.len
  have := c.off.1
  refine ⟨fun x hx => ?_, Nat.le_trans okd_len (by omega)⟩
  have := (mem_okd.mp hx).2.1
  omega
def settledB (os : List Nat) (ss ord : List Str) : Bool := (desks os).all fun d => (blkD os ss ord d).isEmpty
end
end Ds
end
section
set_option Elab.async false
set_option linter.all false
set_option maxRecDepth 100000
set_option maxHeartbeats 1000000
open PySem PySem.Spec PyProof.Rows L2
namespace Ds
def Sg (k : Nat) (ds : List PyData) : Prop := ∃ a b n : Int, ds = [.int a, .int b, .int n] ∧ 0 ≤ b ∧ b < 10 ^ 37 ∧ 0 ≤ n ∧ n ≤ k
theorem Sg.mono {k j : Nat} {ds : List PyData} (h : Sg k ds) (l : k ≤ j) : Sg j ds := by
  obtain ⟨a, b, n, e, h1, h2, h3, h4⟩ := h
  exact ⟨a, b, n, e, h1, h2, h3, by omega⟩
def PB (i : Int) : Prop := i.natAbs < 2 ^ 1000
theorem g_powB {i j : Int} (h0 : 0 ≤ j) (h1 : j ≤ 1000) (h : PB i) : gPowB (.int i) (.int j) = some (.int (i ^ j.toNat)) := by
  show (if cPowB i j = true then some (PyData.int (i ^ j.toNat)) else none) = _
  have : cPowB i j = true := decide_eq_true (p := 0 ≤ j ∧ j ≤ 1000 ∧ i.natAbs < 2 ^ 1000) ⟨h0, h1, h⟩
  rw [if_pos this]
theorem g_pow3 {i : Int} (h : PB i) : gPowB (.int i) (.int 3) = some (.int (i ^ 3)) := g_powB (by decide) (by decide) h
theorem g_pow5 {i : Int} (h : PB i) : gPowB (.int i) (.int 5) = some (.int (i ^ 5)) := g_powB (by decide) (by decide) h
theorem pw3 {b n : Int} (h0 : 0 ≤ b) (h1 : b < 10 ^ 37) (n0 : 0 ≤ n) (n1 : n ≤ 1000000) : PB (b + 49979687 * n) := by
  have : (b + 49979687 * n).natAbs < 2 * 10 ^ 37 := by omega
  exact Nat.lt_trans this (by decide)
theorem pw5 {x n : Int} (h0 : 0 ≤ x) (h1 : x < 100000000000000000000000000000000000133) (n0 : 0 ≤ n) (n1 : n ≤ 1000000) : PB (x + 67867967 * n) := by
  have : (x + 67867967 * n).natAbs < 2 * 10 ^ 38 := by omega
  exact Nat.lt_trans this (by decide)
theorem draw {k : Nat} {bag : List PyData} (hb : Sg k bag) (hk : k < 1000000) {m : Int} (h0 : 0 < m) (h1 : m < 2 ^ 100) : ∃ r bag' T, 0 ≤ r ∧ r < m ∧ Sg (k + 1) bag' ∧ m__law_draw [.io bag, .val (.int m)] = .ok (.val (.int r)) (.io bag' :: T) := by
  obtain ⟨a, b, n, rfl, b0, b1, n1, n2⟩ := hb
  have lm : m.natAbs.log2 < 9000 := Nat.lt_trans (lg_lt (by decide) (by omega) h1) (by decide)
  by_cases ha : 0 < a
  · refine ⟨a % m, [.int (a / m), .int b, .int n], [.val (.int m), .nil, .val (.int (a % m))], Int.emod_nonneg _ (by omega), Int.emod_lt_of_pos _ h0, ⟨_, _, _, rfl, b0, b1, by omega, by omega⟩, ?_⟩
    simp [m__law_draw, c__law_draw, ha, h0, lm]
  · have l1 : (n + 1).natAbs.log2 < 30 := lg_lt (by decide) (by omega) (by omega)
    have k1 : Nat.log2 49979687 < 30 := by decide +kernel
    have k2 : Nat.log2 67867967 < 30 := by decide +kernel
    have k3 : Nat.log2 1048576 < 9000 := by decide +kernel
    have c1 : Nat.log2 49979687 + (n + 1).natAbs.log2 < 1000000 := by omega
    have c2 : Nat.log2 67867967 + (n + 1).natAbs.log2 < 1000000 := by omega
    have p1 := g_pow3 (pw3 b0 b1 (n := n + 1) (by omega) (by omega))
    have p2 : ∀ y : Int, gPowB (.int (y % 100000000000000000000000000000000000133 + 67867967 * (n + 1))) (.int 5) = some (.int ((y % 100000000000000000000000000000000000133 + 67867967 * (n + 1)) ^ 5)) := fun y => g_pow5 <| pw5 (Int.emod_nonneg _ (by decide)) (Int.emod_lt_of_pos _ (by decide)) (by omega) (by omega)
    have key : ∃ x T, m__law_draw [.io [.int a, .int b, .int n], .val (.int m)] = .ok (.val (.int (x % m))) (.io [.int a, .int b, .int (n + 1)] :: T) := by
      simp [m__law_draw, c__law_draw, ha, h0, c1, c2, k3, p1, p2]
      exact ⟨_, rfl⟩
    obtain ⟨x, T, e⟩ := key
    exact ⟨_, _, T, Int.emod_nonneg _ (by omega), Int.emod_lt_of_pos _ h0, ⟨_, _, _, rfl, b0, b1, by omega, by omega⟩, e⟩
end Ds
end
section
set_option Elab.async false
set_option linter.all false
set_option maxRecDepth 100000
set_option maxHeartbeats 1000000
open PySem PySem.Spec PyProof.Rows L2
namespace Ds
theorem smallI_ok {i : Int} (h0 : -1000000 ≤ i) (h1 : i < 1000000) : smallI i = true := by
  unfold smallI
  have e : (2 : Int) ^ 62 = 4611686018427387904 := by decide
  rw [e]
  simp; omega
theorem rng1_ok {i : Int} (h0 : -1000000 ≤ i) (h1 : i < 1000000) : rng1 [.int i] = some (rng 0 i) := by
  show (if smallI i = true then some (rng 0 i) else none) = _
  rw [if_pos (smallI_ok h0 h1)]
theorem rng2_ok {i j : Int} (h0 : -1000000 ≤ i) (h1 : i < 1000000) (g0 : -1000000 ≤ j) (g1 : j < 1000000) : rng2 [.int i, .int j] = some (rng i j) := by
  show (if smallI i = true ∧ smallI j = true then some (rng i j) else none) = _
  rw [if_pos ⟨smallI_ok h0 h1, smallI_ok g0 g1⟩]
theorem rng_get {a b : Int} {i : Nat} {z : PyData} (h : (rng a b)[i]? = some z) : z = .int (a + i) ∧ i < (b - a).toNat := by
  unfold rng at h
  rw [List.getElem?_map] at h
  cases q : (List.range (b - a).toNat)[i]? with
  | none => rw [q] at h; cases h
  | some j =>
    rw [q] at h
    obtain ⟨h1, h2⟩ := List.getElem?_eq_some_iff.mp q
    rw [List.getElem_range] at h2
    rw [List.length_range] at h1
    subst h2
    cases h
    exact ⟨rfl, h1⟩
theorem rng_len {a b : Int} : (rng a b).length = (b - a).toNat := by simp [rng]
theorem nts_snoc {os : List Nat} {v : Int} (h : 0 ≤ v) : nts os ++ [.int v] = nts (os ++ [v.toNat]) := by
  simp [nts, Int.toNat_of_nonneg h]
@[simp] theorem g_min {i j : Int} : gMin [.int i, .int j] = some (.int (if j < i then j else i)) := rfl
def q_off1 : SS := sSet 2 (sNE (sLst (sCons (sBin gAdd (sK (.int 1)) (sCallV m__law_draw (sGr 0 (sGv (sCallB gMin (sCons (sVar 1) (sCons (sK (.int 6)) sNil))) sG0)))) (sCons (sBin gAdd (sK (.int 1)) (sCallV m__law_draw (sGr 0 (sGv (sVar 1) sG0)))) (sCons (sVar 1) sNil)))))
def q_off2 : SS := sParV 5 6 (sCons (sBin gIx (sVar 2) (sCallV m__law_draw (sGr 0 (sGv (sK (.int 3)) sG0)))) (sCons (sCallV m__law_draw (sGr 0 (sGv (sK (.int 5)) sG0))) sNil))
def q_off3 : SS := sParV3 7 8 9 (sCons (sCallV m__law_draw (sGr 0 (sGv (sVar 4) sG0))) (sCons (sCallV m__law_draw (sGr 0 (sGv (sK (.int 3)) sG0))) (sCons (sCallV m__law_draw (sGr 0 (sGv (sCallB gMin (sCons (sVar 4) (sCons (sK (.int 4)) sNil))) sG0))) sNil)))
def q_off4 : SS := sDrop (sAppend 3 (sBin gIx (sNE (sLst (sCons (sBin gSub_ (sVar 4) (sK (.int 1))) (sCons (sK (.int 0)) (sCons (sVar 7) (sCons (sCallB gMax (sCons (sK (.int 0)) (sCons (sBin gSub_ (sBin gSub_ (sVar 4) (sK (.int 1))) (sVar 8)) sNil))) (sCons (sVar 9) sNil))))))) (sVar 6)))
theorem c_off_eq : c__law_office = sSeq q_off1 (sSeq q_off2 (sSeq (sSetNew 3 (sLst sNil)) (sSeq (sFor (sRng2 (sCons (sK (.int 1)) (sCons (sVar 5) sNil))) (gNm 4) (sSeq q_off3 q_off4)) (sRet (sRd lTup (sLVar 3)))))) := rfl
theorem noio_bare {x : Sl} (h : bare (some x) = true) : noio (some x) = true := (bare_noio h).1
theorem off_step {m z st : Int} {k i : Nat} {os : List Nat} {bg : List PyData} {x2 x4 x7 x8 x9 : Sl} (hb : Sg k bg) (hk : k < 900000) (hi : i < 1000) (hl : os.length = i) (s0 : 0 ≤ st) (s1 : st < 5) (b7 : bare (some x7) = true) (b8 : bare (some x8) = true) (b9 : bare (some x9) = true) :
    ∃ bg' v y7 y8 y9, Sg (k + 3) bg' ∧ 0 ≤ v ∧ v ≤ (i : Int) ∧ bare (some y7) = true ∧ bare (some y8) = true ∧ bare (some y9) = true ∧ (sSeq q_off3 q_off4) [.io bg, .val (.int m), x2, .own (nts os), .val (.int (1 + (i : Nat))), .val (.int z), .val (.int st), x7, x8, x9] = .nx [.io bg', .val (.int m), x2, .own (nts os ++ [.int v]), .val (.int (1 + (i : Nat))), .val (.int z), .val (.int st), y7, y8, y9] := by
  obtain ⟨r1, bag1, T1, a1, a2, a3, e1⟩ := draw hb (by omega) (m := 1 + (i : Int)) (by omega) (by omega)
  obtain ⟨r2, bag2, T2, b1, b2, b3, e2⟩ := draw a3 (by omega) (m := 3) (by decide) (by decide)
  obtain ⟨r3, bag3, T3, c1, c2, c3, e3⟩ := draw b3 (by omega) (m := if 4 < 1 + (i : Int) then 4 else 1 + (i : Int)) (by split <;> omega) (by split <;> omega)
  have hv : ∃ v : Int, 0 ≤ v ∧ v ≤ i ∧ atI [PyData.int (1 + (i : Int) - 1), .int 0, .int r1, .int (if 1 + (i : Int) - 1 - r2 > 0 then 1 + (i : Int) - 1 - r2 else 0), .int r3] st = some (.int v) := by
    rw [atI_nn s0]
    have : st = 0 ∨ st = 1 ∨ st = 2 ∨ st = 3 ∨ st = 4 := by omega
    rcases this with q | q | q | q | q <;> subst q
    · exact ⟨_, by omega, by omega, rfl⟩
    · exact ⟨0, by omega, by omega, rfl⟩
    · exact ⟨r1, by omega, by omega, rfl⟩
    · exact ⟨_, by split <;> omega, by split <;> omega, rfl⟩
    · refine ⟨r3, by omega, ?_, rfl⟩
      split at c2 <;> omega
  obtain ⟨v, v0, v1, ev⟩ := hv
  refine ⟨bag3, v, .val (.int r1), .val (.int r2), .val (.int r3), c3, v0, v1, rfl, rfl, rfl, ?_⟩
  have h3 : q_off3 [.io bg, .val (.int m), x2, .own (nts os), .val (.int (1 + (i : Nat))), .val (.int z), .val (.int st), x7, x8, x9] = .nx [.io bag3, .val (.int m), x2, .own (nts os), .val (.int (1 + (i : Nat))), .val (.int z), .val (.int st), .val (.int r1), .val (.int r2), .val (.int r3)] := by
    simp [q_off3, e1, e2, e3, noio_bare b7, noio_bare b8, noio_bare b9]
  have sz : os.length < 16777216 := by omega
  have h4 : q_off4 [.io bag3, .val (.int m), x2, .own (nts os), .val (.int (1 + (i : Nat))), .val (.int z), .val (.int st), .val (.int r1), .val (.int r2), .val (.int r3)] = .nx [.io bag3, .val (.int m), x2, .own (nts os ++ [.int v]), .val (.int (1 + (i : Nat))), .val (.int z), .val (.int st), .val (.int r1), .val (.int r2), .val (.int r3)] := by
    simp at ev
    simp [q_off4, sizeLine, ev, nts_len, sz]
  rw [r_sSeq, h3, sq_nx, h4]
theorem law_off {m : Int} (m0 : 0 < m) (m1 : m ≤ 40) {k : Nat} (hk : k < 800000) {bag : List PyData} (hb : Sg k bag) : ∃ os bag' T, Off os ∧ Sg (k + 200) bag' ∧ (os.length : Int) < m ∧ m__law_office [.io bag, .val (.int m)] = .ok (.val (.tuple (nts os))) (.io bag' :: T) := by
  obtain ⟨r1, bag1, T1, a1, a2, a3, e1⟩ := draw hb (by omega) (m := if 6 < m then 6 else m) (by split <;> omega) (by split <;> omega)
  obtain ⟨r2, bag2, T2, b1, b2, b3, e2⟩ := draw a3 (by omega) (m := m) m0 (by omega)
  obtain ⟨r3, bag3, T3, c1, c2, c3, e3⟩ := draw b3 (by omega) (m := 3) (by decide) (by decide)
  obtain ⟨r4, bag4, T4, d1, d2, d3, e4⟩ := draw c3 (by omega) (m := 5) (by decide) (by decide)
  have hz : ∃ z : Int, 1 ≤ z ∧ z ≤ m ∧ atI [PyData.int (1 + r1), .int (1 + r2), .int m] r3 = some (.int z) := by
    rw [atI_nn c1]
    have : r3 = 0 ∨ r3 = 1 ∨ r3 = 2 := by omega
    rcases this with q | q | q <;> subst q
    · refine ⟨_, ?_, ?_, rfl⟩
      · omega
      · split at a2 <;> omega
    · exact ⟨_, by omega, by omega, rfl⟩
    · exact ⟨_, by omega, by omega, rfl⟩
  obtain ⟨z, z0, z1, ez⟩ := hz
  have s1 : q_off1 [.io bag, .val (.int m), .nil, .nil, .nil, .nil, .nil, .nil, .nil, .nil] = .nx [.io bag2, .val (.int m), .val (.list [.int (1 + r1), .int (1 + r2), .int m]), .nil, .nil, .nil, .nil, .nil, .nil, .nil] := by
    simp [q_off1, e1, e2, sizeLine]
  have s2 : q_off2 [.io bag2, .val (.int m), .val (.list [.int (1 + r1), .int (1 + r2), .int m]), .nil, .nil, .nil, .nil, .nil, .nil, .nil] = .nx [.io bag4, .val (.int m), .val (.list [.int (1 + r1), .int (1 + r2), .int m]), .nil, .nil, .val (.int z), .val (.int r4), .nil, .nil, .nil] := by
    simp [q_off2, e3, e4, ez]
  have s3 : sSetNew 3 (sLst sNil) [.io bag4, .val (.int m), .val (.list [.int (1 + r1), .int (1 + r2), .int m]), .nil, .nil, .val (.int z), .val (.int r4), .nil, .nil, .nil] = .nx [.io bag4, .val (.int m), .val (.list [.int (1 + r1), .int (1 + r2), .int m]), .own [], .nil, .val (.int z), .val (.int r4), .nil, .nil, .nil] := by
    simp [sizeLine]
  obtain ⟨S', el, bg, os, x4, x7, x8, x9, f1, f2, f3, f4, f7, f8, f9, rfl⟩ := loop_inv (g := gNm 4) (b := sSeq q_off3 q_off4) (ds := rng 1 z) (P := fun i S => ∃ bag os x4 x7 x8 x9, Sg (k + 4 + 3 * i) bag ∧ os.length = i ∧ (∀ (j y : Nat), os[j]? = some y → y ≤ j) ∧ bare (some x4) = true ∧ bare (some x7) = true ∧ bare (some x8) = true ∧ bare (some x9) = true ∧ S = [.io bag, .val (.int m), .val (.list [.int (1 + r1), .int (1 + r2), .int m]), .own (nts os), x4, .val (.int z), .val (.int r4), x7, x8, x9])
    (S := [.io bag4, .val (.int m), .val (.list [.int (1 + r1), .int (1 + r2), .int m]), .own [], .nil, .val (.int z), .val (.int r4), .nil, .nil, .nil]) ⟨bag4, [], .nil, .nil, .nil, .nil, d3.mono (by omega), rfl, fun j y h => by simp at h, rfl, rfl, rfl, rfl, rfl⟩ fun i w S hw hS => by
    obtain ⟨bg, os, x4, x7, x8, x9, f1, f2, f3, f4, f7, f8, f9, rfl⟩ := hS
    obtain ⟨ew, hi⟩ := rng_get hw
    subst ew
    obtain ⟨bg', v, y7, y8, y9, g1, g2, g3, g7, g8, g9, ge⟩ := off_step (m := m) (z := z) (x2 := .val (.list [.int (1 + r1), .int (1 + r2), .int m])) (x4 := x4) f1 (by omega) (by omega) f2 d1 d2 f7 f8 f9
    refine ⟨_, _, ?_, ge, bg', os ++ [v.toNat], _, y7, y8, y9, g1.mono (by omega), by simp [f2], ?_, rfl, g7, g8, g9, by rw [nts_snoc g2]⟩
    · simp [f4]
    · intro j y h
      by_cases q : j < os.length
      · rw [List.getElem?_append_left q] at h
        exact f3 j y h
      · have : j < (os ++ [v.toNat]).length := (List.getElem?_eq_some_iff.mp h).1
        have ej : j = os.length := by simp at this; omega
        subst ej
        simp at h
        omega
  have hlen : os.length = (z - 1).toNat := by rw [f2, rng_len]
  have s4 : sFor (sRng2 (sCons (sK (.int 1)) (sCons (sVar 5) sNil))) (gNm 4) (sSeq q_off3 q_off4) [.io bag4, .val (.int m), .val (.list [.int (1 + r1), .int (1 + r2), .int m]), .own [], .nil, .val (.int z), .val (.int r4), .nil, .nil, .nil] = .nx [.io bg, .val (.int m), .val (.list [.int (1 + r1), .int (1 + r2), .int m]), .own (nts os), x4, .val (.int z), .val (.int r4), x7, x8, x9] := by
    rw [r_sFor, rng2_run (S1 := [.io bag4, .val (.int m), .val (.list [.int (1 + r1), .int (1 + r2), .int m]), .own [], .nil, .val (.int z), .val (.int r4), .nil, .nil, .nil]) (ds := [.int 1, .int z]) (by simp) (rng2_ok (by omega) (by omega) (by omega) (by omega)), stt_ok]
    exact el
  refine ⟨os, bg, [.val (.int m), .val (.list [.int (1 + r1), .int (1 + r2), .int m]), .own (nts os), x4, .val (.int z), .val (.int r4), x7, x8, x9], ⟨by omega, f3⟩, f1.mono (by rw [rng_len]; omega), by omega, ?_⟩
  rw [m__law_office, r_mB]
  show (c__law_office [.io bag, .val (.int m), .nil, .nil, .nil, .nil, .nil, .nil, .nil, .nil]).fin = _
  rw [c_off_eq, r_sSeq, s1, sq_nx, r_sSeq, s2, sq_nx, r_sSeq, s3, sq_nx, r_sSeq, s4, sq_nx]
  simp [lTup]
end Ds
end
section
set_option Elab.async false
set_option linter.all false
set_option maxRecDepth 100000
set_option maxHeartbeats 1000000
open PySem PySem.Spec PyProof.Rows L2
namespace Ds
theorem erase_perm {α : Type} : ∀ {l : List α} {i : Nat} {x : α}, l[i]? = some x → (x :: l.eraseIdx i).Perm l
  | [], i, x, h => by simp at h
  | y :: l, 0, x, h => by
    obtain rfl : y = x := by simpa using h
    exact List.Perm.refl _
  | y :: l, i + 1, x, h => by
    have ih := erase_perm (l := l) (i := i) (x := x) (by simpa using h)
    show (x :: y :: l.eraseIdx i).Perm (y :: l)
    exact (List.Perm.swap y x _).trans (ih.cons y)
theorem sts_erase {l : List Str} {i : Nat} : (sts l).eraseIdx i = sts (l.eraseIdx i) := by
  induction l generalizing i with
  | nil => rfl
  | cons x l ih =>
    cases i with
    | zero => rfl
    | succ i => show PyData.str x :: (sts l).eraseIdx i = .str x :: sts (l.eraseIdx i); rw [ih]
theorem sts_app {a b : List Str} : sts a ++ sts b = sts (a ++ b) := by simp [sts]
theorem pop_ok {l : List Str} {r : Int} (h0 : 0 ≤ r) (h1 : r < l.length) (h2 : l.length ≤ 1000000) : popI (sts l) (.int r) = some (.str (nmAt l r.toNat), sts (l.eraseIdx r.toNat)) := by
  show (if 0 ≤ r ∧ r < (sts l).length ∧ r < 2 ^ 63 then ((sts l)[r.toNat]?).map fun x => (x, (sts l).eraseIdx r.toNat) else none) = _
  rw [if_pos ⟨h0, by rw [sts_len]; exact h1, by omega⟩, sts_get, nmAt_get (ss := l) (t := r.toNat) (by omega), sts_erase]
  rfl
/-- items taken out, one by one -/
theorem pops {g : GT} {e : SE} {vs : List Nat} {E : List PyData → List Str → En} (step : ∀ (k : Nat) (bag : List PyData) (pool : List Str) (j : Int), Sg k bag → k < 900000 → 0 < pool.length → pool.length ≤ 1000 → ∃ bag' r S2 S4, Sg (k + 1) bag' ∧ r < pool.length ∧ g (.int j) (E bag pool) = .nx S2 ∧ e S2 = .ok (.str (nmAt pool r)) S4 ∧ wipeS vs S4 = E bag' (pool.eraseIdx r))
    {k n : Nat} {bag : List PyData} {ys : List Str} (hb : Sg k bag) (hk : k < 800000) (hn : n ≤ ys.length) (hy : ys.length ≤ 1000) : ∃ a bag' rest, lcL g sYes e vs (rng 0 n) (E bag ys) = .ok (sts a) (E bag' rest) ∧ Sg (k + n) bag' ∧ a.length = n ∧ (a ++ rest).Perm ys := by
  obtain ⟨zs, S', h1, bag', a, rest, h2, h3, h4, h5, h6⟩ := lc_inv (g := g) (t := sYes) (e := e) (vs := vs) (ds := rng 0 n) (P := fun i acc S => ∃ bag a rest, Sg (k + i) bag ∧ acc = sts a ∧ a.length = i ∧ (a ++ rest).Perm ys ∧ S = E bag rest) (acc := []) (S := E bag ys) ⟨bag, [], ys, hb, rfl, rfl, List.Perm.refl _, rfl⟩ fun i d acc S hd hP => by
    obtain ⟨bag, a, rest, h1, rfl, h3, h4, rfl⟩ := hP
    obtain ⟨rfl, hi⟩ := rng_get hd
    have hl := h4.length_eq
    rw [List.length_append] at hl
    obtain ⟨bag', r, S2, S4, g1, g2, g3, g4, g5⟩ := step (k + i) bag rest (0 + (i : Int)) h1 (by omega) (by omega) (by omega)
    refine ⟨S2, true, S2, g3, rfl, (fun z => by cases z), fun _ => ⟨_, S4, g4, bag', a ++ [nmAt rest r], rest.eraseIdx r, g1, by rw [← sts_app]; rfl, by simp [h3], ?_, g5⟩⟩
    rw [List.append_assoc]
    exact ((erase_perm (nmAt_get g2)).append_left a).trans h4
  rw [List.nil_append] at h3
  subst h3
  rw [rng_len] at h2 h4
  refine ⟨a, bag', rest, by rw [h1, h6], h2.mono (by omega), by omega, h5⟩
def POOL : List Str := (LET.cps.toList.map fun c => (⟨#[c]⟩ : Str)) ++ [Str.ofString "ab", Str.ofString "ba", Str.ofString "aa", Str.ofString "zz", Str.ofString "zzzzzzzz", Str.ofString "zzzzzzza", Str.ofString "open", Str.ofString "call", Str.ofString "days", Str.ofString "order", Str.ofString "silent", Str.ofString "center", Str.ofString "at", Str.ofString "none"]
theorem pool_len : POOL.length = 40 := by decide +kernel
theorem pool_nd : POOL.Nodup := by decide +kernel
theorem pool_all : (POOL.all fun s => decide (1 ≤ s.length) && decide (s.length ≤ 8) && s.cps.toList.all fun c => decide (97 ≤ c) && decide (c ≤ 122)) = true := by decide +kernel
theorem pool_nm {s : Str} (h : s ∈ POOL) : Nm s := by
  have := List.all_eq_true.mp pool_all s h
  simp only [Bool.and_eq_true, decide_eq_true_eq, List.all_eq_true] at this
  exact ⟨this.1.1, this.1.2, this.2⟩
theorem let_size : LET.cps.size = 26 := by decide +kernel
def q_nam1 : SS := sSetNew 2 (sCatN (sNE (sListS (sCons (sK (.str (Str.ofString "abcdefghijklmnopqrstuvwxyz"))) sNil))) (sNE (sLst (sCons (sK (.str (Str.ofString "ab"))) (sCons (sK (.str (Str.ofString "ba"))) (sCons (sK (.str (Str.ofString "aa"))) (sCons (sK (.str (Str.ofString "zz"))) (sCons (sK (.str (Str.ofString "zzzzzzzz"))) (sCons (sK (.str (Str.ofString "zzzzzzza"))) (sCons (sK (.str (Str.ofString "open"))) (sCons (sK (.str (Str.ofString "call"))) (sCons (sK (.str (Str.ofString "days"))) sNil))))))))))))
def q_nam2 : SS := sSetNew 2 (sCatV 2 (sNE (sLst (sCons (sK (.str (Str.ofString "order"))) (sCons (sK (.str (Str.ofString "silent"))) (sCons (sK (.str (Str.ofString "center"))) (sCons (sK (.str (Str.ofString "at"))) (sCons (sK (.str (Str.ofString "none"))) sNil))))))))
def q_nam3 : SN := sLc (sRng1 (sCons (sVar 1) sNil)) (gNm 3) sYes (sPop 2 (sCallV m__law_draw (sGr 0 (sGv (sRd lLen (sLVar 2)) sG0)))) [3]
theorem c_nam_eq : c__law_names = sSeq q_nam1 (sSeq q_nam2 (sRet (sRd lTup q_nam3))) := rfl
theorem law_namesP {k n : Nat} {bag : List PyData} (hb : Sg k bag) (hk : k < 800000) (hn : n ≤ 40) : ∃ ss bag' T, ss.length = n ∧ ss.Nodup ∧ (∀ s ∈ ss, s ∈ POOL) ∧ Sg (k + n) bag' ∧ m__law_names [.io bag, .val (.int (n : Nat))] = .ok (vS ss) (.io bag' :: T) := by
  obtain ⟨a, bag', rest, h1, h2, h3, h4⟩ := pops (g := gNm 3) (e := sPop 2 (sCallV m__law_draw (sGr 0 (sGv (sRd lLen (sLVar 2)) sG0)))) (vs := [3]) (E := fun bag pool => [.io bag, .val (.int (n : Nat)), .own (sts pool), .nil]) (fun k bag pool j hb hk h0 h1 => by
    obtain ⟨r, bag', T, r0, r1, r2, e⟩ := draw hb (by omega) (m := (pool.length : Int)) (by omega) (by omega)
    refine ⟨bag', r.toNat, [.io bag, .val (.int (n : Nat)), .own (sts pool), .val (.int j)], [.io bag', .val (.int (n : Nat)), .own (sts (pool.eraseIdx r.toNat)), .val (.int j)], r2, by omega, by simp, ?_, by simp [wipeS]⟩
    have p := pop_ok r0 r1 (by omega)
    simp [lLen, sts_len, e, p]) hb hk (n := n) (ys := POOL) (by rw [pool_len]; exact hn) (by rw [pool_len]; omega)
  have hnd := (h4.nodup_iff).mpr pool_nd
  have hmem : ∀ s ∈ a, s ∈ POOL := fun s hs => h4.mem_iff.mp (List.mem_append_left _ hs)
  refine ⟨a, bag', [.val (.int (n : Nat)), .own (sts rest), .nil], h3, (List.nodup_append.mp hnd).1, hmem, h2, ?_⟩
  have s1 : q_nam1 [.io bag, .val (.int (n : Nat)), .nil, .nil] = .nx [.io bag, .val (.int (n : Nat)), .own (signs LET ++ [.str (Str.ofString "ab"), .str (Str.ofString "ba"), .str (Str.ofString "aa"), .str (Str.ofString "zz"), .str (Str.ofString "zzzzzzzz"), .str (Str.ofString "zzzzzzza"), .str (Str.ofString "open"), .str (Str.ofString "call"), .str (Str.ofString "days")]), .nil] := by
    have l1 : (signs LET).length = 26 := by rw [signs_len]; exact let_size
    have e1 : sListS (sCons (sK (.str (Str.ofString "abcdefghijklmnopqrstuvwxyz"))) sNil) [.io bag, .val (.int (n : Nat)), .nil, .nil] = .ok (signs LET) [.io bag, .val (.int (n : Nat)), .nil, .nil] := by
      show (if LET.cps.size ≤ sizeLine then R.ok (signs LET) [.io bag, .val (.int (n : Nat)), .nil, .nil] else .no) = _
      rw [if_pos (by rw [let_size, sizeLine_eq]; omega)]
    simp [q_nam1, -r_sListS, e1, sizeLine, l1]
  have s2 : q_nam2 [.io bag, .val (.int (n : Nat)), .own (signs LET ++ [.str (Str.ofString "ab"), .str (Str.ofString "ba"), .str (Str.ofString "aa"), .str (Str.ofString "zz"), .str (Str.ofString "zzzzzzzz"), .str (Str.ofString "zzzzzzza"), .str (Str.ofString "open"), .str (Str.ofString "call"), .str (Str.ofString "days")]), .nil] = .nx [.io bag, .val (.int (n : Nat)), .own (sts POOL), .nil] := by
    have l1 : (signs LET).length = 26 := by rw [signs_len]; exact let_size
    have ep : sts POOL = signs LET ++ ([.str (Str.ofString "ab"), .str (Str.ofString "ba"), .str (Str.ofString "aa"), .str (Str.ofString "zz"), .str (Str.ofString "zzzzzzzz"), .str (Str.ofString "zzzzzzza"), .str (Str.ofString "open"), .str (Str.ofString "call"), .str (Str.ofString "days")] ++ [.str (Str.ofString "order"), .str (Str.ofString "silent"), .str (Str.ofString "center"), .str (Str.ofString "at"), .str (Str.ofString "none")]) := by
      unfold POOL signs sts
      rw [List.map_append, List.map_map]
      rfl
    rw [ep]
    simp [q_nam2, sizeLine, l1]
  have hr : sRng1 (sCons (sVar 1) sNil) [.io bag, .val (.int (n : Nat)), .own (sts POOL), .nil] = .ok (rng 0 n) [.io bag, .val (.int (n : Nat)), .own (sts POOL), .nil] :=
    rng1_run (ds := [.int (n : Nat)]) (by simp) (rng1_ok (by omega) (by omega))
  have l3 : n < 16777216 := by omega
  have s3 : q_nam3 [.io bag, .val (.int (n : Nat)), .own (sts POOL), .nil] = .ok (sts a) [.io bag', .val (.int (n : Nat)), .own (sts rest), .nil] := by
    simp [q_nam3, -r_sRng1, hr, rng_len, wipeS, h1, unwipe, sizeLine, l3]
  rw [m__law_names, r_mB]
  show (c__law_names [.io bag, .val (.int (n : Nat)), .nil, .nil]).fin = _
  rw [c_nam_eq, r_sSeq, s1, sq_nx, r_sSeq, s2, sq_nx]
  simp [s3, lTup]
theorem law_names {k n : Nat} {bag : List PyData} (hb : Sg k bag) (hk : k < 800000) (hn : n ≤ 40) : ∃ ss bag' T, ss.length = n ∧ ss.Nodup ∧ (∀ s ∈ ss, Nm s) ∧ Sg (k + n) bag' ∧ m__law_names [.io bag, .val (.int (n : Nat))] = .ok (vS ss) (.io bag' :: T) := by
  obtain ⟨ss, bag', T, h1, h2, h3, h4, h5⟩ := law_namesP hb hk hn
  exact ⟨ss, bag', T, h1, h2, fun s hs => pool_nm (h3 s hs), h4, h5⟩
end Ds
end
section
set_option Elab.async false
set_option linter.all false
set_option maxRecDepth 100000
set_option maxHeartbeats 1000000
open PySem PySem.Spec PyProof.Rows L2
namespace Ds
theorem nts_lay : ∀ {u : List Nat}, PyData.canLayAll0 (nts u) = true ∧ PyData.depthAll (nts u) = 0 ∧ PyData.hasDictAll (nts u) = false
  | [] => ⟨rfl, rfl, rfl⟩
  | x :: u => by
    obtain ⟨a, b, c⟩ := nts_lay (u := u)
    rw [nts_cons]
    exact ⟨by simp [PyData.canLayAll0, PyData.canLay0, a], by simp [PyData.depthAll, PyData.depth, b], by simp [PyData.hasDictAll, PyData.hasDict, c]⟩
theorem okEq_nts {u : List Nat} : okEq (.list (nts u)) = true := by
  obtain ⟨a, b, c⟩ := nts_lay (u := u)
  simp [okEq, SeqAt.shaped, PyData.canLay0, PyData.depth, PyData.hasDict, a, b, c]
@[simp] theorem g_eq0 {u : List Nat} : gEq (.list (nts u)) (.list []) = some (.bool (decide (u = []))) := by
  show (if okEq (.list (nts u)) = true ∧ okEq (.list (nts [])) = true then some (PyData.bool (PyData.eqv (.list (nts u)) (.list []))) else none) = _
  rw [if_pos ⟨okEq_nts, okEq_nts⟩]
  cases u with
  | nil => rfl
  | cons x u => rfl
@[simp] theorem g_eqS {x y : Str} : gEq (.str x) (.str y) = some (.bool (x == y)) := rfl
def q_cal1 : SS := sSetNew 2 (sListN (sCons (sVar 1) sNil))
def q_cal2 : SS := sSet 3 (sNE (sLst (sCons (sRd lLen (sLVar 2)) (sCons (sCallV m__law_draw (sGr 0 (sGv (sBin gAdd (sRd lLen (sLVar 2)) (sK (.int 1))) sG0))) (sCons (sRd lLen (sLVar 2)) (sCons (sCallB gMin (sCons (sRd lLen (sLVar 2)) (sCons (sCallV m__law_draw (sGr 0 (sGv (sK (.int 4)) sG0))) sNil))) sNil))))))
def q_cal3 : SN := sLc (sRng1 (sCons (sBin gIx (sVar 3) (sCallV m__law_draw (sGr 0 (sGv (sK (.int 4)) sG0)))) sNil)) (gNm 4) sYes (sPop 2 (sCallV m__law_draw (sGr 0 (sGv (sRd lLen (sLVar 2)) sG0)))) [4]
theorem c_cal_eq : c__law_called = sSeq q_cal1 (sSeq q_cal2 (sRet (sRd lTup q_cal3))) := rfl
theorem law_called {k : Nat} {bag : List PyData} {ss : List Str} (hb : Sg k bag) (hk : k < 700000) (hn : ss.length ≤ 40) (hnd : ss.Nodup) : ∃ ord bag' T, ord.Nodup ∧ (∀ s ∈ ord, s ∈ ss) ∧ Sg (k + 50) bag' ∧ m__law_called [.io bag, vS ss] = .ok (vS ord) (.io bag' :: T) := by
  obtain ⟨r1, bag1, T1, a1, a2, a3, e1⟩ := draw hb (by omega) (m := (ss.length : Int) + 1) (by omega) (by omega)
  obtain ⟨r2, bag2, T2, b1, b2, b3, e2⟩ := draw a3 (by omega) (m := 4) (by decide) (by decide)
  obtain ⟨r3, bag3, T3, c1, c2, c3, e3⟩ := draw b3 (by omega) (m := 4) (by decide) (by decide)
  have hv : ∃ n : Nat, n ≤ ss.length ∧ atI [PyData.int ss.length, .int r1, .int ss.length, .int (if r2 < (ss.length : Int) then r2 else ss.length)] r3 = some (.int (n : Nat)) := by
    rw [atI_nn c1]
    have : r3 = 0 ∨ r3 = 1 ∨ r3 = 2 ∨ r3 = 3 := by omega
    rcases this with q | q | q | q <;> subst q
    · exact ⟨ss.length, Nat.le_refl _, rfl⟩
    · exact ⟨r1.toNat, by omega, by rw [Int.toNat_of_nonneg a1]; rfl⟩
    · exact ⟨ss.length, Nat.le_refl _, rfl⟩
    · by_cases z : r2 < (ss.length : Int)
      · exact ⟨r2.toNat, by omega, by rw [Int.toNat_of_nonneg b1, if_pos z]; rfl⟩
      · exact ⟨ss.length, Nat.le_refl _, by rw [if_neg z]; rfl⟩
  obtain ⟨n, hnn, en⟩ := hv
  generalize hM : [PyData.int ss.length, .int r1, .int ss.length, .int (if r2 < (ss.length : Int) then r2 else ss.length)] = M at *
  obtain ⟨a, bag', rest, h1, h2, h3, h4⟩ := pops (g := gNm 4) (e := sPop 2 (sCallV m__law_draw (sGr 0 (sGv (sRd lLen (sLVar 2)) sG0)))) (vs := [4]) (E := fun bag pool => [.io bag, vS ss, .own (sts pool), .val (.list M), .nil]) (fun k bag pool j hb hk h0 h1 => by
    obtain ⟨r, bag', T, r0, r1, r2, e⟩ := draw hb (by omega) (m := (pool.length : Int)) (by omega) (by omega)
    refine ⟨bag', r.toNat, [.io bag, vS ss, .own (sts pool), .val (.list M), .val (.int j)], [.io bag', vS ss, .own (sts (pool.eraseIdx r.toNat)), .val (.list M), .val (.int j)], r2, by omega, by simp, ?_, by simp [wipeS]⟩
    have p := pop_ok r0 r1 (by omega)
    simp [lLen, sts_len, e, p]) c3 (by omega) hnn (by omega)
  refine ⟨a, bag', [vS ss, .own (sts rest), .val (.list M), .nil], (List.nodup_append.mp ((h4.nodup_iff).mpr hnd)).1, fun s hs => h4.mem_iff.mp (List.mem_append_left _ hs), h2.mono (by omega), ?_⟩
  have s1 : q_cal1 [.io bag, vS ss, .nil, .nil, .nil] = .nx [.io bag, vS ss, .own (sts ss), .nil, .nil] := by simp [q_cal1]
  have s2 : q_cal2 [.io bag, vS ss, .own (sts ss), .nil, .nil] = .nx [.io bag2, vS ss, .own (sts ss), .val (.list M), .nil] := by
    rw [← hM]
    simp [q_cal2, lLen, sts_len, e1, e2, sizeLine]
  have hr : sRng1 (sCons (sBin gIx (sVar 3) (sCallV m__law_draw (sGr 0 (sGv (sK (.int 4)) sG0)))) sNil) [.io bag2, vS ss, .own (sts ss), .val (.list M), .nil] = .ok (rng 0 n) [.io bag3, vS ss, .own (sts ss), .val (.list M), .nil] :=
    rng1_run (ds := [.int (n : Nat)]) (by simp [e3, en]) (rng1_ok (by omega) (by omega))
  have l3 : n < 16777216 := by omega
  have s3 : q_cal3 [.io bag2, vS ss, .own (sts ss), .val (.list M), .nil] = .ok (sts a) [.io bag', vS ss, .own (sts rest), .val (.list M), .nil] := by
    simp [q_cal3, -r_sRng1, hr, rng_len, wipeS, h1, unwipe, sizeLine, l3]
  rw [m__law_called, r_mB]
  show (c__law_called [.io bag, vS ss, .nil, .nil, .nil]).fin = _
  rw [c_cal_eq, r_sSeq, s1, sq_nx, r_sSeq, s2, sq_nx]
  simp [s3, lTup]
def swp (i j k : Nat) : Nat := if k = i then j else if k = j then i else k
theorem swp_get {α : Type} {l : List α} {i j : Nat} {x y : α} (hi : l[i]? = some x) (hj : l[j]? = some y) (k : Nat) : ((l.set i y).set j x)[k]? = l[swp i j k]? := by
  have li := (List.getElem?_eq_some_iff.mp hi).1
  have lj := (List.getElem?_eq_some_iff.mp hj).1
  unfold swp
  by_cases h2 : k = j
  · subst h2
    rw [List.getElem?_set_self (by rw [List.length_set]; exact lj)]
    by_cases h1 : k = i
    · subst h1; rw [if_pos rfl, hi]
    · rw [if_neg h1, if_pos rfl, hi]
  · rw [List.getElem?_set_ne (Ne.symm h2)]
    by_cases h1 : k = i
    · subst h1; rw [List.getElem?_set_self li, if_pos rfl, hj]
    · rw [List.getElem?_set_ne (Ne.symm h1), if_neg h1, if_neg h2]
theorem swp_swp {i j k : Nat} : swp i j (swp i j k) = k := by
  unfold swp
  split <;> split <;> (try split) <;> omega
theorem nodup_of_idx {α : Type} : ∀ {l : List α}, (∀ (i j : Nat) (x : α), l[i]? = some x → l[j]? = some x → i = j) → l.Nodup
  | [], _ => List.nodup_nil
  | y :: l, h => by
    refine List.nodup_cons.mpr ⟨fun m => ?_, nodup_of_idx fun i j x a b => ?_⟩
    · obtain ⟨i, hi⟩ := List.getElem?_of_mem m
      have := h 0 (i + 1) y rfl (by simpa using hi)
      omega
    · have := h (i + 1) (j + 1) x (by simpa using a) (by simpa using b)
      omega
theorem swp_nodup {α : Type} {l : List α} (h : l.Nodup) {i j : Nat} {x y : α} (hi : l[i]? = some x) (hj : l[j]? = some y) : ((l.set i y).set j x).Nodup := by
  refine nodup_of_idx fun a b z ha hb => ?_
  rw [swp_get hi hj] at ha hb
  have := nodup_at h ha hb
  rw [← swp_swp (i := i) (j := j) (k := a), this, swp_swp]
theorem swp_mem {α : Type} {l : List α} {i j : Nat} {x y z : α} (hi : l[i]? = some x) (hj : l[j]? = some y) : z ∈ (l.set i y).set j x ↔ z ∈ l := by
  constructor
  · intro h
    obtain ⟨k, hk⟩ := List.getElem?_of_mem h
    rw [swp_get hi hj] at hk
    exact List.mem_of_getElem? hk
  · intro h
    obtain ⟨k, hk⟩ := List.getElem?_of_mem h
    refine List.mem_of_getElem? (i := swp i j k) ?_
    rw [swp_get hi hj, swp_swp]
    exact hk
/-- a call -/
def callS (os : List Nat) (ss : List Str) (s : Str) : List Str :=
  if 0 < ss.idxOf s then (ss.set (ss.idxOf s) (nmAt ss (os.getD (ss.idxOf s - 1) 0))).set (os.getD (ss.idxOf s - 1) 0) s else ss
def callsS (os : List Nat) (ss : List Str) (names : List Str) : List Str := names.foldl (callS os) ss
section
variable {os : List Nat} {ss ord : List Str}
theorem Case.call (c : Case os ss ord) {s : Str} (h : s ∈ ss) : Case os (callS os ss s) ord ∧ ∀ z, z ∈ callS os ss s ↔ z ∈ ss := by
  unfold callS
  by_cases h0 : 0 < ss.idxOf s
  · rw [if_pos h0]
    have hl := c.len
    have li := idx_lt h
    have lt := off_lt c.off (e := ss.idxOf s) (by omega) (by omega)
    have hi := idx_get h
    have hj := nmAt_get (ss := ss) (t := os.getD (ss.idxOf s - 1) 0) (by omega)
    have mm := fun z => swp_mem (z := z) hi hj
    exact ⟨⟨c.off, by simp [hl], swp_nodup c.nd hi hj, fun z hz => c.nm z ((mm z).mp hz), c.ond, fun z hz => (mm z).mpr (c.osub z hz)⟩, mm⟩
  · rw [if_neg h0]
    exact ⟨c, fun _ => Iff.rfl⟩
theorem g_lix {s : Str} {l : List Str} (h : s ∈ l) : gLIx (sts l) (.str s) = some (.int (l.idxOf s : Nat)) := by
  unfold gLIx
  rw [if_pos ⟨rfl, flat_sts⟩]
  have e : (sts l).findIdx? (fun z => PyData.eqv z (.str s)) = l.findIdx? (· == s) := by
    unfold sts
    rw [List.findIdx?_map]
    rfl
  rw [e, findIdx_mem h]
  rfl
theorem set_sts {l : List Str} {i : Nat} {s : Str} : (sts l).set i (.str s) = sts (l.set i s) := by simp [sts]
theorem setI_sts {l : List Str} {i : Nat} {s : Str} (h : i < l.length) : setI (sts l) (.int (i : Nat)) (.str s) = some (sts (l.set i s)) := by
  show (if 0 ≤ (i : Int) ∧ (i : Int) < (sts l).length then some ((sts l).set (i : Int).toNat (.str s)) else none) = _
  rw [if_pos ⟨by omega, by rw [sts_len]; omega⟩, Int.toNat_natCast, set_sts]
end
end Ds
end
section
set_option Elab.async false
set_option linter.all false
set_option maxRecDepth 100000
set_option maxHeartbeats 1000000
open PySem PySem.Spec PyProof.Rows L2
namespace Ds
def Bg (k : Nat) (ds : List PyData) : Prop := ∃ a c n : Int, ds = [.int a, .int c, .int n] ∧ 0 ≤ n ∧ n ≤ k
theorem Bg.mono {k j : Nat} {ds : List PyData} (h : Bg k ds) (l : k ≤ j) : Bg j ds := by
  obtain ⟨a, c, n, e, h1, h2⟩ := h
  exact ⟨a, c, n, e, h1, by omega⟩
def codes (s : Str) : List Nat := s.cps.toList
theorem codes_len {a : Str} : a.length = (codes a).length := (Array.length_toList ..).symm
def Small (l : List Nat) : Prop := ∀ c ∈ l, 97 ≤ c ∧ c ≤ 122
theorem nm_codes {s : Str} (h1 : 1 ≤ (codes s).length) (h2 : (codes s).length ≤ 8) (h : Small (codes s)) : Nm s := ⟨by rw [codes_len]; exact h1, by rw [codes_len]; exact h2, h⟩
def two (j : Nat) : List Nat := [97 + j / 26, 97 + j % 26]
def NForm (head : Str) (way : Int) (j : Nat) (x : Str) : Prop := (way = 0 ∧ codes x = codes head ++ two j) ∨ (way ≠ 0 ∧ ((codes x = [97 + j] ∧ j < 26) ∨ ∃ t, Small t ∧ t.length ≤ 6 ∧ codes x = two j ++ t))
theorem two_inj {i j : Nat} (h : two i = two j) : i = j := by
  unfold two at h
  injection h with h1 h2
  injection h2 with h2 _
  omega
theorem two_app {i j : Nat} {t u : List Nat} (h : two i ++ t = two j ++ u) : i = j := by
  unfold two at h
  injection h with h1 h2
  injection h2 with h2 _
  omega
theorem NForm.inj {head x : Str} {way : Int} {i j : Nat} (h : NForm head way i x) (g : NForm head way j x) : i = j := by
  rcases h with ⟨w, h⟩ | ⟨w, h⟩
  · rcases g with ⟨_, g⟩ | ⟨w', _⟩
    · exact two_inj (List.append_cancel_left (h.symm.trans g))
    · exact absurd w w'
  · rcases g with ⟨w', _⟩ | ⟨_, g⟩
    · exact absurd w' w
    · rcases h with ⟨h, hi⟩ | ⟨t, _, _, h⟩
      · rcases g with ⟨g, hj⟩ | ⟨u, _, _, g⟩
        · have := h.symm.trans g
          injection this with this _
          omega
        · have := congrArg List.length (h.symm.trans g)
          simp [two] at this
      · rcases g with ⟨g, hj⟩ | ⟨u, _, _, g⟩
        · have := congrArg List.length (h.symm.trans g)
          simp [two] at this
        · exact two_app (h.symm.trans g)
theorem two_small {j : Nat} (h : j < 260) : Small (two j) := fun c hc => by
  simp only [two, List.mem_cons, List.not_mem_nil, or_false] at hc
  rcases hc with rfl | rfl <;> omega
theorem NForm.nm {head x : Str} {way : Int} {j : Nat} (hj : j < 260) (h1 : Small (codes head)) (h2 : (codes head).length ≤ 6) (h : NForm head way j x) : Nm x := by
  have two2 : (two j).length = 2 := rfl
  rcases h with ⟨_, h⟩ | ⟨_, ⟨h, hi⟩ | ⟨t, t1, t2, h⟩⟩
  · refine nm_codes (by rw [h, List.length_append]; omega) (by rw [h, List.length_append]; omega) ?_
    rw [h]
    exact fun c hc => (List.mem_append.mp hc).elim (h1 c) (two_small hj c)
  · refine nm_codes (by rw [h]; simp) (by rw [h]; simp) ?_
    rw [h]
    exact fun c hc => by rw [List.mem_singleton.mp hc]; omega
  · refine nm_codes (by rw [h, List.length_append]; omega) (by rw [h, List.length_append]; omega) ?_
    rw [h]
    exact fun c hc => (List.mem_append.mp hc).elim (two_small hj c) (t1 c)
theorem cut_to {ds : List PyData} {k : Nat} (h : k ≤ ds.length) : cutD ds none (some (k : Int)) = ds.take k := by
  unfold cutD
  rw [HT.sIx_nat, HT.sIx_none, Nat.min_eq_left h, Nat.sub_zero, List.drop_zero]
theorem take_sts {l : List Str} {k : Nat} (h : k ≤ l.length) : cutD (sts l) none (some (k : Int)) = sts (l.take k) := by
  rw [cut_to (by rw [sts_len]; exact h)]
  unfold sts
  rw [List.map_take]
end Ds
end
section
set_option Elab.async false
set_option linter.all false
set_option maxRecDepth 100000
set_option maxHeartbeats 1000000
open PySem PySem.Spec PyProof.Rows L2
namespace Ds
def Pt (k : Nat) (ds : List PyData) : Prop := ∃ a b n : Int, ds = [.int a, .int b, .int n] ∧ 0 ≤ b ∧ b < 2 * 10 ^ 38 ∧ 0 ≤ n ∧ n ≤ k
theorem Pt.mono {k j : Nat} {ds : List PyData} (h : Pt k ds) (l : k ≤ j) : Pt j ds := by
  obtain ⟨a, b, n, e, h1, h2, h3, h4⟩ := h
  exact ⟨a, b, n, e, h1, h2, h3, by omega⟩
def q_pt1 : SS := sIf (sTst (sBin gLt (sVar 1) (sCallB gLenS (sCons (sVar 0) sNil)))) (sSet 2 (sBin gIxS (sVar 0) (sVar 1))) sNx
def q_pt2 : SS := sRetNew (sLst (sCons (sCallB gMax (sCons (sK (.int 0)) (sCons (sBin gSub_ (sVar 2) (sBin gPow (sK (.int 10)) (sK (.int 18)))) sNil))) (sCons (sBin gAdd (sBin gAdd (sBin gMod (sVar 2) (sBin gAdd (sBin gPow (sK (.int 10)) (sK (.int 38))) (sK (.int 133)))) (sBin gMul (sK (.int 30011)) (sVar 1))) (sK (.int 3))) (sCons (sK (.int 0)) sNil))))
theorem c_pot_eq : c__law_potP = sSeq (sSet 2 (sK (.int 0))) (sSeq q_pt1 q_pt2) := rfl
theorem t_pt1 (ns : List Int) (k : Nat) : ∃ c : Int, q_pt1 [.val (scrD ns), .val (.int (k : Nat)), .val (.int 0)] = .nx [.val (scrD ns), .val (.int (k : Nat)), .val (.int c)] := by
  by_cases h : k < ns.length
  · have e : atI (ns.map PyData.int) (k : Nat) = some (.int ns[k]) := by
      rw [atI_nn (by omega), Int.toNat_natCast, List.getElem?_map, List.getElem?_eq_getElem h]
      rfl
    have h2 : (k : Int) < (ns.length : Int) := by omega
    exact ⟨ns[k], by simp [q_pt1, scrD, h2, e, h]⟩
  · have h2 : ¬ (k : Int) < (ns.length : Int) := by omega
    exact ⟨0, by simp [q_pt1, scrD, h2, h]⟩
theorem t_pt2 {c : Int} {k : Nat} {s0 : Sl} (hk : k < 1000) : ∃ bag, Pt 0 bag ∧ q_pt2 [s0, .val (.int (k : Nat)), .val (.int c)] = .rt (.own bag) [s0, .val (.int (k : Nat)), .val (.int c)] := by
  have b0 : 0 ≤ c % 100000000000000000000000000000000000133 := Int.emod_nonneg _ (by decide)
  have b1 : c % 100000000000000000000000000000000000133 < 100000000000000000000000000000000000133 := Int.emod_lt_of_pos _ (by decide)
  have l1 : (k : Nat).log2 < 1001 := by have := Nat.log2_le_self k; omega
  have k1 : Nat.log2 30011 < 30 := by decide +kernel
  have l2 : Nat.log2 30011 + k.log2 < 1000000 := by omega
  refine ⟨[.int (if c - 10 ^ 18 > 0 then c - 10 ^ 18 else 0), .int (c % 100000000000000000000000000000000000133 + 30011 * (k : Int) + 3), .int 0], ⟨_, _, _, rfl, by omega, by omega, by omega, by omega⟩, ?_⟩
  simp [q_pt2, sizeLine, l2]
theorem law_pot (ns : List Int) {k : Nat} (hk : k < 1000) : ∃ bag T, Pt 0 bag ∧ m__law_potP [.val (scrD ns), .val (.int (k : Nat))] = .ok (.own bag) T := by
  obtain ⟨c, e1⟩ := t_pt1 ns k
  obtain ⟨bag, hb, e2⟩ := t_pt2 (c := c) (s0 := .val (scrD ns)) hk
  refine ⟨bag, [.val (scrD ns), .val (.int (k : Nat)), .val (.int c)], hb, ?_⟩
  rw [m__law_potP, r_mB]
  show (c__law_potP [.val (scrD ns), .val (.int (k : Nat)), .nil]).fin = _
  rw [c_pot_eq, r_sSeq, show sSet 2 (sK (.int 0)) [.val (scrD ns), .val (.int (k : Nat)), .nil] = .nx [.val (scrD ns), .val (.int (k : Nat)), .val (.int 0)] from by simp, sq_nx, r_sSeq, e1, sq_nx, e2]
  rfl
theorem pw3P {b n : Int} (h0 : 0 ≤ b) (h1 : b < 2 * 10 ^ 38) (n0 : 0 ≤ n) (n1 : n ≤ 1000000) : PB (b + 53471161 * n) := by
  have : (b + 53471161 * n).natAbs < 4 * 10 ^ 38 := by omega
  exact Nat.lt_trans this (by decide)
theorem pw4P {x n : Int} (h0 : 0 ≤ x) (h1 : x < 100000000000000000000000000000000000000037) (n0 : 0 ≤ n) (n1 : n ≤ 1000000) : PB (x + 71755423 * n) := by
  have : (x + 71755423 * n).natAbs < 2 * 10 ^ 41 := by omega
  exact Nat.lt_trans this (by decide)
theorem drawP {k : Nat} {bag : List PyData} (hb : Pt k bag) (hk : k < 1000000) {m : Int} (h0 : 0 < m) (h1 : m < 2 ^ 200) : ∃ r bag' T, 0 ≤ r ∧ r < m ∧ Pt (k + 1) bag' ∧ m__law_drawP [.io bag, .val (.int m)] = .ok (.val (.int r)) (.io bag' :: T) := by
  obtain ⟨a, b, n, rfl, b0, b1, n1, n2⟩ := hb
  have lm : m.natAbs.log2 < 9000 := Nat.lt_trans (lg_lt (by decide) (by omega) h1) (by decide)
  by_cases ha : 0 < a
  · refine ⟨a % m, [.int (a / m), .int b, .int n], [.val (.int m), .nil, .val (.int (a % m))], Int.emod_nonneg _ (by omega), Int.emod_lt_of_pos _ h0, ⟨_, _, _, rfl, b0, b1, by omega, by omega⟩, ?_⟩
    simp [m__law_drawP, c__law_drawP, ha, h0, lm]
  · have l1 : (n + 1).natAbs.log2 < 30 := lg_lt (by decide) (by omega) (by omega)
    have k1 : Nat.log2 53471161 < 30 := by decide +kernel
    have k2 : Nat.log2 71755423 < 30 := by decide +kernel
    have k3 : Nat.log2 524287 < 9000 := by decide +kernel
    have c1 : Nat.log2 53471161 + (n + 1).natAbs.log2 < 1000000 := by omega
    have c2 : Nat.log2 71755423 + (n + 1).natAbs.log2 < 1000000 := by omega
    have p1 := g_pow3 (pw3P b0 b1 (n := n + 1) (by omega) (by omega))
    have p2 : ∀ y : Int, gPowB (.int (y % 100000000000000000000000000000000000000037 + 71755423 * (n + 1))) (.int 3) = some (.int ((y % 100000000000000000000000000000000000000037 + 71755423 * (n + 1)) ^ 3)) := fun y => g_pow3 <| pw4P (Int.emod_nonneg _ (by decide)) (Int.emod_lt_of_pos _ (by decide)) (by omega) (by omega)
    have key : ∃ x T, m__law_drawP [.io [.int a, .int b, .int n], .val (.int m)] = .ok (.val (.int (x % m))) (.io [.int a, .int b, .int (n + 1)] :: T) := by
      simp [m__law_drawP, c__law_drawP, ha, h0, c1, c2, k3, p1, p2]
      exact ⟨_, rfl⟩
    obtain ⟨x, T, e⟩ := key
    exact ⟨_, _, T, Int.emod_nonneg _ (by omega), Int.emod_lt_of_pos _ h0, ⟨_, _, _, rfl, b0, b1, by omega, by omega⟩, e⟩
def q_po1 : SS := sSet 2 (sCallB gMin (sCons (sVar 1) (sCons (sBin gAdd (sK (.int 1)) (sCallV m__law_drawP (sGr 0 (sGv (sBin gIx (sNE (sLst (sCons (sK (.int 4)) (sCons (sVar 1) sNil)))) (sCallV m__law_drawP (sGr 0 (sGv (sK (.int 2)) sG0)))) sG0)))) sNil)))
def q_po2 : SS := sParVN 4 5 (sCallV m__law_drawP (sGr 0 (sGv (sK (.int 4)) sG0))) (sLst sNil)
def q_po3 : SS := sSet 6 (sBin gSub_ (sVar 3) (sCallB gMin (sCons (sVar 3) (sCons (sCallV m__law_drawP (sGr 0 (sGv (sK (.int 4)) sG0))) sNil))))
def q_po4 : SS := sDrop (sAppend 5 (sBin gIx (sNE (sLst (sCons (sVar 3) (sCons (sK (.int 0)) (sCons (sCallV m__law_drawP (sGr 0 (sGv (sBin gAdd (sVar 3) (sK (.int 1))) sG0))) (sCons (sVar 6) sNil)))))) (sVar 4)))
theorem c_offP_eq : c__law_officeP = sSeq q_po1 (sSeq q_po2 (sSeq (sFor (sRng1 (sCons (sBin gSub_ (sVar 2) (sK (.int 1))) sNil)) (gNm 3) (sSeq q_po3 q_po4)) (sRet (sRd lTup (sLVar 5))))) := rfl
section
variable {M : Mf} {T T2 : En} {bag bag1 bag2 : List PyData} {s0 s1 s2 s3 s4 s5 s6 : Sl}
theorem t_po1 {m r1 r2 z : Int} (e1 : M [.io bag, .val (.int 2)] = .ok (.val (.int r1)) (.io bag1 :: T)) (ez : atI [PyData.int 4, .int m] r1 = some (.int z)) (e2 : M [.io bag1, .val (.int z)] = .ok (.val (.int r2)) (.io bag2 :: T2)) :
    sSet 2 (sCallB gMin (sCons (sVar 1) (sCons (sBin gAdd (sK (.int 1)) (sCallV M (sGr 0 (sGv (sBin gIx (sNE (sLst (sCons (sK (.int 4)) (sCons (sVar 1) sNil)))) (sCallV M (sGr 0 (sGv (sK (.int 2)) sG0)))) sG0)))) sNil))) [.io bag, .val (.int m), .nil, s3, s4, s5, s6] = .nx [.io bag2, .val (.int m), .val (.int (if 1 + r2 < m then 1 + r2 else m)), s3, s4, s5, s6] := by
  simp [e1, ez, e2, sizeLine]
theorem t_po2 {w : Int} (e1 : M [.io bag, .val (.int 4)] = .ok (.val (.int w)) (.io bag1 :: T)) : sParVN 4 5 (sCallV M (sGr 0 (sGv (sK (.int 4)) sG0))) (sLst sNil) [.io bag, s1, s2, s3, .nil, .nil, s6] = .nx [.io bag1, s1, s2, s3, .val (.int w), .own [], s6] := by
  simp [e1, sizeLine]
theorem t_po3 {w k : Int} (e1 : M [.io bag, .val (.int 4)] = .ok (.val (.int w)) (.io bag1 :: T)) (h6 : bare (some s6) = true) : sSet 6 (sBin gSub_ (sVar 3) (sCallB gMin (sCons (sVar 3) (sCons (sCallV M (sGr 0 (sGv (sK (.int 4)) sG0))) sNil)))) [.io bag, s1, s2, .val (.int k), s4, s5, s6] = .nx [.io bag1, s1, s2, .val (.int k), s4, s5, .val (.int (k - (if w < k then w else k)))] := by
  simp [e1, noio_bare h6]
theorem t_po4 {w k n u v : Int} {L : List PyData} (e1 : M [.io bag, .val (.int (k + 1))] = .ok (.val (.int w)) (.io bag1 :: T)) (ev : atI [PyData.int k, .int 0, .int w, .int n] u = some (.int v)) (hL : L.length < 1000000) : sDrop (sAppend 5 (sBin gIx (sNE (sLst (sCons (sVar 3) (sCons (sK (.int 0)) (sCons (sCallV M (sGr 0 (sGv (sBin gAdd (sVar 3) (sK (.int 1))) sG0))) (sCons (sVar 6) sNil)))))) (sVar 4))) [.io bag, s1, s2, .val (.int k), .val (.int u), .own L, .val (.int n)] = .nx [.io bag1, s1, s2, .val (.int k), .val (.int u), .own (L ++ [.int v]), .val (.int n)] := by
  have l1 : L.length < 16777216 := by omega
  simp [e1, ev, sizeLine, l1]
end
theorem lawP_off {m : Int} (m0 : 0 < m) (m1 : m ≤ 40) {k : Nat} (hk : k < 800000) {bag : List PyData} (hb : Pt k bag) : ∃ os bag' T, Off os ∧ (os.length : Int) < m ∧ Pt (k + 200) bag' ∧ m__law_officeP [.io bag, .val (.int m)] = .ok (.val (.tuple (nts os))) (.io bag' :: T) := by
  obtain ⟨r1, bag1, T1, a1, a2, a3, e1⟩ := drawP hb (by omega) (m := 2) (by decide) (by decide)
  have hz : ∃ z : Int, 0 < z ∧ z ≤ 40 ∧ atI [PyData.int 4, .int m] r1 = some (.int z) := by
    rw [atI_nn a1]
    have : r1 = 0 ∨ r1 = 1 := by omega
    rcases this with q | q <;> subst q
    · exact ⟨4, by omega, by omega, rfl⟩
    · exact ⟨m, m0, m1, rfl⟩
  obtain ⟨z, z0, z1, ez⟩ := hz
  obtain ⟨r2, bag2, T2, b1, b2, b3, e2⟩ := drawP a3 (by omega) (m := z) z0 (by omega)
  obtain ⟨w, bag3, T3, c1, c2, c3, e3⟩ := drawP b3 (by omega) (m := 4) (by decide) (by decide)
  obtain ⟨n, hn, n1⟩ : ∃ n : Nat, (if 1 + r2 < m then 1 + r2 else m) = ((n + 1 : Nat) : Int) ∧ ((n + 1 : Nat) : Int) ≤ m := ⟨((if 1 + r2 < m then 1 + r2 else m) - 1).toNat, by split <;> omega, by split <;> omega⟩
  have u1 := t_po1 (s3 := .nil) (s4 := .nil) (s5 := .nil) (s6 := .nil) e1 ez e2
  rw [hn] at u1
  obtain ⟨S', el, bg, os, x3, x6, d1, d2, d3, d4, d6, rfl⟩ := loop_inv (g := gNm 3) (b := sSeq q_po3 q_po4) (ds := rng 0 n) (P := fun i S => ∃ bag os x3 x6, Pt (k + 3 + 2 * i) bag ∧ os.length = i ∧ (∀ (j y : Nat), os[j]? = some y → y ≤ j) ∧ bare (some x3) = true ∧ bare (some x6) = true ∧ S = [.io bag, .val (.int m), .val (.int ((n + 1 : Nat) : Int)), x3, .val (.int w), .own (nts os), x6])
    (S := [.io bag3, .val (.int m), .val (.int ((n + 1 : Nat) : Int)), .nil, .val (.int w), .own [], .nil]) ⟨bag3, [], .nil, .nil, c3, rfl, fun j y h => by simp at h, rfl, rfl, rfl⟩ fun i z S hz hS => by
    obtain ⟨bg, os, x3, x6, d1, d2, d3, d4, d6, rfl⟩ := hS
    obtain ⟨ez, hi⟩ := rng_get hz
    rw [Int.zero_add] at ez
    subst ez
    obtain ⟨r4, bag4, T4, f1, f2, f3, e4⟩ := drawP d1 (by omega) (m := 4) (by decide) (by decide)
    obtain ⟨r5, bag5, T5, g1, g2, g3, e5⟩ := drawP f3 (by omega) (m := (i : Int) + 1) (by omega) (by omega)
    have hv : ∃ v : Int, 0 ≤ v ∧ v ≤ i ∧ atI [PyData.int i, .int 0, .int r5, .int ((i : Int) - (if r4 < (i : Int) then r4 else (i : Int)))] w = some (.int v) := by
      rw [atI_nn c1]
      have : w = 0 ∨ w = 1 ∨ w = 2 ∨ w = 3 := by omega
      rcases this with q | q | q | q <;> subst q
      · exact ⟨i, by omega, by omega, rfl⟩
      · exact ⟨0, by omega, by omega, rfl⟩
      · exact ⟨r5, by omega, by omega, rfl⟩
      · exact ⟨_, by split <;> omega, by split <;> omega, rfl⟩
    obtain ⟨v, v0, v1, ev⟩ := hv
    have u3 := t_po3 (s1 := .val (.int m)) (s2 := .val (.int ((n + 1 : Nat) : Int))) (s4 := .val (.int w)) (s5 := .own (nts os)) (k := (i : Int)) e4 d6
    have u4 := t_po4 (s1 := .val (.int m)) (s2 := .val (.int ((n + 1 : Nat) : Int))) (L := nts os) (k := (i : Int)) e5 ev (by rw [nts_len]; omega)
    refine ⟨[.io bg, .val (.int m), .val (.int ((n + 1 : Nat) : Int)), .val (.int (i : Nat)), .val (.int w), .own (nts os), x6], _, by simp [d4], ?_, bag5, os ++ [v.toNat], .val (.int (i : Nat)), .val (.int ((i : Int) - (if r4 < (i : Int) then r4 else (i : Int)))), g3.mono (by omega), by simp [d2], ?_, rfl, rfl, by rw [← nts_snoc v0]⟩
    · rw [r_sSeq, show q_po3 _ = _ from u3, sq_nx, show q_po4 _ = _ from u4]
    · intro j y h
      by_cases q : j < os.length
      · rw [List.getElem?_append_left q] at h
        exact d3 j y h
      · have : j < (os ++ [v.toNat]).length := (List.getElem?_eq_some_iff.mp h).1
        have ej : j = os.length := by simp at this; omega
        subst ej
        simp at h
        omega
  rw [rng_len] at d1 d2
  have hlen : os.length = n := by omega
  refine ⟨os, bg, [.val (.int m), .val (.int ((n + 1 : Nat) : Int)), x3, .val (.int w), .own (nts os), x6], ⟨by omega, d3⟩, by omega, d1.mono (by omega), ?_⟩
  have hr : sRng1 (sCons (sBin gSub_ (sVar 2) (sK (.int 1))) sNil) [.io bag3, .val (.int m), .val (.int ((n + 1 : Nat) : Int)), .nil, .val (.int w), .own [], .nil] = .ok (rng 0 n) [.io bag3, .val (.int m), .val (.int ((n + 1 : Nat) : Int)), .nil, .val (.int w), .own [], .nil] :=
    rng1_run (ds := [.int (((n + 1 : Nat) : Int) - 1)]) (by simp) (by rw [show ((n + 1 : Nat) : Int) - 1 = (n : Int) by omega]; exact rng1_ok (by omega) (by omega))
  rw [m__law_officeP, r_mB]
  show (c__law_officeP [.io bag, .val (.int m), .nil, .nil, .nil, .nil, .nil]).fin = _
  rw [c_offP_eq, r_sSeq, show q_po1 _ = _ from u1, sq_nx, r_sSeq, show q_po2 _ = _ from t_po2 e3, sq_nx, r_sSeq, r_sFor, hr, stt_ok, el, sq_nx]
  simp [lTup]
theorem popsP {g : GT} {e : SE} {vs : List Nat} {E : List PyData → List Str → En} (step : ∀ (k : Nat) (bag : List PyData) (pool : List Str) (j : Int), Pt k bag → k < 900000 → 0 < pool.length → pool.length ≤ 1000 → ∃ bag' r S2 S4, Pt (k + 1) bag' ∧ r < pool.length ∧ g (.int j) (E bag pool) = .nx S2 ∧ e S2 = .ok (.str (nmAt pool r)) S4 ∧ wipeS vs S4 = E bag' (pool.eraseIdx r))
    {k n : Nat} {bag : List PyData} {ys : List Str} (hb : Pt k bag) (hk : k < 800000) (hn : n ≤ ys.length) (hy : ys.length ≤ 1000) : ∃ a bag' rest, lcL g sYes e vs (rng 0 n) (E bag ys) = .ok (sts a) (E bag' rest) ∧ Pt (k + n) bag' ∧ a.length = n ∧ (a ++ rest).Perm ys := by
  obtain ⟨zs, S', h1, bag', a, rest, h2, h3, h4, h5, h6⟩ := lc_inv (g := g) (t := sYes) (e := e) (vs := vs) (ds := rng 0 n) (P := fun i acc S => ∃ bag a rest, Pt (k + i) bag ∧ acc = sts a ∧ a.length = i ∧ (a ++ rest).Perm ys ∧ S = E bag rest) (acc := []) (S := E bag ys) ⟨bag, [], ys, hb, rfl, rfl, List.Perm.refl _, rfl⟩ fun i d acc S hd hP => by
    obtain ⟨bag, a, rest, h1, rfl, h3, h4, rfl⟩ := hP
    obtain ⟨rfl, hi⟩ := rng_get hd
    have hl := h4.length_eq
    rw [List.length_append] at hl
    obtain ⟨bag', r, S2, S4, g1, g2, g3, g4, g5⟩ := step (k + i) bag rest (0 + (i : Int)) h1 (by omega) (by omega) (by omega)
    refine ⟨S2, true, S2, g3, rfl, (fun z => by cases z), fun _ => ⟨_, S4, g4, bag', a ++ [nmAt rest r], rest.eraseIdx r, g1, by rw [← sts_app]; rfl, by simp [h3], ?_, g5⟩⟩
    rw [List.append_assoc]
    exact ((erase_perm (nmAt_get g2)).append_left a).trans h4
  rw [List.nil_append] at h3
  subst h3
  rw [rng_len] at h2 h4
  refine ⟨a, bag', rest, by rw [h1, h6], h2.mono (by omega), by omega, h5⟩
def q_mixP : SN := sLc (sRng1 (sCons (sCallB gLen (sCons (sVar 1) sNil)) sNil)) (gNm 3) sYes (sPop 2 (sCallV m__law_drawP (sGr 0 (sGv (sRd lLen (sLVar 2)) sG0)))) [3]
theorem c_mixP_eq : c__law_mixedP = sSeq (sSetNew 2 (sListN (sCons (sVar 1) sNil))) (sRetNew q_mixP) := rfl
theorem lawP_mixed {k : Nat} {bag : List PyData} {ss : List Str} {d : PyData} (hd : d = .list (sts ss) ∨ d = .tuple (sts ss)) (hb : Pt k bag) (hk : k < 700000) (hn : ss.length ≤ 100) : ∃ a bag' T, a.Perm ss ∧ Pt (k + 100) bag' ∧ m__law_mixedP [.io bag, .val d] = .ok (.own (sts a)) (.io bag' :: T) := by
  obtain ⟨a, bag', rest, h1, h2, h3, h4⟩ := popsP (g := gNm 3) (e := sPop 2 (sCallV m__law_drawP (sGr 0 (sGv (sRd lLen (sLVar 2)) sG0)))) (vs := [3]) (E := fun bag pool => [.io bag, .val d, .own (sts pool), .nil]) (fun k bag pool j hb hk h0 h1 => by
    obtain ⟨r, bag', T, r0, r1, r2, e⟩ := drawP hb (by omega) (m := (pool.length : Int)) (by omega) (by omega)
    refine ⟨bag', r.toNat, [.io bag, .val d, .own (sts pool), .val (.int j)], [.io bag', .val d, .own (sts (pool.eraseIdx r.toNat)), .val (.int j)], r2, by omega, by simp, ?_, by simp [wipeS]⟩
    have p := pop_ok r0 r1 (by omega)
    simp [lLen, sts_len, e, p]) hb (by omega) (Nat.le_refl ss.length) (by omega)
  have rest0 : rest = [] := by
    have := h4.length_eq
    rw [List.length_append, h3] at this
    exact List.length_eq_zero_iff.mp (by omega)
  rw [rest0, List.append_nil] at h4
  refine ⟨a, bag', [.val d, .own (sts rest), .nil], h4, h2.mono (by omega), ?_⟩
  have l1 : ss.length < 16777216 := by omega
  have s1 : sSetNew 2 (sListN (sCons (sVar 1) sNil)) [.io bag, .val d, .nil, .nil] = .nx [.io bag, .val d, .own (sts ss), .nil] := by
    rcases hd with rfl | rfl <;> simp
  have gl : gLen [d] = some (.int ss.length) := by
    rcases hd with rfl | rfl
    · show some (PyData.int (sts ss).length) = _
      rw [sts_len]
    · show some (PyData.int (sts ss).length) = _
      rw [sts_len]
  have hr : sRng1 (sCons (sCallB gLen (sCons (sVar 1) sNil)) sNil) [.io bag, .val d, .own (sts ss), .nil] = .ok (rng 0 ss.length) [.io bag, .val d, .own (sts ss), .nil] :=
    rng1_run (ds := [.int (ss.length : Nat)]) (by simp [gl]) (rng1_ok (by omega) (by omega))
  have s3 : q_mixP [.io bag, .val d, .own (sts ss), .nil] = .ok (sts a) [.io bag', .val d, .own (sts rest), .nil] := by
    simp [q_mixP, -r_sRng1, hr, rng_len, wipeS, h1, unwipe, sizeLine, l1]
  rw [m__law_mixedP, r_mB]
  show (c__law_mixedP [.io bag, .val d, .nil, .nil]).fin = _
  rw [c_mixP_eq, r_sSeq, s1, sq_nx]
  simp [s3]
def POOLP : List Str := (LET.cps.toList.map fun c => (⟨#[c]⟩ : Str)) ++ (LET.cps.toList.map fun c => Str.ofString "a" ++ (⟨#[c]⟩ : Str)) ++ ((Str.ofString "xyz").cps.toList.map fun c => Str.ofString "zzzzzzz" ++ (⟨#[c]⟩ : Str))
theorem poolP_len : POOLP.length = 55 := by decide +kernel
theorem poolP_nd : POOLP.Nodup := by decide +kernel
theorem poolP_all : (POOLP.all fun s => decide (1 ≤ s.length) && decide (s.length ≤ 8) && s.cps.toList.all fun c => decide (97 ≤ c) && decide (c ≤ 122)) = true := by decide +kernel
theorem poolP_nm {s : Str} (h : s ∈ POOLP) : Nm s := by
  have := List.all_eq_true.mp poolP_all s h
  simp only [Bool.and_eq_true, decide_eq_true_eq, List.all_eq_true] at this
  exact ⟨this.1.1, this.1.2, this.2⟩
def q_pn1 : SN := sLc (sIS (sVar 2)) (gNm 5) sYes (sVar 5) [5]
def q_pn2 : SN := sLc (sIS (sVar 2)) (gNm 5) sYes (sBin gAdd (sK (.str (Str.ofString "a"))) (sVar 5)) [5]
def q_pn3 : SN := sLc (sIS (sK (.str (Str.ofString "xyz")))) (gNm 4) sYes (sBin gAdd (sK (.str (Str.ofString "zzzzzzz"))) (sVar 4)) [4]
def q_pn4 : SS := sSet 3 (sBin gAdd (sBin gAdd (sNE q_pn1) (sNE q_pn2)) (sNE q_pn3))
def q_pn5 : SS := sRet (sCallB gTupT (sCons (sCut (sNE (sCallN m__law_mixedP (sGr 0 (sGv (sVar 3) sG0)))) sP0 (sP1 (sVar 1))) sNil))
theorem c_namP_eq : c__law_namesP = sSeq (sSet 2 (sK (.str (Str.ofString "abcdefghijklmnopqrstuvwxyz")))) (sSeq q_pn4 q_pn5) := rfl
theorem g_addS {h x : Str} (l : h.length + x.length ≤ 1000) : gAdd (.str h) (.str x) = some (.str (h ++ x)) := by
  show (if h.length + x.length ≤ sizeLine then some (PyData.str (h ++ x)) else none) = _
  rw [if_pos (by rw [sizeLine_eq]; omega)]
def catS (h : Str) (d : PyData) : PyData := match d with
  | .str x => .str (h ++ x)
  | d => d
theorem signs_map (x : Str) (h : Str) : (signs x).map (catS h) = sts (x.cps.toList.map fun c => h ++ (⟨#[c]⟩ : Str)) := by
  unfold signs sts
  rw [List.map_map, List.map_map]
  rfl
theorem signs_sts (x : Str) : signs x = sts (x.cps.toList.map fun c => (⟨#[c]⟩ : Str)) := by
  unfold signs sts
  rw [List.map_map]
  rfl
theorem signs_str {x : Str} {d : PyData} (h : d ∈ signs x) : ∃ c, d = .str ⟨#[c]⟩ := by
  unfold signs at h
  obtain ⟨c, _, rfl⟩ := List.mem_map.mp h
  exact ⟨c, rfl⟩
section
variable {s0 s1 s3 s4 s5 : Sl} {x h : Str}
theorem t_sgn1 : lcL (gNm 5) sYes (sVar 5) [5] (signs x) [s0, s1, .val (.str x), s3, .nil, .nil] = .ok (sts (x.cps.toList.map fun c => (⟨#[c]⟩ : Str))) [s0, s1, .val (.str x), s3, .nil, .nil] := by
  rw [← signs_sts]
  have := lc_mapF (g := gNm 5) (e := sVar 5) (vs := [5]) (S := [s0, s1, .val (.str x), s3, .nil, .nil]) (f := id) (ds := signs x) fun d hd => ⟨[s0, s1, .val (.str x), s3, .nil, .val d], [s0, s1, .val (.str x), s3, .nil, .val d], by simp, by simp, by simp [wipeS]⟩
  rw [List.map_id] at this
  exact this
theorem t_sgn2 (hh : h.length ≤ 100) : lcL (gNm 5) sYes (sBin gAdd (sK (.str h)) (sVar 5)) [5] (signs x) [s0, s1, .val (.str x), s3, .nil, .nil] = .ok (sts (x.cps.toList.map fun c => h ++ (⟨#[c]⟩ : Str))) [s0, s1, .val (.str x), s3, .nil, .nil] := by
  rw [← signs_map]
  refine lc_mapF fun d hd => ?_
  obtain ⟨c, rfl⟩ := signs_str hd
  have l : (⟨#[c]⟩ : Str).length = 1 := rfl
  have l2 : h.length + 1 ≤ 16777216 := by omega
  refine ⟨[s0, s1, .val (.str x), s3, .nil, .val (.str ⟨#[c]⟩)], [s0, s1, .val (.str x), s3, .nil, .val (.str ⟨#[c]⟩)], by simp, ?_, by simp [wipeS]⟩
  have g : gAdd (.str h) (.str ⟨#[c]⟩) = some (.str (h ++ ⟨#[c]⟩)) := g_addS (by rw [l]; omega)
  simp [g, catS]
theorem t_sgn3 {y : Str} (hh : h.length ≤ 100) : lcL (gNm 4) sYes (sBin gAdd (sK (.str h)) (sVar 4)) [4] (signs x) [s0, s1, .val (.str y), s3, .nil, .nil] = .ok (sts (x.cps.toList.map fun c => h ++ (⟨#[c]⟩ : Str))) [s0, s1, .val (.str y), s3, .nil, .nil] := by
  rw [← signs_map]
  refine lc_mapF fun d hd => ?_
  obtain ⟨c, rfl⟩ := signs_str hd
  have l : (⟨#[c]⟩ : Str).length = 1 := rfl
  refine ⟨[s0, s1, .val (.str y), s3, .val (.str ⟨#[c]⟩), .nil], [s0, s1, .val (.str y), s3, .val (.str ⟨#[c]⟩), .nil], by simp, ?_, by simp [wipeS]⟩
  have g : gAdd (.str h) (.str ⟨#[c]⟩) = some (.str (h ++ ⟨#[c]⟩)) := g_addS (by rw [l]; omega)
  simp [g, catS]
end
def cpP : List Str := LET.cps.toList.map fun c => (⟨#[c]⟩ : Str)
def cpA : List Str := LET.cps.toList.map fun c => Str.ofString "a" ++ (⟨#[c]⟩ : Str)
def cpZ : List Str := (Str.ofString "xyz").cps.toList.map fun c => Str.ofString "zzzzzzz" ++ (⟨#[c]⟩ : Str)
theorem cpP_len : cpP.length = 26 := by decide +kernel
theorem cpA_len : cpA.length = 26 := by decide +kernel
theorem cpZ_len : cpZ.length = 3 := by decide +kernel
theorem a_len : (Str.ofString "a").length ≤ 100 := by decide +kernel
theorem z_len : (Str.ofString "zzzzzzz").length ≤ 100 := by decide +kernel
section
variable {q1 q2 q3 : SN} {A B C : List Str} {s0 s1 s2 s3 : Sl}
theorem t_pn4 (e1 : q1 [s0, s1, s2, .nil, .nil, .nil] = .ok (sts A) [s0, s1, s2, .nil, .nil, .nil]) (e2 : q2 [s0, s1, s2, .nil, .nil, .nil] = .ok (sts B) [s0, s1, s2, .nil, .nil, .nil]) (e3 : q3 [s0, s1, s2, .nil, .nil, .nil] = .ok (sts C) [s0, s1, s2, .nil, .nil, .nil]) (l : A.length + B.length + C.length < 1000) :
    sSet 3 (sBin gAdd (sBin gAdd (sNE q1) (sNE q2)) (sNE q3)) [s0, s1, s2, .nil, .nil, .nil] = .nx [s0, s1, s2, .val (.list (sts (A ++ B ++ C))), .nil, .nil] := by
  have g1 : gAdd (.list (sts A)) (.list (sts B)) = some (.list (sts (A ++ B))) := by
    show (if (sts A).length + (sts B).length ≤ sizeLine then some (PyData.list (sts A ++ sts B)) else none) = _
    rw [if_pos (by rw [sts_len, sts_len, sizeLine_eq]; omega), sts_app]
  have g2 : gAdd (.list (sts (A ++ B))) (.list (sts C)) = some (.list (sts (A ++ B ++ C))) := by
    show (if (sts (A ++ B)).length + (sts C).length ≤ sizeLine then some (PyData.list (sts (A ++ B) ++ sts C)) else none) = _
    rw [if_pos (by rw [sts_len, sts_len, List.length_append, sizeLine_eq]; omega), sts_app]
  simp [e1, e2, e3, g1, g2]
theorem t_pn5 {M : Mf} {T : En} {bag bag1 F : List PyData} {n : Nat} {z : PyData} (e : M [.io bag, .val z] = .ok (.own F) (.io bag1 :: T)) : ∃ U, sRet (sCallB gTupT (sCons (sCut (sNE (sCallN M (sGr 0 (sGv (sVar 3) sG0)))) sP0 (sP1 (sVar 1))) sNil)) [.io bag, .val (.int (n : Nat)), s2, .val z, .nil, .nil] = .rt (.val (.tuple (cutD F none (some (n : Int))))) (.io bag1 :: U) := by
  have gc : gCut (.list F) none (some (n : Int)) = some (.list (cutD F none (some (n : Int)))) := rfl
  have gt : ∀ L, gTupT [.list L] = some (.tuple L) := fun L => rfl
  refine ⟨[.val (.int (n : Nat)), s2, .val z, .nil, .nil], ?_⟩
  simp [e, gc, gt]
end
theorem lawP_namesQ {k n : Nat} {bag : List PyData} (hb : Pt k bag) (hk : k < 700000) (hn : n ≤ 40) : ∃ ss bag' T, ss.length = n ∧ ss.Nodup ∧ (∀ s ∈ ss, s ∈ POOLP) ∧ Pt (k + 100) bag' ∧ m__law_namesP [.io bag, .val (.int (n : Nat))] = .ok (vS ss) (.io bag' :: T) := by
  obtain ⟨a, bag', T, h1, h2, e⟩ := lawP_mixed (ss := POOLP) (d := .list (sts POOLP)) (.inl rfl) hb hk (by rw [poolP_len]; omega)
  have hl := h1.length_eq
  rw [poolP_len] at hl
  have hs : ∀ z ∈ a.take n, z ∈ POOLP := fun z hz => h1.mem_iff.mp (List.mem_of_mem_take hz)
  have e1 : q_pn1 [.io bag, .val (.int (n : Nat)), .val (.str LET), .nil, .nil, .nil] = .ok (sts cpP) [.io bag, .val (.int (n : Nat)), .val (.str LET), .nil, .nil, .nil] := by
    have t := t_sgn1 (x := LET) (s0 := .io bag) (s1 := .val (.int (n : Nat))) (s3 := .nil)
    have l := cpP_len
    simp [q_pn1, wipeS, t, unwipe, sizeLine, asS, sts_len, signs_len, let_size]
    try rfl
  have e2 : q_pn2 [.io bag, .val (.int (n : Nat)), .val (.str LET), .nil, .nil, .nil] = .ok (sts cpA) [.io bag, .val (.int (n : Nat)), .val (.str LET), .nil, .nil, .nil] := by
    have t := t_sgn2 (x := LET) (h := Str.ofString "a") (s0 := .io bag) (s1 := .val (.int (n : Nat))) (s3 := .nil) a_len
    have l := cpA_len
    simp [q_pn2, wipeS, t, unwipe, sizeLine, asS, sts_len, signs_len, let_size]
    try rfl
  have e3 : q_pn3 [.io bag, .val (.int (n : Nat)), .val (.str LET), .nil, .nil, .nil] = .ok (sts cpZ) [.io bag, .val (.int (n : Nat)), .val (.str LET), .nil, .nil, .nil] := by
    have t := t_sgn3 (x := Str.ofString "xyz") (h := Str.ofString "zzzzzzz") (y := LET) (s0 := .io bag) (s1 := .val (.int (n : Nat))) (s3 := .nil) z_len
    have l := cpZ_len
    have l2 : (Str.ofString "xyz").cps.size = 3 := by decide +kernel
    simp [q_pn3, wipeS, t, unwipe, sizeLine, asS, sts_len, signs_len, l2]
    try rfl
  obtain ⟨U, e5⟩ := t_pn5 (n := n) (s2 := .val (.str LET)) e
  refine ⟨a.take n, bag', U, by rw [List.length_take]; omega, (h1.nodup_iff.mpr poolP_nd).sublist (List.take_sublist _ _), hs, h2, ?_⟩
  rw [take_sts (by omega), show POOLP = cpP ++ cpA ++ cpZ from rfl] at e5
  rw [m__law_namesP, r_mB]
  show (c__law_namesP [.io bag, .val (.int (n : Nat)), .nil, .nil, .nil, .nil]).fin = _
  rw [c_namP_eq, r_sSeq, show sSet 2 (sK (.str (Str.ofString "abcdefghijklmnopqrstuvwxyz"))) [.io bag, .val (.int (n : Nat)), .nil, .nil, .nil, .nil] = .nx [.io bag, .val (.int (n : Nat)), .val (.str LET), .nil, .nil, .nil] from by simp [LET], sq_nx, r_sSeq, show q_pn4 _ = _ from t_pn4 e1 e2 e3 (by rw [cpP_len, cpA_len, cpZ_len]; decide), sq_nx]
  rw [show q_pn5 _ = _ from e5]
  rfl
theorem lawP_names {k n : Nat} {bag : List PyData} (hb : Pt k bag) (hk : k < 700000) (hn : n ≤ 40) : ∃ ss bag' T, ss.length = n ∧ ss.Nodup ∧ (∀ s ∈ ss, Nm s) ∧ Pt (k + 100) bag' ∧ m__law_namesP [.io bag, .val (.int (n : Nat))] = .ok (vS ss) (.io bag' :: T) := by
  obtain ⟨ss, bag', T, h1, h2, h3, h4, h5⟩ := lawP_namesQ hb hk hn
  exact ⟨ss, bag', T, h1, h2, fun s hs => poolP_nm (h3 s hs), h4, h5⟩
end Ds
end
section
set_option Elab.async false
set_option linter.all false
set_option maxRecDepth 100000
set_option maxHeartbeats 1000000
open PySem PySem.Spec PyProof.Rows L2
namespace Ds
section
variable {os : List Nat} {ss ord : List Str}
theorem mem_drop_idx {s : Str} {l : List Str} (hn : l.Nodup) {k : Nat} : s ∈ l.drop k ↔ s ∈ l ∧ k ≤ l.idxOf s := by
  constructor
  · intro h
    obtain ⟨i, hi⟩ := List.getElem?_of_mem h
    rw [List.getElem?_drop] at hi
    have m := List.mem_of_getElem? hi
    have := nodup_at hn (idx_get m) hi
    exact ⟨m, by omega⟩
  · rintro ⟨m, h⟩
    refine List.mem_of_getElem? (i := l.idxOf s - k) ?_
    rw [List.getElem?_drop, show k + (l.idxOf s - k) = l.idxOf s by omega]
    exact idx_get m
theorem blk_nil {under : List Nat} {d : Nat} (h : under = []) : blk ss ord under d = [] := by
  unfold blk
  subst h
  split
  · simp
  · rfl
end
end Ds
end
section
set_option Elab.async false
set_option linter.all false
set_option maxRecDepth 100000
set_option maxHeartbeats 1000000
open PySem PySem.Spec PyProof.Rows L2
namespace Ds
section
variable {ord D R : List Str} {q y : Str}
theorem ix_head (h : ord = D ++ q :: R) (hn : ord.Nodup) : ord.idxOf q = D.length := by
  have e : ord[D.length]? = some q := by rw [h, List.getElem?_append_right (Nat.le_refl _), Nat.sub_self]; rfl
  exact nodup_at hn (idx_get (List.mem_of_getElem? e)) e
theorem ix_done (h : ord = D ++ q :: R) (hn : ord.Nodup) (hy : y ∈ D) : ord.idxOf y < ord.idxOf q := by
  obtain ⟨i, hi⟩ := List.getElem?_of_mem hy
  have lt := (List.getElem?_eq_some_iff.mp hi).1
  have e : ord[i]? = some y := by rw [h, List.getElem?_append_left lt]; exact hi
  rw [ix_head h hn, nodup_at hn (idx_get (List.mem_of_getElem? e)) e]
  exact lt
theorem ix_rest (h : ord = D ++ q :: R) (hn : ord.Nodup) (hy : y ∈ R) : ord.idxOf q < ord.idxOf y := by
  obtain ⟨i, hi⟩ := List.getElem?_of_mem hy
  have e : ord[D.length + (i + 1)]? = some y := by
    rw [h, List.getElem?_append_right (by omega), Nat.add_sub_cancel_left]
    simpa using hi
  rw [ix_head h hn, nodup_at hn (idx_get (List.mem_of_getElem? e)) e]
  omega
theorem in_three (h : ord = D ++ q :: R) (hy : y ∈ ord) : y ∈ D ∨ y = q ∨ y ∈ R := by
  rw [h, List.mem_append, List.mem_cons] at hy
  exact hy
/-- a group: the last of its persons sits at the center, or is still to come -/
def GP (ord : List Str) (U : List Nat) (c : Nat) (f : Nat → Str) (D R : List Str) : Prop :=
  f c ∈ ord ∧ (∀ e ∈ U, f e ∈ ord) ∧ (((∀ e ∈ U, ord.idxOf (f e) < ord.idxOf (f c)) ∧ (f c ∈ R → ∀ e ∈ U, f e ∈ R)) ∨ (f c ∈ D ∧ ∃ e0 ∈ U, f e0 ∈ R ∧ (∀ e ∈ U, f e ≠ f e0 → ord.idxOf (f e) < ord.idxOf (f e0)) ∧ ord.idxOf (f c) < ord.idxOf (f e0)))
theorem mem_rest {z : Str} (h : z ∈ q :: R) (n : z ≠ q) : z ∈ R := (List.mem_cons.mp h).resolve_left n
theorem GP.keep {U : List Nat} {c : Nat} {f f' : Nat → Str} (g : GP ord U c f D (q :: R)) (h : ∀ k, k = c ∨ k ∈ U → f' k = f k ∧ f k ≠ q) : GP ord U c f' (D ++ [q]) R := by
  obtain ⟨g1, g2, g3⟩ := g
  have hc := h c (.inl rfl)
  refine ⟨by rw [hc.1]; exact g1, fun e he => by rw [(h e (.inr he)).1]; exact g2 e he, ?_⟩
  rcases g3 with ⟨a, b⟩ | ⟨a, e0, h0, b1, b2, b3⟩
  · left
    refine ⟨fun e he => by rw [(h e (.inr he)).1, hc.1]; exact a e he, fun z e he => ?_⟩
    rw [hc.1] at z
    rw [(h e (.inr he)).1]
    exact mem_rest (b (List.mem_cons_of_mem _ z) e he) (h e (.inr he)).2
  · right
    have h00 := h e0 (.inr h0)
    refine ⟨by rw [hc.1]; exact List.mem_append_left _ a, e0, h0, by rw [h00.1]; exact mem_rest b1 h00.2, fun e he z => ?_, by rw [hc.1, h00.1]; exact b3⟩
    rw [(h e (.inr he)).1, h00.1] at z ⊢
    exact b2 e he z
/-- one of its persons is called, below the center -/
theorem GP.move {U : List Nat} {c d : Nat} {f f' : Nat → Str} (ho : ord = D ++ q :: R) (hn : ord.Nodup) (g : GP ord U c f D (q :: R)) (hd : d ∈ U) (hq : f d = q) (hcU : c ∉ U) (hinj : ∀ e ∈ U, e ≠ d → f e ≠ q) (hc : f' c = q) (hd' : f' d = f c) (h : ∀ k ∈ U, k ≠ d → f' k = f k) : GP ord U c f' (D ++ [q]) R := by
  obtain ⟨g1, g2, g3⟩ := g
  have qo : q ∈ ord := by rw [ho]; simp
  have qR : q ∉ R := by
    intro z
    have := ix_rest ho hn z
    omega
  have qD : q ∈ D ++ [q] := by simp
  have co : ∀ e ∈ U, f' e ∈ ord := fun e he => by
    by_cases ed : e = d
    · rw [ed, hd']; exact g1
    · rw [h e he ed]; exact g2 e he
  refine ⟨by rw [hc]; exact qo, co, ?_⟩
  rcases g3 with ⟨a, b⟩ | ⟨a, e0, h0, b1, b2, b3⟩
  · -- the last one sat at the center
    have lt := a d hd
    rw [hq] at lt
    have fR : f c ∈ R := by
      rcases in_three ho g1 with z | z | z
      · have := ix_done ho hn z; omega
      · rw [z] at lt; omega
      · exact z
    right
    refine ⟨by rw [hc]; exact qD, d, hd, by rw [hd']; exact fR, fun e he z => ?_, by rw [hc, hd']; exact lt⟩
    by_cases ed : e = d
    · exact absurd (by rw [ed]) z
    · rw [h e he ed, hd']; exact a e he
  · by_cases e0d : e0 = d
    · subst e0d
      rw [hq] at b2 b3
      left
      refine ⟨fun e he => ?_, fun z => absurd (by rw [← hc]; exact z) qR⟩
      rw [hc]
      by_cases ed : e = e0
      · rw [ed, hd']; exact b3
      · rw [h e he ed]; exact b2 e he (hinj e he ed)
    · right
      have ne := hinj e0 h0 e0d
      refine ⟨by rw [hc]; exact qD, e0, h0, by rw [h e0 h0 e0d]; exact mem_rest b1 ne, fun e he z => ?_, ?_⟩
      · rw [h e0 h0 e0d] at z ⊢
        by_cases ed : e = d
        · rw [ed, hd']; exact b3
        · rw [h e he ed] at z ⊢; exact b2 e he z
      · rw [hc, h e0 h0 e0d]
        have := b2 d hd (by rw [hq]; exact fun z => ne z.symm)
        rw [hq] at this
        exact this
/-- nobody is called at a center -/
theorem GP.nocall {U : List Nat} {c : Nat} {f : Nat → Str} (ho : ord = D ++ q :: R) (hn : ord.Nodup) (g : GP ord U c f D (q :: R)) (hU : U ≠ []) (hinj : ∀ e ∈ U, f e ≠ f c) : f c ≠ q := by
  intro hq
  obtain ⟨g1, g2, g3⟩ := g
  rcases g3 with ⟨a, b⟩ | ⟨a, _⟩
  · obtain ⟨e, he⟩ := List.exists_mem_of_ne_nil U hU
    have m := mem_rest (b (by rw [hq]; simp) e he) (by rw [← hq]; exact hinj e he)
    have := ix_rest ho hn m
    have := a e he
    rw [hq] at this
    omega
  · rw [hq] at a
    have := ix_done ho hn a
    omega
end
def okd0 (os : List Nat) (s ord : List Str) (d : Nat) : List Nat := okd os (calB s ord) 0 d
def op0 (os : List Nat) (s ord : List Str) (d : Nat) : Bool := op os (calB s ord) d
/-- what stands during a day that begins with s, whose desks behind t are settled -/
structure Dy (os : List Nat) (s ord : List Str) (t : Nat) (x D R : List Str) : Prop where
  cs : Case os x ord
  spl : ord = D ++ R
  sil : ∀ e, t < e → e ≤ os.length → op0 os s ord e = false → okd0 os s ord e = [] → nmAt x e = nmAt s e
  grp : ∀ c, t < c → c ≤ os.length → okd0 os s ord c ≠ [] → GP ord (okd0 os s ord c) c (nmAt x) D R
  top : (∀ e ∈ okd0 os s ord t, nmAt x e ∈ R) ∨ (nmAt x t ∈ D ∧ ∀ e ∈ okd0 os s ord t, nmAt x e ∈ ord → nmAt x e ∉ R → ord.idxOf (nmAt x e) < ord.idxOf (nmAt x t))
section
variable {os : List Nat} {s ss ord x D R : List Str} {q : Str} {t : Nat}
theorem mem_ok0 {d e : Nat} : e ∈ okd0 os s ord d ↔ 0 < e ∧ e ≤ os.length ∧ os.getD (e - 1) 0 = d ∧ op0 os s ord e = true := mem_okd
theorem ok0_lt (h : Off os) {d e : Nat} (m : e ∈ okd0 os s ord d) : d < e := by
  obtain ⟨h1, h2, h3, _⟩ := mem_ok0.mp m
  have := off_lt h h1 h2
  omega
theorem op0_eq (h : Off os) {e : Nat} (he : e ≤ os.length) : op0 os s ord e = (calB s ord e && (okd0 os s ord e).isEmpty) := op_okd h he
theorem op0_ok (h : Off os) {e : Nat} (he : e ≤ os.length) (ho : op0 os s ord e = true) : nmAt s e ∈ ord ∧ okd0 os s ord e = [] := by
  rw [op0_eq h he, Bool.and_eq_true] at ho
  exact ⟨of_decide_eq_true ho.1, List.isEmpty_iff.mp ho.2⟩
theorem nm_inj (c : Case os x ord) {i j : Nat} (hi : i ≤ os.length) (hj : j ≤ os.length) (e : nmAt x i = nmAt x j) : i = j := by
  have hl := c.len
  have a := nmAt_get (ss := x) (t := i) (by omega)
  have b := nmAt_get (ss := x) (t := j) (by omega)
  rw [← e] at b
  exact nodup_at c.nd a b
theorem nm_of {l l' : List Str} {k j : Nat} (h : l[k]? = l'[j]?) : nmAt l k = nmAt l' j := by
  unfold nmAt
  rw [List.getD_eq_getElem?_getD, List.getD_eq_getElem?_getD, h]
/-- the places behind a call -/
theorem call_at (c : Case os x ord) (hq : q ∈ x) : x.idxOf q ≤ os.length ∧ nmAt x (x.idxOf q) = q ∧ ((x.idxOf q = 0 ∧ callS os x q = x) ∨ (0 < x.idxOf q ∧ nmAt (callS os x q) (x.idxOf q) = nmAt x (os.getD (x.idxOf q - 1) 0) ∧ nmAt (callS os x q) (os.getD (x.idxOf q - 1) 0) = q ∧ ∀ k, k ≠ x.idxOf q → k ≠ os.getD (x.idxOf q - 1) 0 → nmAt (callS os x q) k = nmAt x k)) := by
  have hl := c.len
  have li := idx_lt hq
  refine ⟨by omega, nm_idx hq, ?_⟩
  by_cases h0 : 0 < x.idxOf q
  · right
    have lt := off_lt c.off (e := x.idxOf q) h0 (by omega)
    have hi := idx_get hq
    have hj := nmAt_get (ss := x) (t := os.getD (x.idxOf q - 1) 0) (by omega)
    have key : ∀ k, nmAt (callS os x q) k = nmAt x (swp (x.idxOf q) (os.getD (x.idxOf q - 1) 0) k) := fun k => by
      unfold callS
      rw [if_pos h0]
      exact nm_of (swp_get hi hj k)
    refine ⟨h0, ?_, ?_, fun k h1 h2 => ?_⟩
    · rw [key]; unfold swp; rw [if_pos rfl]
    · rw [key]; unfold swp; rw [if_neg (by omega), if_pos rfl, nm_idx hq]
    · rw [key]; unfold swp; rw [if_neg h1, if_neg h2]
  · left
    exact ⟨by omega, by unfold callS; rw [if_neg h0]⟩
theorem Dy.step (dy : Dy os s ord t x D (q :: R)) (ht : t ≤ os.length) : Dy os s ord t (callS os x q) (D ++ [q]) R := by
  obtain ⟨cs, spl, sil, grp, top⟩ := dy
  have off := cs.off
  have ho := spl
  have hn := cs.ond
  have qo : q ∈ ord := by rw [ho]; simp
  have qx : q ∈ x := cs.osub q qo
  obtain ⟨dl, dn, mv⟩ := call_at cs qx
  have inj : ∀ {i : Nat}, i ≤ os.length → nmAt x i = q → i = x.idxOf q := fun {i} hi e => nm_inj cs hi dl (by rw [e, dn])
  -- where the call is not
  have nocen : ∀ c, t < c → c ≤ os.length → okd0 os s ord c ≠ [] → x.idxOf q ≠ c := fun c h1 h2 h3 z => by
    refine (grp c h1 h2 h3).nocall ho hn h3 (fun e he w => ?_) (by rw [← z]; exact dn)
    have := ok0_lt off he
    have := nm_inj cs (mem_ok0.mp he).2.1 h2 w
    omega
  have nosil : ∀ e, t < e → e ≤ os.length → op0 os s ord e = false → okd0 os s ord e = [] → x.idxOf q ≠ e := fun e h1 h2 h3 h4 z => by
    have e1 := sil e h1 h2 h3 h4
    rw [← z, dn] at e1
    rw [op0_eq off h2, h4] at h3
    have : calB s ord e = false := by simpa using h3
    unfold calB at this
    rw [← z, ← e1] at this
    exact (of_decide_eq_false this) qo
  have dop : t < x.idxOf q → op0 os s ord (x.idxOf q) = true := fun h => by
    cases z : op0 os s ord (x.idxOf q) with
    | true => rfl
    | false =>
      by_cases w : okd0 os s ord (x.idxOf q) = []
      · exact absurd rfl (nosil _ h dl z w)
      · exact absurd rfl (nocen _ h dl w)
  have spl' : ord = D ++ [q] ++ R := by rw [ho, List.append_assoc]; rfl
  have cs' := (cs.call qx).1
  have neq : ∀ {k : Nat}, k ≤ os.length → k ≠ x.idxOf q → nmAt x k ≠ q := fun {k} h1 h2 z => h2 (inj h1 z)
  have nR : ∀ {y : Str}, y ∈ q :: R → y ≠ q → y ∈ R := fun h n => mem_rest h n
  rcases mv with ⟨d0, ex⟩ | ⟨d0, m1, m2, m3⟩
  · -- at desk 0: nothing moves
    rw [ex]
    refine ⟨cs, spl', sil, fun c h1 h2 h3 => (grp c h1 h2 h3).keep fun k hk => ⟨rfl, ?_⟩, ?_⟩
    · rcases hk with hk | hk
      · exact neq (by omega) (by omega)
      · exact neq (mem_ok0.mp hk).2.1 (by have := (mem_ok0.mp hk).1; omega)
    · rcases top with a | ⟨a, b⟩
      · exact .inl fun e he => nR (a e he) (neq (mem_ok0.mp he).2.1 (by have := (mem_ok0.mp he).1; omega))
      · refine .inr ⟨List.mem_append_left _ a, fun e he h1 h2 => b e he h1 fun z => h2 (nR z (neq (mem_ok0.mp he).2.1 (by have := (mem_ok0.mp he).1; omega)))⟩
  · have ult := off_lt off (e := x.idxOf q) d0 dl
    generalize hd : x.idxOf q = d at *
    generalize hu : os.getD (d - 1) 0 = u at *
    -- a place that stays
    have stay : ∀ {k : Nat}, k ≤ os.length → k ≠ d → k ≠ u → nmAt (callS os x q) k = nmAt x k ∧ nmAt x k ≠ q := fun {k} h0 h1 h2 => ⟨m3 k h1 h2, neq h0 h1⟩
    have inok : ∀ {c k : Nat}, k ∈ okd0 os s ord c → k = d → c = u := fun {c k} h z => by
      have := (mem_ok0.mp h).2.2.1
      rw [z, hu] at this
      exact this.symm
    have uop : ∀ {c : Nat}, u ∈ okd0 os s ord c → okd0 os s ord u = [] := fun {c} h => (op0_ok off (mem_ok0.mp h).2.1 (mem_ok0.mp h).2.2.2).2
    have din : t < d → d ∈ okd0 os s ord u := fun h => mem_ok0.mpr ⟨d0, dl, hu, dop h⟩
    -- groups that the call does not touch
    have far : ∀ c, t < c → c ≤ os.length → okd0 os s ord c ≠ [] → c ≠ u → (u ∉ okd0 os s ord c) → GP ord (okd0 os s ord c) c (nmAt (callS os x q)) (D ++ [q]) R := fun c h1 h2 h3 h4 h5 => (grp c h1 h2 h3).keep fun k hk => by
      rcases hk with hk | hk
      · subst hk; exact stay h2 (fun z => nocen k h1 h2 h3 z.symm) h4
      · exact stay (mem_ok0.mp hk).2.1 (fun z => h4 (inok hk z)) fun z => h5 (by rw [← z]; exact hk)
    have sil' : ∀ e, t < e → e ≤ os.length → op0 os s ord e = false → okd0 os s ord e = [] → nmAt (callS os x q) e = nmAt s e := fun e h1 h2 h3 h4 => by
      have n1 : e ≠ d := fun z => nosil e h1 h2 h3 h4 z.symm
      have n2 : e ≠ u := fun z => by
        have hdt : t < d := by omega
        have := din hdt
        rw [← z, h4] at this
        cases this
      rw [m3 e n1 n2]
      exact sil e h1 h2 h3 h4
    by_cases hdt : t < d
    · have dU := din hdt
      have uU : ∀ c, u ∉ okd0 os s ord c := fun c h => by
        have := uop h
        rw [this] at dU
        cases dU
      have nU : okd0 os s ord u ≠ [] := fun z => by rw [z] at dU; cases dU
      refine ⟨cs', spl', sil', fun c h1 h2 h3 => ?_, ?_⟩
      · by_cases hcu : c = u
        · subst hcu
          refine (grp c h1 h2 h3).move ho hn dU dn (uU c) (fun e he hne => neq (mem_ok0.mp he).2.1 hne) m2 m1 fun k hk hne => m3 k hne fun z => absurd hk (by rw [z]; exact uU _)
        · exact far c h1 h2 h3 hcu (uU c)
      · by_cases hut : u = t
        · subst hut
          right
          refine ⟨by rw [m2]; simp, fun e he h1 h2 => ?_⟩
          rw [m2]
          have key : ∀ y, y ∈ ord → y ∉ R → y ≠ q → ord.idxOf y < ord.idxOf q := fun y a b c => by
            rcases in_three ho a with z | z | z
            · exact ix_done ho hn z
            · exact absurd z c
            · exact absurd z b
          by_cases ed : e = d
          · subst ed
            rw [m1] at h1 h2 ⊢
            exact key _ h1 h2 (neq ht (by omega))
          · rw [m3 e ed fun z => absurd he (by rw [z]; exact uU _)] at h1 h2 ⊢
            exact key _ h1 h2 (neq (mem_ok0.mp he).2.1 ed)
        · have st : ∀ e ∈ okd0 os s ord t, nmAt (callS os x q) e = nmAt x e ∧ nmAt x e ≠ q := fun e he => stay (mem_ok0.mp he).2.1 (fun z => hut (inok he z).symm) fun z => uU t (by rw [← z]; exact he)
          have s2 := stay ht (by omega : t ≠ d) (fun z => hut z.symm)
          rcases top with a | ⟨a, b⟩
          · exact .inl fun e he => by rw [(st e he).1]; exact nR (a e he) (st e he).2
          · refine .inr ⟨by rw [s2.1]; exact List.mem_append_left _ a, fun e he h1 h2 => ?_⟩
            rw [(st e he).1] at h1 h2 ⊢
            rw [s2.1]
            exact b e he h1 fun z => h2 (nR z (st e he).2)
    · -- at t or above
      have uU : ∀ c, t ≤ c → u ∉ okd0 os s ord c := fun c h1 h2 => by have := ok0_lt off h2; omega
      refine ⟨cs', spl', sil', fun c h1 h2 h3 => far c h1 h2 h3 (by omega) (uU c (by omega)), ?_⟩
      have st : ∀ e ∈ okd0 os s ord t, nmAt (callS os x q) e = nmAt x e ∧ nmAt x e ≠ q := fun e he => by
        have := ok0_lt off he
        exact stay (mem_ok0.mp he).2.1 (by omega) (by omega)
      rcases top with a | ⟨a, b⟩
      · exact .inl fun e he => by rw [(st e he).1]; exact nR (a e he) (st e he).2
      · by_cases hd2 : d = t
        · exfalso
          rw [← hd2, dn] at a
          have := ix_done ho hn a
          omega
        · have s2 := stay ht (by omega : t ≠ d) (by omega : t ≠ u)
          refine .inr ⟨by rw [s2.1]; exact List.mem_append_left _ a, fun e he h1 h2 => ?_⟩
          rw [(st e he).1] at h1 h2 ⊢
          rw [s2.1]
          exact b e he h1 fun z => h2 (nR z (st e he).2)
theorem Dy.run : ∀ {R x D : List Str}, Dy os s ord t x D R → t ≤ os.length → Dy os s ord t (callsS os x R) ord []
  | [], x, D, dy, _ => by
    have := dy.spl
    rw [List.append_nil] at this
    rw [this]
    rw [this] at dy
    exact dy
  | q :: R, x, D, dy, ht => by
    show Dy os s ord t (callsS os (callS os x q) R) ord []
    exact Dy.run (dy.step ht) ht
end
end Ds
end
section
set_option Elab.async false
set_option linter.all false
set_option maxRecDepth 100000
set_option maxHeartbeats 1000000
open PySem PySem.Spec PyProof.Rows L2
namespace Ds
section
variable {os : List Nat} {s ss ord x : List Str} {t : Nat}
theorem blk_none {U : List Nat} {d : Nat} (hn : ord.Nodup) (hd : nmAt x d ∈ ord) (h : ∀ e ∈ U, ord.idxOf (nmAt x e) < ord.idxOf (nmAt x d)) : blk x ord U d = [] := by
  unfold blk
  rw [if_pos hd, List.map_eq_nil_iff, List.filter_eq_nil_iff]
  intro y hy
  rw [decide_eq_true_eq]
  intro hm
  obtain ⟨e, he, rfl⟩ := List.mem_map.mp hm
  have := (mem_drop_idx hn).mp hy
  have := h e he
  omega
theorem blk_some {U : List Nat} {d : Nat} (c : Case os s ord) (hd : d ≤ os.length) (hU : ∀ e ∈ U, e ≤ os.length ∧ e ≠ d ∧ nmAt s e ∈ ord) (h0 : U ≠ []) (h : blk s ord U d = []) : nmAt s d ∈ ord ∧ ∀ e ∈ U, ord.idxOf (nmAt s e) < ord.idxOf (nmAt s d) := by
  unfold blk at h
  by_cases hc : nmAt s d ∈ ord
  · refine ⟨hc, fun e he => ?_⟩
    rw [if_pos hc, List.map_eq_nil_iff, List.filter_eq_nil_iff] at h
    obtain ⟨h1, h2, h3⟩ := hU e he
    rcases Nat.lt_trichotomy (ord.idxOf (nmAt s e)) (ord.idxOf (nmAt s d)) with z | z | z
    · exact z
    · exact absurd (nm_inj c h1 hd (idx_inj h3 hc z)) h2
    · exact absurd (decide_eq_true (List.mem_map.mpr ⟨e, he, rfl⟩)) (h (nmAt s e) ((mem_drop_idx c.ond).mpr ⟨h3, by omega⟩))
  · rw [if_neg hc, if_neg h0] at h
    cases h
/-- the desks from k on are settled -/
def stF (os : List Nat) (s ord : List Str) (k : Nat) : Prop := ∀ d, k ≤ d → d ≤ os.length → blkD os s ord d = []
theorem settledB_iff : settledB os s ord = true ↔ stF os s ord 0 := by
  unfold settledB stF desks
  rw [List.all_eq_true]
  constructor
  · intro h d _ hd
    exact List.isEmpty_iff.mp (h d (List.mem_range.mpr (by omega)))
  · intro h d hd
    rw [List.mem_range] at hd
    exact List.isEmpty_iff.mpr (h d (Nat.zero_le _) (by omega))
theorem ok0_mem (c : Case os s ord) {d e : Nat} (he : e ∈ okd0 os s ord d) : e ≤ os.length ∧ e ≠ d ∧ nmAt s e ∈ ord := by
  have h := mem_ok0.mp he
  have := ok0_lt c.off he
  exact ⟨h.2.1, by omega, (op0_ok c.off h.2.1 h.2.2.2).1⟩
theorem Dy.start (c : Case os s ord) (h : stF os s ord (t + 1)) : Dy os s ord t s [] ord := by
  refine ⟨c, rfl, fun _ _ _ _ _ => rfl, fun d h1 h2 h3 => ?_, .inl fun e he => (ok0_mem c he).2.2⟩
  obtain ⟨a, b⟩ := blk_some c h2 (fun e he => ok0_mem c he) h3 (h d h1 h2)
  exact ⟨a, fun e he => (ok0_mem c he).2.2, .inl ⟨b, fun _ e he => (ok0_mem c he).2.2⟩⟩
theorem Dy.same (dy : Dy os s ord t x ord []) : ∀ (k e : Nat), os.length - e ≤ k → t < e → e ≤ os.length → okd0 os x ord e = okd0 os s ord e ∧ (op0 os x ord e = true → op0 os s ord e = true) ∧ (t < os.getD (e - 1) 0 → op0 os s ord e = true → op0 os x ord e = true) := by
  intro k
  induction k using Nat.strongRecOn with
  | ind k ih =>
    intro e hk h1 h2
    have off := dy.cs.off
    have e1 : okd0 os x ord e = okd0 os s ord e := by
      unfold okd0 okd
      apply List.filter_congr
      intro c hc
      rw [List.mem_range'_1] at hc
      by_cases hs : os.getD (c - 1) 0 = e
      · have lt := off_lt off (e := c) (by omega) (by omega)
        obtain ⟨_, a, b⟩ := ih (os.length - c) (by omega) c (Nat.le_refl _) (by omega) (by omega)
        have : op os (calB x ord) c = op os (calB s ord) c := by
          cases z : op os (calB s ord) c with
          | true => exact b (by omega) z
          | false =>
            cases w : op os (calB x ord) c with
            | true =>
              have q : op os (calB s ord) c = true := a w
              rw [z] at q; cases q
            | false => rfl
        rw [this]
      · rw [decide_eq_false hs, Bool.false_and, Bool.false_and]
    refine ⟨e1, fun ho => ?_, fun hs ho => ?_⟩
    · obtain ⟨a, b⟩ := op0_ok off h2 ho
      rw [e1] at b
      cases z : op0 os s ord e with
      | true => rfl
      | false =>
        have := dy.sil e h1 h2 z b
        rw [op0_eq off h2, b] at z
        rw [this] at a
        simp [calB, a] at z
    · have hc : os.getD (e - 1) 0 ≤ os.length := by have := off_lt off (e := e) (by omega) h2; omega
      have hm : e ∈ okd0 os s ord (os.getD (e - 1) 0) := mem_ok0.mpr ⟨by omega, h2, rfl, ho⟩
      have g := dy.grp _ hs hc (fun z => by rw [z] at hm; cases hm)
      obtain ⟨_, b⟩ := op0_ok off h2 ho
      rw [op0_eq off h2, e1, b]
      simp [calB, g.2.1 e hm]
theorem Dy.settled (dy : Dy os s ord t x ord []) (ht : t ≤ os.length) : stF os x ord t := by
  intro d h1 h2
  have off := dy.cs.off
  have hn := dy.cs.ond
  show blk x ord (okd0 os x ord d) d = []
  by_cases hdt : d = t
  · subst hdt
    by_cases h0 : okd0 os x ord d = []
    · exact blk_nil h0
    · obtain ⟨e, he⟩ := List.exists_mem_of_ne_nil _ h0
      have sub : ∀ e ∈ okd0 os x ord d, e ∈ okd0 os s ord d ∧ nmAt x e ∈ ord := fun e he => by
        obtain ⟨a, b, c, o⟩ := mem_ok0.mp he
        have lt := ok0_lt off he
        obtain ⟨_, a2, _⟩ := dy.same _ e (Nat.le_refl _) lt b
        exact ⟨mem_ok0.mpr ⟨a, b, c, a2 o⟩, (op0_ok off b o).1⟩
      rcases dy.top with a | ⟨a, b⟩
      · have := a e (sub e he).1
        cases this
      · exact blk_none hn a fun e he => b e (sub e he).1 (sub e he).2 (by simp)
  · rw [(dy.same _ d (Nat.le_refl _) (by omega) h2).1]
    by_cases h0 : okd0 os s ord d = []
    · exact blk_nil h0
    · obtain ⟨g1, g2, g3⟩ := dy.grp d (by omega) h2 h0
      rcases g3 with ⟨a, _⟩ | ⟨_, e0, _, b, _⟩
      · exact blk_none hn g1 a
      · cases b
/-- a day settles one more desk -/
theorem day_settles (c : Case os s ord) (ht : t ≤ os.length) (h : stF os s ord (t + 1)) : stF os (callsS os s ord) ord t :=
  Dy.settled (Dy.run (Dy.start c h) ht) ht
def daysS (os : List Nat) (ord : List Str) : Nat → List Str → List Str
  | 0, s => s
  | k + 1, s => daysS os ord k (callsS os s ord)
theorem settled_stays (c : Case os s ord) (h : settledB os s ord = true) : settledB os (callsS os s ord) ord = true := by
  rw [settledB_iff] at h ⊢
  exact day_settles c (Nat.zero_le _) fun d _ hd => h d (Nat.zero_le _) hd
end
end Ds
end
section
set_option Elab.async false
set_option linter.all false
set_option maxRecDepth 100000
set_option maxHeartbeats 1000000
open PySem PySem.Spec PyProof.Rows L2
namespace Ds
section
variable {os : List Nat} {s ord R : List Str} {x y z : Str}
/-- the persons of a group -/
def InG (s : List Str) (U : List Nat) (d : Nat) (z : Str) : Prop := ∃ k, (k = d ∨ k ∈ U) ∧ nmAt s k = z
theorem okd_cal {s' ord' : List Str} (h : calB s' ord' = calB s ord) (d : Nat) : okd0 os s' ord' d = okd0 os s ord d := by unfold okd0; rw [h]
theorem op_cal {s' ord' : List Str} (h : calB s' ord' = calB s ord) (d : Nat) : op0 os s' ord' d = op0 os s ord d := by unfold op0; rw [h]
/-- what one call of the first of the order does to a recurrent state -/
structure Rot (os : List Nat) (s ord s' ord' : List Str) : Prop where
  cs : Case os s' ord'
  st : stF os s' ord' 0
  cal : calB s' ord' = calB s ord
  grp : ∀ d, d ≤ os.length → okd0 os s ord d ≠ [] → ∀ z, InG s' (okd0 os s ord d) d z ↔ InG s (okd0 os s ord d) d z
  rest : ∀ k, k ≤ os.length → okd0 os s ord k = [] → (op0 os s ord k = false ∨ k = 0) → nmAt s' k = nmAt s k
end
end Ds
end
section
set_option Elab.async false
set_option linter.all false
set_option maxRecDepth 100000
set_option maxHeartbeats 1000000
open PySem PySem.Spec PyProof.Rows L2
namespace Ds
section
variable {os : List Nat} {s s1 s2 o0 o1 o2 : List Str}
theorem Rot.refl (c : Case os s o0) (h : stF os s o0 0) : Rot os s o0 s o0 := ⟨c, h, rfl, fun _ _ _ _ => Iff.rfl, fun _ _ _ _ => rfl⟩
theorem Rot.trans (a : Rot os s o0 s1 o1) (b : Rot os s1 o1 s2 o2) : Rot os s o0 s2 o2 := by
  have e : ∀ d, okd0 os s1 o1 d = okd0 os s o0 d := fun d => okd_cal a.cal d
  have f : ∀ d, op0 os s1 o1 d = op0 os s o0 d := fun d => op_cal a.cal d
  refine ⟨b.cs, b.st, b.cal.trans a.cal, fun d hd h z => ?_, fun k hk h1 h2 => ?_⟩
  · have := b.grp d hd (by rw [e]; exact h) z
    rw [e] at this
    exact this.trans (a.grp d hd h z)
  · rw [b.rest k hk (by rw [e]; exact h1) (by rw [f]; exact h2)]
    exact a.rest k hk h1 h2
end
end Ds
end
section
set_option Elab.async false
set_option linter.all false
set_option maxRecDepth 100000
set_option maxHeartbeats 1000000
open PySem PySem.Spec PyProof.Rows L2
namespace Ds
def rowS (os : List Nat) (ss : List Str) (s : Str) : PyData :=
  .tuple [.str s, .int (ss.idxOf s : Nat), if 0 < ss.idxOf s then .str (nmAt ss (os.getD (ss.idxOf s - 1) 0)) else .none]
section
variable {os : List Nat} {ss ord : List Str}
/-- k is the settling day -/
structure SDay (os : List Nat) (s ord : List Str) (k : Nat) : Prop where
  le : k ≤ os.length
  yes : settledB os (daysS os ord k s) ord = true
  no : ∀ j, j < k → settledB os (daysS os ord j s) ord = false
end
end Ds
end
section
set_option Elab.async false
set_option linter.all false
set_option maxRecDepth 100000
set_option maxHeartbeats 1000000
open PySem PySem.Spec PyProof.Rows L2
namespace Ds
def namesG (os : List Nat) (s ord : List Str) (d : Nat) : List Str := ord.filter fun n => decide (n ∈ (d :: okd0 os s ord d).map (nmAt s))
def grpD (os : List Nat) (s ord : List Str) (d : Nat) : PyData := .tuple [.int (d : Nat), .list (nts (okd0 os s ord d)), .list (sts (namesG os s ord d))]
end Ds
end
section
set_option Elab.async false
set_option linter.all false
set_option maxRecDepth 100000
set_option maxHeartbeats 1000000
open PySem PySem.Spec PyProof.Rows L2
namespace Ds
def depL (os : List Nat) : List Nat := os.foldl (fun acc u => acc ++ [acc.getD u 0 + 1]) [0]
def dep (os : List Nat) (k : Nat) : Nat := (depL os).getD k 0
theorem depL_snoc {os : List Nat} {u : Nat} : depL (os ++ [u]) = depL os ++ [(depL os).getD u 0 + 1] := by
  unfold depL
  rw [List.foldl_append]
  rfl
theorem depL_len : ∀ (n : Nat) (os : List Nat), os.length = n → (depL os).length = n + 1
  | 0, os, h => by rw [List.length_eq_zero_iff.mp h]; rfl
  | n + 1, os, h => by
    obtain ⟨i, u, rfl⟩ : ∃ i u, os = i ++ [u] := ⟨os.dropLast, os.getLast (fun w => by rw [w] at h; cases h), (List.dropLast_concat_getLast _).symm⟩
    rw [List.length_append, List.length_singleton] at h
    rw [depL_snoc, List.length_append, depL_len n i (by omega)]
    rfl
theorem getD_app {l : List Nat} {v k : Nat} (h : k < l.length) : (l ++ [v]).getD k 0 = l.getD k 0 := by
  simp [List.getD, List.getElem?_append_left h]
theorem dep_at : ∀ (n : Nat) (os : List Nat), os.length = n → (∀ (i x : Nat), os[i]? = some x → x ≤ i) → ∀ k, 0 < k → k ≤ n → dep os k = dep os (os.getD (k - 1) 0) + 1
  | 0, os, h, _, k, k0, k1 => by omega
  | n + 1, os, h, ho, k, k0, k1 => by
    obtain ⟨i, u, rfl⟩ : ∃ i u, os = i ++ [u] := ⟨os.dropLast, os.getLast (fun w => by rw [w] at h; cases h), (List.dropLast_concat_getLast _).symm⟩
    rw [List.length_append, List.length_singleton] at h
    have hi : i.length = n := by omega
    have hl := depL_len n i hi
    have hu : u ≤ n := by
      have := ho i.length u (by rw [List.getElem?_append_right (Nat.le_refl _), Nat.sub_self]; rfl)
      omega
    have ho' : ∀ (j x : Nat), i[j]? = some x → x ≤ j := fun j x e => ho j x (by rw [List.getElem?_append_left (List.getElem?_eq_some_iff.mp e).1]; exact e)
    by_cases hk : k = n + 1
    · subst hk
      have e1 : (i ++ [u]).getD (n + 1 - 1) 0 = u := by rw [Nat.add_sub_cancel, ← hi]; simp [List.getD]
      unfold dep
      rw [e1, depL_snoc, getD_app (l := depL i) (k := u) (by omega)]
      have e3 : (depL i ++ [(depL i).getD u 0 + 1])[n + 1]? = some ((depL i).getD u 0 + 1) := by rw [← hl, List.getElem?_append_right (Nat.le_refl _), Nat.sub_self]; rfl
      rw [List.getD_eq_getElem?_getD, e3]
      rfl
    · have ih := dep_at n i hi ho' k k0 (by omega)
      have e1 : (i ++ [u]).getD (k - 1) 0 = i.getD (k - 1) 0 := getD_app (by omega)
      have lt : i.getD (k - 1) 0 < n + 1 := by
        have e : i[k - 1]? = some (i.getD (k - 1) 0) := by simp [List.getD, List.getElem?_eq_getElem (show k - 1 < i.length by omega)]
        have := ho' _ _ e
        omega
      unfold dep at ih ⊢
      rw [e1, depL_snoc, getD_app (by omega), getD_app (by omega), ih]
section
variable {os : List Nat} {s o R s' o' : List Str} {x y z : Str} {d k : Nat}
theorem Off.dep (h : Off os) {k : Nat} (h0 : 0 < k) (h1 : k ≤ os.length) : Ds.dep os k = Ds.dep os (os.getD (k - 1) 0) + 1 := dep_at os.length os rfl h.2 k h0 h1
end
end Ds
end
section
set_option Elab.async false
set_option linter.all false
set_option maxRecDepth 100000
set_option maxHeartbeats 1000000
open PySem PySem.Spec PyProof.Rows L2
namespace Ds
def T1 : Nat → Bool := fun _ => true
abbrev ok1 (os : List Nat) (d : Nat) : List Nat := okd os T1 0 d
abbrev sup (os : List Nat) (d : Nat) : Nat := os.getD (d - 1) 0
def cenL (os : List Nat) : List Nat := (List.range (os.length + 1)).filter fun d => !(ok1 os d).isEmpty
section
variable {os : List Nat} {left cs : List Nat} {d e last : Nat}
theorem op1 (h : Off os) (he : e ≤ os.length) : op os T1 e = true ↔ ok1 os e = [] := by
  rw [op_okd h he]
  simp [T1]
theorem mem_ok1 : e ∈ ok1 os d ↔ 0 < e ∧ e ≤ os.length ∧ sup os e = d ∧ op os T1 e = true := mem_okd
theorem sup_lt (h : Off os) (h1 : 0 < e) (h2 : e ≤ os.length) : sup os e < e := off_lt h h1 h2
/-- what stands while groups are removed -/
structure RI (os left cs : List Nat) : Prop where
  asc : left.Pairwise (· < ·)
  le : ∀ d ∈ left, d ≤ os.length
  out : ∀ d, d ≤ os.length → d ∉ left → d ∈ cs ∨ (0 < d ∧ sup os d ∈ cs ∧ op os T1 d = true)
  cin : ∀ d ∈ cs, d ≤ os.length ∧ d ∉ left ∧ (∀ e ∈ ok1 os d, e ∉ left) ∧ ok1 os d ≠ []
  nd : cs.Nodup
theorem RI.start : RI os (List.range (os.length + 1)) [] where
  asc := List.pairwise_lt_range
  le := fun d h => by have := List.mem_range.mp h; omega
  out := fun d h n => absurd (List.mem_range.mpr (by omega)) n
  cin := fun d h => by cases h
  nd := .nil
theorem RI.open (h : Off os) (r : RI os left cs) (he : e ∈ left) (hk : ∀ x ∈ kids os e, x ∉ left) : op os T1 e = true := by
  have le := r.le e he
  rw [op_eq h le]
  rw [Bool.and_eq_true]
  refine ⟨rfl, List.all_eq_true.mpr fun c hc => ?_⟩
  obtain ⟨m1, m2, m3⟩ := mem_kids.mp hc
  rcases r.out c m2 (hk c hc) with z | ⟨z1, z2, z3⟩
  · have := (r.cin c z).2.2.2
    cases q : op os T1 c with
    | false => rfl
    | true => exact absurd ((op1 h m2).mp q) this
  · rw [show sup os c = e from m3] at z2
    exact absurd he (r.cin e z2).2.1
/-- the deepest desk that is left -/
structure Deep (os left : List Nat) (last : Nat) : Prop where
  mem : last ∈ left
  max : ∀ d ∈ left, dep os d ≤ dep os last
theorem dep_kid (h : Off os) {x : Nat} (hx : x ∈ kids os e) : dep os x = dep os e + 1 := by
  obtain ⟨m1, m2, m3⟩ := mem_kids.mp hx
  rw [h.dep m1 m2]
  rw [show os.getD (x - 1) 0 = e from m3]
theorem RI.deep_open (h : Off os) (r : RI os left cs) (p : Deep os left last) (he : e ∈ left) (hd : dep os e = dep os last) : op os T1 e = true := r.open h he fun x hx hl => by
  have := dep_kid h hx
  have := p.max x hl
  omega
theorem RI.pos (h : Off os) (r : RI os left cs) (p : Deep os left last) (h2 : 1 < left.length) : 0 < last := by
  rcases Nat.eq_zero_or_pos last with z | z
  · exfalso
    subst z
    have d0 : ∀ d ∈ left, d = 0 := fun d hd => by
      rcases Nat.eq_zero_or_pos d with w | w
      · exact w
      · have e1 := h.dep w (r.le d hd)
        have e2 := p.max d hd
        have e3 : dep os 0 = 0 := by
          by_cases q : dep os 0 = 0
          · exact q
          · have e4 := depL_len os.length os rfl
            unfold dep depL at q
            exact absurd (by
              have : ∀ (l acc : List Nat), 0 < acc.length → (l.foldl (fun acc u => acc ++ [acc.getD u 0 + 1]) acc).getD 0 0 = acc.getD 0 0 := by
                intro l
                induction l with
                | nil => intro acc _; rfl
                | cons u l ih =>
                  intro acc ha
                  rw [List.foldl_cons, ih _ (by simp), getD_app ha]
              rw [this os [0] (by decide)]
              rfl) q
        omega
    match left, h2, r.asc, d0 with
    | a :: b :: l, _, asc, d0 =>
      have := (List.pairwise_cons.mp asc).1 b (by simp)
      have := d0 a (by simp)
      have := d0 b (by simp)
      omega
  · exact z
theorem RI.up_in (h : Off os) (r : RI os left cs) (p : Deep os left last) (h0 : 0 < last) : last ∈ ok1 os (sup os last) ∧ sup os last ∈ left := by
  have le := r.le last p.mem
  have m : last ∈ ok1 os (sup os last) := mem_ok1.mpr ⟨h0, le, rfl, r.deep_open h p p.mem rfl⟩
  refine ⟨m, Classical.byContradiction fun n => ?_⟩
  have ul : sup os last ≤ os.length := by have := sup_lt h h0 le; omega
  rcases r.out _ ul n with z | ⟨z1, z2, z3⟩
  · exact (r.cin _ z).2.2.1 last m p.mem
  · rw [(op1 h ul).mp z3] at m
    cases m
theorem RI.step (h : Off os) (r : RI os left cs) (p : Deep os left last) (h0 : 0 < last) : RI os (left.filter fun d => !decide (d = sup os last) && !decide (d ∈ ok1 os (sup os last))) (cs ++ [sup os last]) ∧ (left.filter fun d => !decide (d = sup os last) && !decide (d ∈ ok1 os (sup os last))).length < left.length := by
  have le := r.le last p.mem
  obtain ⟨um, ul⟩ := r.up_in h p h0
  have ule := r.le _ ul
  have mf : ∀ d, d ∈ (left.filter fun d => !decide (d = sup os last) && !decide (d ∈ ok1 os (sup os last))) ↔ d ∈ left ∧ d ≠ sup os last ∧ d ∉ ok1 os (sup os last) := fun d => by
    rw [List.mem_filter]
    simp
  refine ⟨⟨r.asc.filter _, fun d hd => r.le d ((mf d).mp hd).1, fun d hd n => ?_, fun d hd => ?_, ?_⟩, ?_⟩
  · by_cases hl : d ∈ left
    · by_cases e1 : d = sup os last
      · exact .inl (by rw [e1]; simp)
      · by_cases e2 : d ∈ ok1 os (sup os last)
        · obtain ⟨k1, k2, k3, k4⟩ := mem_ok1.mp e2
          exact .inr ⟨k1, by rw [k3]; simp, k4⟩
        · exact absurd ((mf d).mpr ⟨hl, e1, e2⟩) n
    · rcases r.out d hd hl with z | ⟨z1, z2, z3⟩
      · exact .inl (List.mem_append_left _ z)
      · exact .inr ⟨z1, List.mem_append_left _ z2, z3⟩
  · rcases List.mem_append.mp hd with z | z
    · obtain ⟨c1, c2, c3, c4⟩ := r.cin d z
      exact ⟨c1, fun w => c2 ((mf d).mp w).1, fun e he w => c3 e he ((mf e).mp w).1, c4⟩
    · have e : d = sup os last := by simpa using z
      subst e
      exact ⟨ule, fun w => ((mf _).mp w).2.1 rfl, fun e he w => ((mf e).mp w).2.2 he, fun w => by rw [w] at um; cases um⟩
  · refine List.nodup_append.mpr ⟨r.nd, by simp, fun a ha b hb => ?_⟩
    have e : b = sup os last := by simpa using hb
    subst e
    exact fun z => (r.cin a ha).2.1 (by rw [z]; exact ul)
  · refine List.length_filter_lt_length_iff_exists.mpr ⟨sup os last, ul, by simp⟩
/-- nobody is left, or one -/
theorem RI.done (h : Off os) (r : RI os left cs) (h1 : left.length ≤ 1) : cs.Perm (cenL os) ∧ (left = [0] ↔ ok1 os 0 = []) := by
  have full : ∀ d, d ≤ os.length → ok1 os d ≠ [] → d ∈ cs := fun d hd hne => by
    by_cases hl : d ∈ left
    · exfalso
      obtain ⟨e, he⟩ := List.exists_mem_of_ne_nil _ hne
      obtain ⟨k1, k2, k3, k4⟩ := mem_ok1.mp he
      have hlt := sup_lt h k1 k2
      have one : left = [d] := by
        match left, h1, hl with
        | [a], _, hl => rw [show d = a by simpa using hl]
      by_cases el : e ∈ left
      · rw [one] at el
        have : e = d := by simpa using el
        omega
      · rcases r.out e k2 el with z | ⟨z1, z2, z3⟩
        · exact (r.cin e z).2.2.2 ((op1 h k2).mp k4)
        · rw [k3] at z2
          exact (r.cin d z2).2.1 hl
    · rcases r.out d hd hl with z | ⟨z1, z2, z3⟩
      · exact z
      · exact absurd ((op1 h hd).mp z3) hne
  refine ⟨(List.perm_ext_iff_of_nodup r.nd (List.Pairwise.filter _ List.nodup_range)).mpr fun d => ?_, ?_⟩
  · rw [List.mem_filter, List.mem_range]
    constructor
    · intro hd
      obtain ⟨c1, _, _, c4⟩ := r.cin d hd
      exact ⟨by omega, by simpa using c4⟩
    · rintro ⟨h1, h2⟩
      exact full d (by omega) (by simpa using h2)
  · constructor
    · intro e
      apply Classical.byContradiction
      intro n
      have := (r.cin 0 (full 0 (Nat.zero_le _) n)).2.1
      rw [e] at this
      exact this (by simp)
    · intro e
      have m0 : 0 ∈ left := Classical.byContradiction fun n => by
        rcases r.out 0 (Nat.zero_le _) n with z | ⟨z1, _⟩
        · exact (r.cin 0 z).2.2.2 e
        · omega
      match left, h1, m0 with
      | [a], _, m0 => rw [show 0 = a by simpa using m0]
theorem mem_cenL : d ∈ cenL os ↔ d ≤ os.length ∧ ok1 os d ≠ [] := by
  unfold cenL
  rw [List.mem_filter, List.mem_range]
  simp
  omega
end
end Ds
end
section
set_option Elab.async false
set_option linter.all false
set_option maxRecDepth 100000
set_option maxHeartbeats 1000000
open PySem PySem.Spec PyProof.Rows L2
namespace Ds
section
variable {os : List Nat} {ss ord : List Str}
theorem nm_fit {s : Str} (h : Nm s) : Fit 0 8 (.str s) := fit_str (fun c hc => Nat.lt_of_le_of_lt (h.2.2 c hc).2 (by decide)) h.2.1
theorem sts_fit {l : List Str} (h : ∀ s ∈ l, Nm s) (hn : l.length ≤ 40) : Fit 1 400 (.tuple (sts l)) := by
  refine (fit_tup (k := 0) (w := 8) (n := 40) (fun d hd => ?_) (by rw [sts_len]; exact hn)).mono (by decide) (by decide)
  obtain ⟨x, hx, rfl⟩ := List.mem_map.mp hd
  exact nm_fit (h x hx)
theorem nat_fit {n : Nat} (h : n < 1000000) : Fit 0 100 (.int (n : Nat)) := fit_int (by rw [Int.natAbs_natCast]; exact Nat.lt_trans h (by decide))
theorem nts_fitT {l : List Nat} (h : ∀ x ∈ l, x < 1000000) (hn : l.length ≤ 40) : Fit 1 5000 (.tuple (nts l)) := by
  refine (fit_tup (k := 0) (w := 100) (n := 40) (fun d hd => ?_) (by rw [nts_len]; exact hn)).mono (by decide) (by decide)
  obtain ⟨x, hx, rfl⟩ := List.mem_map.mp hd
  exact nat_fit (h x hx)
theorem nts_fitL {l : List Nat} (h : ∀ x ∈ l, x < 1000000) (hn : l.length ≤ 40) : Fit 1 5000 (.list (nts l)) := by
  refine (fit_list (k := 0) (w := 100) (n := 40) (fun d hd => ?_) (by rw [nts_len]; exact hn)).mono (by decide) (by decide)
  obtain ⟨x, hx, rfl⟩ := List.mem_map.mp hd
  exact nat_fit (h x hx)
theorem Off.small {os : List Nat} (h : Off os) : ∀ x ∈ os, x < 1000000 := fun x hx => by
  obtain ⟨i, hi⟩ := List.getElem?_of_mem hx
  have h1 := h.2 i x hi
  have h2 := (List.getElem?_eq_some_iff.mp hi).1
  have := h.1
  omega
end
@[simp] theorem g_cutL {ds : List PyData} {lo hi : Option Int} : gCut (.list ds) lo hi = some (.list (cutD ds lo hi)) := rfl
theorem let_nm {s : Str} (h : (decide (1 ≤ s.length) && decide (s.length ≤ 8) && s.cps.toList.all fun c => decide (97 ≤ c) && decide (c ≤ 122)) = true) : Nm s := by
  simp only [Bool.and_eq_true, decide_eq_true_eq, List.all_eq_true] at h
  exact ⟨h.1.1, h.1.2, h.2⟩
/-- a small case, by its look -/
def caseB (os : List Nat) (ss ord : List Str) : Bool := decide (os.length ≤ 39) && (List.range os.length).all (fun i => decide (os.getD i 0 ≤ i)) && decide (ss.length = os.length + 1) && decide ss.Nodup && (ss.all fun s => decide (1 ≤ s.length) && decide (s.length ≤ 8) && s.cps.toList.all fun c => decide (97 ≤ c) && decide (c ≤ 122)) && decide ord.Nodup && ord.all fun s => decide (s ∈ ss)
theorem caseB_ok {os : List Nat} {ss ord : List Str} (h : caseB os ss ord = true) : Case os ss ord := by
  simp only [caseB, Bool.and_eq_true, decide_eq_true_eq] at h
  obtain ⟨⟨⟨⟨⟨⟨h1, h2⟩, h3⟩, h4⟩, h5⟩, h6⟩, h7⟩ := h
  refine ⟨⟨h1, fun i x e => ?_⟩, h3, h4, fun s hs => let_nm (List.all_eq_true.mp h5 s hs), h6, fun s hs => of_decide_eq_true (List.all_eq_true.mp h7 s hs)⟩
  have := of_decide_eq_true (List.all_eq_true.mp h2 i (List.mem_range.mpr (List.getElem?_eq_some_iff.mp e).1))
  rw [List.getD_eq_getElem?_getD, e] at this
  exact this
/-- one turn's office, seating, order -/
theorem made {k : Nat} {bag : List PyData} (hb : Sg k bag) (hk : k < 500000) {m : Int} (m0 : 0 < m) (m1 : m ≤ 40) : ∃ os ss ord bag2 bag3 bag4 T2 T3 T4, Case os ss ord ∧ Sg (k + 300) bag4 ∧ (os.length : Int) < m ∧ m__law_office [.io bag, .val (.int m)] = .ok (.val (.tuple (nts os))) (.io bag2 :: T2) ∧ m__law_names [.io bag2, .val (.int ((os.length + 1 : Nat) : Int))] = .ok (vS ss) (.io bag3 :: T3) ∧ m__law_called [.io bag3, vS ss] = .ok (vS ord) (.io bag4 :: T4) := by
  obtain ⟨os, bag2, T2, b1, b2, b3, e2⟩ := law_off m0 m1 (by omega) hb
  obtain ⟨ss, bag3, T3, c1, c2, c3, c4, e3⟩ := law_names (n := os.length + 1) b2 (by omega) (by have := b1.1; omega)
  obtain ⟨ord, bag4, T4, d1, d2, d3, e4⟩ := law_called (ss := ss) c4 (by have := b1.1; omega) (by have := b1.1; omega) c2
  exact ⟨os, ss, ord, bag2, bag3, bag4, T2, T3, T4, ⟨b1, c1, c2, c3, d1, d2⟩, d3.mono (by have := b1.1; omega), b3, e2, e3, e4⟩
end Ds
end
section
set_option Elab.async false
set_option linter.all false
set_option maxRecDepth 100000
set_option maxHeartbeats 1000000
open PySem PySem.Spec PyProof.Rows L2
namespace Ds
theorem flat_nts {u : List Nat} : (nts u).all flatD = true := by
  rw [List.all_eq_true]
  intro d hd
  obtain ⟨s, _, rfl⟩ := List.mem_map.mp hd
  rfl
theorem inD_nts {s : Nat} {u : List Nat} : inD (.int (s : Nat)) (nts u) = decide (s ∈ u) := by
  rw [Bool.eq_iff_iff]
  simp only [inD, List.any_eq_true, decide_eq_true_eq]
  constructor
  · rintro ⟨d, h1, h2⟩
    obtain ⟨x, h3, rfl⟩ := List.mem_map.mp h1
    have h2' : ((x : Nat) : Int) = (s : Nat) := by simpa [PyData.eqv] using h2
    have : x = s := by omega
    rw [← this]; exact h3
  · intro h
    exact ⟨.int (s : Nat), List.mem_map.mpr ⟨s, h, rfl⟩, by simp [PyData.eqv]⟩
@[simp] theorem r_sSrtP' {sr : SN} {S : En} : sSrtP sr S = ((sr S).bnd fun ds S1 => R.opt (srtOf ds) S1) := rfl
section
variable {os : List Nat}
theorem nts_atN {l : List Nat} {k : Nat} (h : k < l.length) : atI (nts l) (k : Nat) = some (.int ((l.getD k 0 : Nat) : Int)) := by
  rw [atI_nn (by omega), Int.toNat_natCast, nts_get, List.getElem?_eq_getElem h]
  simp [List.getD, List.getElem?_eq_getElem h]
end
end Ds
end
section
set_option Elab.async false
set_option linter.all false
set_option maxRecDepth 100000
set_option maxHeartbeats 1000000
open PySem PySem.Spec PyProof.Rows L2
namespace Ds
def mx (l : List Nat) : Nat := l.foldl max 0
theorem mx_ge : ∀ {l : List Nat} {a : Nat}, (∀ x ∈ l, x ≤ l.foldl max a) ∧ a ≤ l.foldl max a
  | [], a => ⟨fun x h => (by cases h), Nat.le_refl _⟩
  | y :: l, a => by
    obtain ⟨h1, h2⟩ := mx_ge (l := l) (a := max a y)
    refine ⟨fun x hx => ?_, Nat.le_trans (Nat.le_max_left a y) h2⟩
    rcases List.mem_cons.mp hx with e | e
    · rw [e]; exact Nat.le_trans (Nat.le_max_right a y) h2
    · exact h1 x e
/-- the desks whose superiors are of the group at d -/
def feed (os : List Nat) (d : Nat) : List Nat := (List.range' 1 os.length).filter fun x => decide (sup os x ∈ d :: ok1 os d)
/-- the table when k desks are done, from the last one on -/
def lvT (os : List Nat) : Nat → List Nat
  | 0 => List.replicate (os.length + 1) 0
  | k + 1 => if ok1 os (os.length - k) = [] then lvT os k else (lvT os k).set (os.length - k) (1 + mx ((feed os (os.length - k)).map fun x => (lvT os k).getD x 0))
section
variable {os : List Nat}
theorem lvT_len : ∀ k, (lvT os k).length = os.length + 1
  | 0 => List.length_replicate
  | k + 1 => by
    show (if _ then _ else _ : List Nat).length = _
    split
    · exact lvT_len k
    · rw [List.length_set]; exact lvT_len k
theorem g_inN {s : Nat} {u : List Nat} : gInT false (.int (s : Nat)) (.list (nts u)) = some (.bool (decide (s ∈ u))) := by
  show (if flatD (.int (s : Nat)) = true ∧ (nts u).all flatD = true then some (PyData.bool (if false = true then !inD (.int (s : Nat)) (nts u) else inD (.int (s : Nat)) (nts u))) else none) = _
  rw [if_pos ⟨rfl, flat_nts⟩, inD_nts]
  rfl
theorem setI_nts {l : List Nat} {i s : Nat} (h : i < l.length) : setI (nts l) (.int (i : Nat)) (.int (s : Nat)) = some (nts (l.set i s)) := by
  show (if 0 ≤ ((i : Nat) : Int) ∧ ((i : Nat) : Int) < (nts l).length then some ((nts l).set ((i : Nat) : Int).toNat (.int (s : Nat))) else none) = _
  rw [if_pos (by rw [nts_len]; omega), Int.toNat_natCast]
  unfold nts
  rw [List.map_set]
end
end Ds
end
section
set_option Elab.async false
set_option linter.all false
set_option maxRecDepth 100000
set_option maxHeartbeats 1000000
open PySem PySem.Spec PyProof.Rows L2
namespace Ds
section
variable {os : List Nat}
theorem loop_nxP {g : GT} {b : SS} {d : PyData} {ds : List PyData} {S S1 S2 : En} (h1 : g d S = .nx S1) (h2 : b S1 = .nx S2) : loopL g b (d :: ds) S = loopL g b ds S2 := by
  rw [loopL, h1]
  show (match b S1 with | .nx S2 => loopL g b ds S2 | .ct S2 => loopL g b ds S2 | .bk S2 => .nx S2 | r => r) = _
  rw [h2]
end
end Ds
end
section
set_option Elab.async false
set_option linter.all false
set_option maxRecDepth 100000
set_option maxHeartbeats 1000000
open PySem PySem.Spec PyProof.Rows L2
namespace Ds
def sw (os m : List Nat) (d : Nat) : List Nat := if 0 < d then (m.set d (m.getD (os.getD (d - 1) 0) 0)).set (os.getD (d - 1) 0) (m.getD d 0) else m
def dueF (os : List Nat) : List Nat → List Nat → List Nat → Nat → Nat ⊕ List Nat
  | [], _, f, _ => .inr f
  | d :: ds, m, f, i => if m.getD d 0 ∈ f then .inl i else dueF os ds (sw os m d) (f ++ [m.getD d 0]) (i + 1)
theorem sw_len {os m : List Nat} {d : Nat} : (sw os m d).length = m.length := by
  unfold sw
  split <;> simp
def enF : List Nat → Nat → List PyData
  | [], _ => []
  | d :: ds, i => .tuple [.int ((i : Nat) : Int), .int ((d : Nat) : Int)] :: enF ds (i + 1)
theorem enF_get : ∀ {ds : List Nat} {i k : Nat}, (enF ds i)[k]? = (ds[k]?).map fun d => PyData.tuple [.int ((i + k : Nat) : Int), .int ((d : Nat) : Int)]
  | [], i, k => by simp [enF]
  | d :: ds, i, 0 => by simp [enF]
  | d :: ds, i, k + 1 => by
    show (enF ds (i + 1))[k]? = _
    rw [enF_get, List.getElem?_cons_succ, show i + 1 + k = i + (k + 1) by omega]
theorem enF_eq {ds : List Nat} : enumD (nts ds) = enF ds 0 := by
  apply List.ext_getElem?
  intro k
  rw [enF_get]
  by_cases hk : k < ds.length
  · obtain ⟨z, hz⟩ : ∃ z, (enumD (nts ds))[k]? = some z := ⟨_, List.getElem?_eq_getElem (by rw [enumD_len, nts_len]; exact hk)⟩
    obtain ⟨x, hx, rfl⟩ := enumD_get hz
    rw [nts_get, List.getElem?_eq_getElem hk] at hx
    cases hx
    rw [hz, List.getElem?_eq_getElem hk, Nat.zero_add]
    rfl
  · rw [List.getElem?_eq_none (by rw [enumD_len, nts_len]; omega), List.getElem?_eq_none (by omega)]
    rfl
def LoopR (c : Nat → RS → Prop) (X : RS) (N : List Nat → En → Prop) : Nat ⊕ List Nat → Prop
  | .inl k => c k X
  | .inr f => ∃ S', N f S' ∧ X = .nx S'
theorem nts_app {f : List Nat} {v : Nat} : nts f ++ [.int ((v : Nat) : Int)] = nts (f ++ [v]) := by simp [nts]
def g_u : GT := gTp (gNC (gNm 4) (gNC (gNm 5) gN0))
def q_u1 : SS := sIf (sTst (sInN false (sIxV 2 (sVar 5)) (sLVar 3))) (sRet (sVar 4)) sNx
def q_u2 : SS := sDrop (sAppend 3 (sIxV 2 (sVar 5)))
def q_u3a : SS := sSet 6 (sBin gIx (sVar 0) (sBin gSub_ (sVar 5) (sK (.int 1))))
def q_u3b : SS := sAsg (gTp (gNC (gSubI 2 (sVar 5)) (gNC (gSubI 2 (sVar 6)) gN0))) (sTup (sCons (sIxV 2 (sVar 6)) (sCons (sIxV 2 (sVar 5)) sNil)))
def q_u3 : SS := sIf (sTst (sBin gGt (sVar 5) (sK (.int 0)))) (sSeq q_u3a q_u3b) sNx
def q_ubd : SS := sSeq q_u1 (sSeq q_u2 q_u3)
def q_u0 : SS := sPar 2 3 (sLstRg (sBin gAdd (sCallB gLen (sCons (sVar 0) sNil)) (sK (.int 1)))) (sLst sNil)
theorem c_due_eq : c__law_dueP = sSeq q_u0 (sSeq (sFor (sIEnL (sCons (sVar 1) sNil)) g_u q_ubd) (sFrz 3 (sRet (sVar 3)))) := rfl
section
variable {s0 s1 s2 s3 s4 s5 s6 s7 : Sl} {L F O : List PyData} {v w z : PyData} {d i : Int}
theorem t_u1t (a : atI L d = some v) (g : gInT false v (.list F) = some (.bool true)) : q_u1 [s0, s1, .own L, .own F, .val (.int i), .val (.int d), s6] = .rt (.val (.int i)) [s0, s1, .own L, .own F, .val (.int i), .val (.int d), s6] := by simp [q_u1, a, g]
theorem t_u1f (a : atI L d = some v) (g : gInT false v (.list F) = some (.bool false)) : q_u1 [s0, s1, .own L, .own F, .val (.int i), .val (.int d), s6] = .nx [s0, s1, .own L, .own F, .val (.int i), .val (.int d), s6] := by simp [q_u1, a, g]
theorem t_u2 (a : atI L d = some v) (hF : F.length < 1000000) : q_u2 [s0, s1, .own L, .own F, s4, .val (.int d), s6] = .nx [s0, s1, .own L, .own (F ++ [v]), s4, .val (.int d), s6] := by
  have h : F.length < 16777216 := by omega
  simp [q_u2, a, h, sizeLine]
theorem t_u3a (a : atI O (d - 1) = some v) (h6 : noio (some s6) = true) : q_u3a [.val (.tuple O), s1, s2, s3, s4, .val (.int d), s6] = .nx [.val (.tuple O), s1, s2, s3, s4, .val (.int d), .val v] := by simp [q_u3a, a, h6]
theorem t_u3b {b : Int} {L1 L2 : List PyData} (a : atI L d = some v) (e : atI L b = some w) (e1 : setI L (.int d) w = some L1) (e2 : setI L1 (.int b) v = some L2) : q_u3b [s0, s1, .own L, s3, s4, .val (.int d), .val (.int b)] = .nx [s0, s1, .own L2, s3, s4, .val (.int d), .val (.int b)] := by
  simp [q_u3b, sAsg, a, e, e1, e2, sizeLine, gTp, gNC, R.st]
theorem t_gu (h4 : bare (some s4) = true) (h5 : bare (some s5) = true) : g_u (.tuple [v, w]) [s0, s1, s2, s3, s4, s5, s6] = .nx [s0, s1, s2, s3, .val v, .val w, s6] := by
  simp [g_u, gTp, gNC, gN0, h4, h5]
end
section
variable {os m f ds : List Nat} {d i : Nat}
theorem due_loop (h : Off os) {x1 : Sl} : ∀ {ds m f : List Nat} {i : Nat} {x4 x5 x6 : Sl}, (∀ d ∈ ds, d ≤ os.length) → m.length = os.length + 1 → f.length + ds.length ≤ 1000 → bare (some x4) = true → bare (some x5) = true → bare (some x6) = true →
    LoopR (fun k X => ∃ S', X = .rt (.val (.int ((k : Nat) : Int))) S') (loopL g_u q_ubd (enF ds i) [vO os, x1, .own (nts m), .own (nts f), x4, x5, x6]) (fun f' S' => ∃ m' y4 y5 y6, S' = [vO os, x1, .own (nts m'), .own (nts f'), y4, y5, y6]) (dueF os ds m f i)
  | [], m, f, i, x4, x5, x6, hd, hm, hf, b4, b5, b6 => ⟨_, ⟨m, x4, x5, x6, rfl⟩, rfl⟩
  | d :: ds, m, f, i, x4, x5, x6, hd, hm, hf, b4, b5, b6 => by
    have hd0 := hd d List.mem_cons_self
    rw [List.length_cons] at hf
    have e0 := t_gu (s0 := vO os) (s1 := x1) (s2 := .own (nts m)) (s3 := .own (nts f)) (s6 := x6) (v := .int ((i : Nat) : Int)) (w := .int ((d : Nat) : Int)) b4 b5
    have a := nts_atN (l := m) (k := d) (by omega)
    show LoopR _ (loopL g_u q_ubd (.tuple [.int ((i : Nat) : Int), .int ((d : Nat) : Int)] :: enF ds (i + 1)) _) _ _
    by_cases q : m.getD d 0 ∈ f
    · have g : gInT false (.int ((m.getD d 0 : Nat) : Int)) (.list (nts f)) = some (.bool true) := by rw [g_inN, decide_eq_true q]
      rw [dueF, if_pos q]
      refine ⟨[vO os, x1, .own (nts m), .own (nts f), .val (.int ((i : Nat) : Int)), .val (.int ((d : Nat) : Int)), x6], ?_⟩
      rw [loopL, e0]
      show (match q_ubd [vO os, x1, .own (nts m), .own (nts f), .val (.int ((i : Nat) : Int)), .val (.int ((d : Nat) : Int)), x6] with | .nx S2 => loopL g_u q_ubd (enF ds (i + 1)) S2 | .ct S2 => loopL g_u q_ubd (enF ds (i + 1)) S2 | .bk S2 => .nx S2 | r => r) = _
      rw [q_ubd, r_sSeq, t_u1t a g]
      rfl
    · have g : gInT false (.int ((m.getD d 0 : Nat) : Int)) (.list (nts f)) = some (.bool false) := by rw [g_inN, decide_eq_false q]
      rw [dueF, if_neg q]
      have s2 := t_u2 (s0 := vO os) (s1 := x1) (s4 := .val (.int ((i : Nat) : Int))) (s6 := x6) (F := nts f) a (by rw [nts_len]; omega)
      rw [nts_app] at s2
      by_cases h0 : 0 < d
      · have u := off_at h (d := d) h0 hd0
        have eb : sw os m d = (m.set d (m.getD (os.getD (d - 1) 0) 0)).set (os.getD (d - 1) 0) (m.getD d 0) := if_pos h0
        have s3 := t_u3a (s1 := x1) (s2 := .own (nts m)) (s3 := .own (nts (f ++ [m.getD d 0]))) (s4 := .val (.int ((i : Nat) : Int))) u.1 (noio_bare b6)
        have ub := u.2
        generalize os.getD (d - 1) 0 = b at *
        have e := nts_atN (l := m) (k := b) (by omega)
        have s4 := t_u3b (s0 := vO os) (s1 := x1) (s3 := .own (nts (f ++ [m.getD d 0]))) (s4 := .val (.int ((i : Nat) : Int))) a e (setI_nts (s := m.getD b 0) (i := d) (by omega)) (setI_nts (s := m.getD d 0) (i := b) (by rw [List.length_set]; omega))
        rw [← eb] at s4
        have tt : sTst (sBin gGt (sVar 5) (sK (.int 0))) [vO os, x1, .own (nts m), .own (nts (f ++ [m.getD d 0])), .val (.int ((i : Nat) : Int)), .val (.int ((d : Nat) : Int)), x6] = .ok true [vO os, x1, .own (nts m), .own (nts (f ++ [m.getD d 0])), .val (.int ((i : Nat) : Int)), .val (.int ((d : Nat) : Int)), x6] := by
          simp; omega
        rw [loop_nxP e0 (show q_ubd _ = .nx [vO os, x1, .own (nts (sw os m d)), .own (nts (f ++ [m.getD d 0])), .val (.int ((i : Nat) : Int)), .val (.int ((d : Nat) : Int)), .val (.int ((b : Nat) : Int))] from by
          rw [q_ubd, r_sSeq, t_u1f a g, sq_nx, r_sSeq, s2, sq_nx, q_u3, r_sIf, tt, stt_ok, if_pos rfl, r_sSeq, s3, sq_nx, s4])]
        exact due_loop h (fun z hz => hd z (List.mem_cons_of_mem _ hz)) (by rw [sw_len]; exact hm) (by simp; omega) rfl rfl rfl
      · have eb : sw os m d = m := if_neg h0
        have tt : sTst (sBin gGt (sVar 5) (sK (.int 0))) [vO os, x1, .own (nts m), .own (nts (f ++ [m.getD d 0])), .val (.int ((i : Nat) : Int)), .val (.int ((d : Nat) : Int)), x6] = .ok false [vO os, x1, .own (nts m), .own (nts (f ++ [m.getD d 0])), .val (.int ((i : Nat) : Int)), .val (.int ((d : Nat) : Int)), x6] := by
          simp; omega
        rw [eb, loop_nxP e0 (show q_ubd _ = .nx [vO os, x1, .own (nts m), .own (nts (f ++ [m.getD d 0])), .val (.int ((i : Nat) : Int)), .val (.int ((d : Nat) : Int)), x6] from by
          rw [q_ubd, r_sSeq, t_u1f a g, sq_nx, r_sSeq, s2, sq_nx, q_u3, r_sIf, tt, stt_ok, if_neg (by decide)]; rfl)]
        exact due_loop h (fun z hz => hd z (List.mem_cons_of_mem _ hz)) hm (by simp; omega) rfl rfl b6
theorem rng_nts {n : Nat} : rng 0 ((n : Nat) : Int) = nts (List.range n) := by
  unfold rng nts
  rw [show (((n : Nat) : Int) - 0).toNat = n by omega]
  refine List.map_congr_left fun i _ => ?_
  rw [Int.zero_add]
/-- what is found, as data -/
def dueD : Nat ⊕ List Nat → PyData
  | .inl k => .int ((k : Nat) : Int)
  | .inr f => .list (nts f)
abbrev due (os ds : List Nat) : Nat ⊕ List Nat := dueF os ds (List.range (os.length + 1)) [] 0
theorem t_u0' {x1 : Sl} {O R : List PyData} {n : Int} (hn : (O.length : Int) + 1 = n) (h1 : 0 ≤ n) (h2 : n ≤ 16777216) (e : rng 0 n = R) : q_u0 [.val (.tuple O), x1, .nil, .nil, .nil, .nil, .nil] = .nx [.val (.tuple O), x1, .own R, .own [], .nil, .nil, .nil] := by
  simp [q_u0, hn, h1, h2, e, sizeLine]
theorem t_u0 {x1 : Sl} (h : os.length ≤ 39) : q_u0 [vO os, x1, .nil, .nil, .nil, .nil, .nil] = .nx [vO os, x1, .own (nts (List.range (os.length + 1))), .own [], .nil, .nil, .nil] :=
  t_u0' (n := ((os.length + 1 : Nat) : Int)) (by rw [nts_len]; omega) (by omega) (by omega) rng_nts
theorem law_due (h : Off os) {ds : List Nat} (hd : ∀ d ∈ ds, d ≤ os.length) (hl : ds.length ≤ 40) : ∃ T, m__law_dueP [vO os, .val (.list (nts ds))] = .ok (.val (dueD (due os ds))) T := by
  have lp := due_loop h (x1 := .val (.list (nts ds))) (ds := ds) (m := List.range (os.length + 1)) (f := []) (i := 0) (x4 := .nil) (x5 := .nil) (x6 := .nil) hd (by simp) (by simp; omega) rfl rfl rfl
  have hE : sIEnL (sCons (sVar 1) sNil) [vO os, .val (.list (nts ds)), .own (nts (List.range (os.length + 1))), .own [], .nil, .nil, .nil] = .ok (enF ds 0) [vO os, .val (.list (nts ds)), .own (nts (List.range (os.length + 1))), .own [], .nil, .nil, .nil] := by
    rw [← enF_eq]; generalize nts ds = D; simp
  rw [m__law_dueP, r_mB]
  show ∃ T, (c__law_dueP [vO os, .val (.list (nts ds)), .nil, .nil, .nil, .nil, .nil]).fin = _
  rw [c_due_eq, r_sSeq, t_u0 h.1, sq_nx, r_sSeq, r_sFor, hE, stt_ok]
  change LoopR _ (loopL g_u q_ubd (enF ds 0) [vO os, .val (.list (nts ds)), .own (nts (List.range (os.length + 1))), .own [], .nil, .nil, .nil]) _ (due os ds) at lp
  cases e : due os ds with
  | inl k =>
    rw [e] at lp
    obtain ⟨S', e1⟩ := lp
    exact ⟨S', by rw [e1]; rfl⟩
  | inr f =>
    rw [e] at lp
    obtain ⟨S', ⟨m', y4, y5, y6, rfl⟩, e1⟩ := lp
    refine ⟨[vO os, .val (.list (nts ds)), .own (nts m'), .val (.list (nts f)), y4, y5, y6], ?_⟩
    rw [e1, sq_nx]
    simp [dueD]
end
end Ds
end
section
set_option Elab.async false
set_option linter.all false
set_option maxRecDepth 100000
set_option maxHeartbeats 1000000
open PySem PySem.Spec PyProof.Rows L2
namespace Ds
def dayF (os : List Nat) : List Str → List Str → List Nat
  | [], _ => []
  | x :: xs, p => p.idxOf x :: dayF os xs (callS os p x)
theorem dayF_len {os : List Nat} : ∀ {xs p : List Str}, (dayF os xs p).length = xs.length
  | [], p => rfl
  | x :: xs, p => by rw [dayF, List.length_cons, List.length_cons, dayF_len]
def q_d0 : SS := sPar 4 5 (sListN (sCons (sVar 1) sNil)) (sLst sNil)
def q_d1 : SS := sSet 6 (sLixV 4 (sVar 3))
def q_d2 : SS := sDrop (sAppend 5 (sVar 6))
def q_d3a : SS := sSet 7 (sBin gIx (sVar 0) (sBin gSub_ (sVar 6) (sK (.int 1))))
def q_d3b : SS := sAsg (gTp (gNC (gSubI 4 (sVar 6)) (gNC (gSubI 4 (sVar 7)) gN0))) (sTup (sCons (sIxV 4 (sVar 7)) (sCons (sVar 3) sNil)))
def q_d3 : SS := sIf (sTst (sBin gGt (sVar 6) (sK (.int 0)))) (sSeq q_d3a q_d3b) sNx
def q_db : SS := sSeq q_d1 (sSeq q_d2 q_d3)
theorem c_day42_eq : c__law_dayP = sSeq q_d0 (sSeq (sFor (sISq (sVar 2)) (gNm 3) q_db) (sRetOwn 5)) := rfl
section
variable {s0 s1 s2 s3 s4 s5 s6 s7 : Sl} {L F O : List PyData} {v w x : PyData} {d : Int}
theorem t_d0 {A : List PyData} (l1 : A.length ≤ 16777216) : q_d0 [s0, .val (.tuple A), s2, .nil, .nil, .nil, .nil, .nil] = .nx [s0, .val (.tuple A), s2, .nil, .own A, .own [], .nil, .nil] := by simp [q_d0, l1, sizeLine]
theorem t_d1 (g : gLIx L x = some v) (h6 : noio (some s6) = true) : q_d1 [s0, s1, s2, .val x, .own L, s5, s6, s7] = .nx [s0, s1, s2, .val x, .own L, s5, .val v, s7] := by simp [q_d1, g, h6]
theorem t_d2 (hF : F.length < 1000000) : q_d2 [s0, s1, s2, s3, s4, .own F, .val v, s7] = .nx [s0, s1, s2, s3, s4, .own (F ++ [v]), .val v, s7] := by
  have h : F.length < 16777216 := by omega
  simp [q_d2, h, sizeLine]
theorem t_d3a (a : atI O (d - 1) = some v) (h7 : noio (some s7) = true) : q_d3a [.val (.tuple O), s1, s2, s3, s4, s5, .val (.int d), s7] = .nx [.val (.tuple O), s1, s2, s3, s4, s5, .val (.int d), .val v] := by simp [q_d3a, a, h7]
theorem t_d3b {b : Int} {L1 L2 : List PyData} (e : atI L b = some w) (e1 : setI L (.int d) w = some L1) (e2 : setI L1 (.int b) x = some L2) : q_d3b [s0, s1, s2, .val x, .own L, s5, .val (.int d), .val (.int b)] = .nx [s0, s1, s2, .val x, .own L2, s5, .val (.int d), .val (.int b)] := by
  simp [q_d3b, sAsg, e, e1, e2, sizeLine, gTp, gNC, R.st]
end
section
variable {os : List Nat} {ss ord : List Str}
theorem day42_loop {x1 x2 : Sl} : ∀ {names p : List Str} {f : List Nat} {x3 x6 x7 : Sl}, Case os p ord → (∀ s ∈ names, s ∈ p) → f.length + names.length ≤ 1000 → bare (some x3) = true → bare (some x6) = true → bare (some x7) = true →
    ∃ p' y3 y6 y7, loopL (gNm 3) q_db (sts names) [vO os, x1, x2, x3, .own (sts p), .own (nts f), x6, x7] = .nx [vO os, x1, x2, y3, .own (sts p'), .own (nts (f ++ dayF os names p)), y6, y7]
  | [], p, f, x3, x6, x7, _, _, _, _, _, _ => ⟨p, x3, x6, x7, by rw [dayF, List.append_nil]; rfl⟩
  | s :: names, p, f, x3, x6, x7, c, h, hf, b3, b6, b7 => by
    have hs := h s List.mem_cons_self
    have hl := c.len
    have li := idx_lt hs
    rw [List.length_cons] at hf
    obtain ⟨c1, m1⟩ := c.call hs
    have hn : ∀ z ∈ names, z ∈ callS os p s := fun z hz => (m1 z).mpr (h z (List.mem_cons_of_mem _ hz))
    have e0 : gNm 3 (.str s) [vO os, x1, x2, x3, .own (sts p), .own (nts f), x6, x7] = .nx [vO os, x1, x2, .val (.str s), .own (sts p), .own (nts f), x6, x7] := by simp [b3]
    have e1 := t_d1 (s0 := vO os) (s1 := x1) (s2 := x2) (s5 := .own (nts f)) (s7 := x7) (g_lix hs) (noio_bare b6)
    have e2 := t_d2 (s0 := vO os) (s1 := x1) (s2 := x2) (s3 := .val (.str s)) (s4 := .own (sts p)) (s7 := x7) (F := nts f) (v := .int ((p.idxOf s : Nat) : Int)) (by rw [nts_len]; omega)
    rw [nts_app] at e2
    rw [dayF]
    show ∃ p' y3 y6 y7, loopL (gNm 3) q_db (.str s :: sts names) _ = _
    by_cases h0 : 0 < p.idxOf s
    · have u := off_at c.off (d := p.idxOf s) h0 (by omega)
      have ec : callS os p s = (p.set (p.idxOf s) (nmAt p (os.getD (p.idxOf s - 1) 0))).set (os.getD (p.idxOf s - 1) 0) s := if_pos h0
      have e3 := t_d3a (s1 := x1) (s2 := x2) (s3 := .val (.str s)) (s4 := .own (sts p)) (s5 := .own (nts (f ++ [p.idxOf s]))) u.1 (noio_bare b7)
      have ub := u.2
      generalize os.getD (p.idxOf s - 1) 0 = b at *
      have e4 := t_d3b (s0 := vO os) (s1 := x1) (s2 := x2) (x := .str s) (s5 := .own (nts (f ++ [p.idxOf s]))) (sts_at (ss := p) (t := b) (by omega)) (setI_sts (l := p) (s := nmAt p b) li) (setI_sts (l := p.set (p.idxOf s) (nmAt p b)) (i := b) (s := s) (by rw [List.length_set]; omega))
      rw [← ec] at e4
      have tt : sTst (sBin gGt (sVar 6) (sK (.int 0))) [vO os, x1, x2, .val (.str s), .own (sts p), .own (nts (f ++ [p.idxOf s])), .val (.int ((p.idxOf s : Nat) : Int)), x7] = .ok true [vO os, x1, x2, .val (.str s), .own (sts p), .own (nts (f ++ [p.idxOf s])), .val (.int ((p.idxOf s : Nat) : Int)), x7] := by
        simp; omega
      obtain ⟨p', y3, y6, y7, e⟩ := day42_loop (x1 := x1) (x2 := x2) (names := names) (f := f ++ [p.idxOf s]) (x3 := .val (.str s)) (x6 := .val (.int ((p.idxOf s : Nat) : Int))) (x7 := .val (.int ((b : Nat) : Int))) c1 hn (by simp; omega) rfl rfl rfl
      refine ⟨p', y3, y6, y7, ?_⟩
      rw [loop_nxP e0 (show q_db _ = .nx [vO os, x1, x2, .val (.str s), .own (sts (callS os p s)), .own (nts (f ++ [p.idxOf s])), .val (.int ((p.idxOf s : Nat) : Int)), .val (.int ((b : Nat) : Int))] from by
        rw [q_db, r_sSeq, e1, sq_nx, r_sSeq, e2, sq_nx, q_d3, r_sIf, tt, stt_ok, if_pos rfl, r_sSeq, e3, sq_nx, e4]), e, List.append_assoc]
      rfl
    · have ec : callS os p s = p := if_neg h0
      have tt : sTst (sBin gGt (sVar 6) (sK (.int 0))) [vO os, x1, x2, .val (.str s), .own (sts p), .own (nts (f ++ [p.idxOf s])), .val (.int ((p.idxOf s : Nat) : Int)), x7] = .ok false [vO os, x1, x2, .val (.str s), .own (sts p), .own (nts (f ++ [p.idxOf s])), .val (.int ((p.idxOf s : Nat) : Int)), x7] := by
        simp; omega
      obtain ⟨p', y3, y6, y7, e⟩ := day42_loop (x1 := x1) (x2 := x2) (names := names) (f := f ++ [p.idxOf s]) (x3 := .val (.str s)) (x6 := .val (.int ((p.idxOf s : Nat) : Int))) (x7 := x7) c1 hn (by simp; omega) rfl rfl b7
      refine ⟨p', y3, y6, y7, ?_⟩
      rw [ec] at e ⊢
      rw [loop_nxP e0 (show q_db _ = .nx [vO os, x1, x2, .val (.str s), .own (sts p), .own (nts (f ++ [p.idxOf s])), .val (.int ((p.idxOf s : Nat) : Int)), x7] from by
        rw [q_db, r_sSeq, e1, sq_nx, r_sSeq, e2, sq_nx, q_d3, r_sIf, tt, stt_ok, if_neg (by decide)]; rfl), e, List.append_assoc]
      rfl
theorem law_day42 (c : Case os ss ord) : ∃ T, m__law_dayP [vO os, vS ss, vS ord] = .ok (.own (nts (dayF os ord ss))) T := by
  have hs := c.small
  obtain ⟨p', y3, y6, y7, e⟩ := day42_loop (x1 := vS ss) (x2 := vS ord) (names := ord) (f := []) (x3 := .nil) (x6 := .nil) (x7 := .nil) c c.osub (by have := c.osmall; simp; omega) rfl rfl rfl
  refine ⟨[vO os, vS ss, vS ord, y3, .own (sts p'), .own (nts (dayF os ord ss)), y6, y7], ?_⟩
  rw [m__law_dayP, r_mB]
  show (c__law_dayP [vO os, vS ss, vS ord, .nil, .nil, .nil, .nil, .nil]).fin = _
  have l1 : (sts ss).length ≤ 16777216 := by rw [sts_len]; omega
  have s1 : q_d0 [vO os, vS ss, vS ord, .nil, .nil, .nil, .nil, .nil] = .nx [vO os, vS ss, vS ord, .nil, .own (sts ss), .own [], .nil, .nil] := by
    exact t_d0 l1
  have s2 : sISq (sVar 2) [vO os, vS ss, vS ord, .nil, .own (sts ss), .own [], .nil, .nil] = .ok (sts ord) [vO os, vS ss, vS ord, .nil, .own (sts ss), .own [], .nil, .nil] := by simp
  have e' : loopL (gNm 3) q_db (sts ord) [vO os, vS ss, vS ord, .nil, .own (sts ss), .own [], .nil, .nil] = .nx [vO os, vS ss, vS ord, y3, .own (sts p'), .own (nts ([] ++ dayF os ord ss)), y6, y7] := e
  rw [c_day42_eq, r_sSeq, s1, sq_nx, r_sSeq, r_sFor, s2, stt_ok, e', sq_nx, List.nil_append]
  generalize nts (dayF os ord ss) = D
  simp
theorem nmAt_idx {l : List Str} (h : l.Nodup) {i : Nat} (hi : i < l.length) : l.idxOf (nmAt l i) = i := by
  have e : nmAt l i = l[i] := by
    have := nmAt_get (ss := l) hi
    rw [List.getElem?_eq_getElem hi] at this
    exact (Option.some.inj this).symm
  rw [e]
  exact h.idxOf_getElem i hi
theorem nmAt_map {ss : List Str} {m : List Nat} {i : Nat} (hi : i < m.length) : nmAt (m.map (nmAt ss)) i = nmAt ss (m.getD i 0) := by
  have e := nmAt_get (ss := m.map (nmAt ss)) (t := i) (by rw [List.length_map]; exact hi)
  rw [List.getElem?_map, List.getElem?_eq_getElem hi] at e
  rw [← Option.some.inj e]
  simp [List.getD, List.getElem?_eq_getElem hi]
theorem sw_mem {m : List Nat} {d n : Nat} (hm : ∀ x ∈ m, x < n) (hn : 0 < n) : ∀ x ∈ sw os m d, x < n := by
  have g : ∀ i, m.getD i 0 < n := fun i => by
    by_cases hi : i < m.length
    · have e : m.getD i 0 = m[i] := by simp [List.getD, List.getElem?_eq_getElem hi]
      rw [e]; exact hm _ (List.getElem_mem hi)
    · have e : m.getD i 0 = 0 := by simp [List.getD, List.getElem?_eq_none (show m.length ≤ i by omega)]
      rw [e]; exact hn
  intro x hx
  unfold sw at hx
  split at hx
  · rcases List.mem_or_eq_of_mem_set hx with q | rfl
    · rcases List.mem_or_eq_of_mem_set q with q | rfl
      · exact hm x q
      · exact g _
    · exact g _
  · exact hm x hx
theorem day_due (hss : ss.Nodup) : ∀ {names p : List Str} {m f : List Nat} {i : Nat}, Case os p ord → p = m.map (nmAt ss) → (∀ x ∈ m, x < ss.length) → (∀ s ∈ names, s ∈ p) → names.Nodup → (∀ s ∈ names, ss.idxOf s ∉ f) → dueF os (dayF os names p) m f i = .inr (f ++ names.map fun s => ss.idxOf s)
  | [], p, m, f, i, _, _, _, _, _, _ => by simp [dayF, dueF]
  | s :: names, p, m, f, i, c, ep, hm, h, nd, hf => by
    have hs := h s List.mem_cons_self
    have li := idx_lt hs
    have hl := c.len
    have pl : p.length = m.length := by rw [ep, List.length_map]
    obtain ⟨c1, m1⟩ := c.call hs
    obtain ⟨nd1, nd2⟩ := List.nodup_cons.mp nd
    have ed : m.getD (p.idxOf s) 0 = ss.idxOf s := by
      have e1 : nmAt p (p.idxOf s) = s := nm_idx hs
      have hd : m.getD (p.idxOf s) 0 < ss.length := by
        have hi : p.idxOf s < m.length := by omega
        have e : m.getD (p.idxOf s) 0 = m[p.idxOf s] := by simp [List.getD, List.getElem?_eq_getElem hi]
        rw [e]; exact hm _ (List.getElem_mem hi)
      have e2 : nmAt p (p.idxOf s) = nmAt ss (m.getD (p.idxOf s) 0) := by
        have := nmAt_map (ss := ss) (m := m) (i := p.idxOf s) (by omega)
        rw [← ep] at this
        exact this
      rw [e1] at e2
      have e3 := nmAt_idx hss hd
      rw [← e2] at e3
      exact e3.symm
    rw [dayF, dueF, ed, if_neg (hf s List.mem_cons_self)]
    have ep' : callS os p s = (sw os m (p.idxOf s)).map (nmAt ss) := by
      unfold callS sw
      by_cases h0 : 0 < p.idxOf s
      · rw [if_pos h0, if_pos h0]
        have u := off_at c.off (d := p.idxOf s) h0 (by omega)
        have ub := u.2
        generalize os.getD (p.idxOf s - 1) 0 = b at *
        have e2 := nmAt_map (ss := ss) (m := m) (i := b) (by omega)
        rw [← ep] at e2
        have e3 : nmAt ss (ss.idxOf s) = s := by
          have e4 : nmAt p (p.idxOf s) = nmAt ss (m.getD (p.idxOf s) 0) := by
            have := nmAt_map (ss := ss) (m := m) (i := p.idxOf s) (by omega)
            rw [← ep] at this
            exact this
          rw [nm_idx hs, ed] at e4
          exact e4.symm
        rw [e2, ed, List.map_set, List.map_set, e3, ← ep]
      · rw [if_neg h0, if_neg h0]; exact ep
    have ih := day_due hss (names := names) (p := callS os p s) (m := sw os m (p.idxOf s)) (f := f ++ [ss.idxOf s]) (i := i + 1) c1 ep' (sw_mem hm (Nat.lt_of_le_of_lt (Nat.zero_le _) (hm _ (List.getElem_mem (show p.idxOf s < m.length by omega))))) (fun z hz => (m1 z).mpr (h z (List.mem_cons_of_mem _ hz))) nd2 fun z hz => by
      rw [List.mem_append, List.mem_singleton]
      rintro (q | q)
      · exact hf z (List.mem_cons_of_mem _ hz) q
      · have zs : z ∈ ss := by
          have zp := h z (List.mem_cons_of_mem _ hz)
          rw [ep] at zp
          obtain ⟨k, hk, rfl⟩ := List.mem_map.mp zp
          have := nmAt_get (ss := ss) (hm k hk)
          exact List.mem_of_getElem? this
        have ss' : s ∈ ss := by
          rw [ep] at hs
          obtain ⟨k, hk, rfl⟩ := List.mem_map.mp hs
          have := nmAt_get (ss := ss) (hm k hk)
          exact List.mem_of_getElem? this
        exact nd1 ((idx_inj zs ss' q) ▸ hz)
    rw [ih, List.map_cons, List.append_assoc]
    rfl
theorem due_day (c : Case os ss ord) : due os (dayF os ord ss) = .inr (ord.map fun s => ss.idxOf s) := by
  have hl := c.len
  have e : ss = (List.range (os.length + 1)).map (nmAt ss) := by
    apply List.ext_getElem?
    intro i
    rw [List.getElem?_map]
    by_cases hi : i < os.length + 1
    · rw [List.getElem?_range hi, nmAt_get (ss := ss) (by omega)]; rfl
    · rw [List.getElem?_eq_none (by omega), List.getElem?_eq_none (by rw [List.length_range]; omega)]; rfl
  have := day_due (m := List.range (os.length + 1)) (f := []) (i := 0) c.nd c e (fun x hx => by rw [hl]; exact List.mem_range.mp hx) c.osub c.ond fun _ _ => List.not_mem_nil
  rw [List.nil_append] at this
  exact this
theorem dayF_lt : ∀ {names p : List Str}, Case os p ord → (∀ s ∈ names, s ∈ p) → ∀ d ∈ dayF os names p, d ≤ os.length
  | [], p, _, _, d, hd => by cases hd
  | s :: names, p, c, h, d, hd => by
    have hs := h s List.mem_cons_self
    obtain ⟨c1, m1⟩ := c.call hs
    rw [dayF] at hd
    rcases List.mem_cons.mp hd with rfl | q
    · have := idx_lt hs; have := c.len; omega
    · exact dayF_lt c1 (fun z hz => (m1 z).mpr (h z (List.mem_cons_of_mem _ hz))) d q
end
end Ds
end
section
set_option Elab.async false
set_option linter.all false
set_option maxRecDepth 100000
set_option maxHeartbeats 1000000
open PySem PySem.Spec PyProof.Rows L2
namespace Ds
def q_np : SS := sIf (sOr (sNot (sTst (sCallV m_are_different_names (sGv (sVar 1) sG0)))) (sTst (sBin gGt (sCallB gLen (sCons (sVar 1) sNil)) (sBin gAdd (sCallB gLen (sCons (sVar 0) sNil)) (sK (.int 1)))))) sStop sNx
def q_nd1 : SS := sIf (sOr (sNot (sTst (sIsi "tuple" (sVar 2)))) (sTst (sBin gNe (sCallB gLen (sCons (sVar 2) sNil)) (sCallB gLen (sCons (sVar 1) sNil))))) sStop sNx
def q_ndl : SN := sLc (sISq (sVar 2)) (gNm 3) sYes (sCallV m_is_number (sGv (sVar 3) (sGv (sK (.int 0)) (sGv (sCallB gLen (sCons (sVar 0) sNil)) sG0)))) [3]
def q_nd2 : SS := sIf (sNot (sTst (sRd lAll q_ndl))) sStop sNx
theorem c_ndk_eq : c_need_desks = sSeq q_nd1 q_nd2 := rfl
section
variable {s0 s1 s2 s3 s4 s5 s6 s7 : Sl} {L F O R D : List PyData} {v w x : PyData} {d i : Int} {M : Mf} {T : En}
theorem t_np (e : M [.val (.tuple R)] = .ok (.val (.bool true)) T) (h : ¬ ((O.length : Int) + 1 < (R.length : Int))) : sIf (sOr (sNot (sTst (sCallV M (sGv (sVar 1) sG0)))) (sTst (sBin gGt (sCallB gLen (sCons (sVar 1) sNil)) (sBin gAdd (sCallB gLen (sCons (sVar 0) sNil)) (sK (.int 1)))))) sStop sNx [.val (.tuple O), .val (.tuple R)] = .nx [.val (.tuple O), .val (.tuple R)] := by
  simp [e]; omega
theorem t_nd1 (h : D.length = R.length) : q_nd1 [s0, .val (.tuple R), .val (.tuple D), s3] = .nx [s0, .val (.tuple R), .val (.tuple D), s3] := by
  have k : kitB (tyN (.tuple D)) "tuple" = some true := by show kitB "tuple" "tuple" = some true; decide +kernel
  simp [q_nd1, k, h]
theorem t_nd2 {n : SN} {Z : List PyData} (e : n [s0, s1, s2, s3] = .ok Z [s0, s1, s2, s3]) (h : lAll Z = some (.bool true)) : sIf (sNot (sTst (sRd lAll n))) sStop sNx [s0, s1, s2, s3] = .nx [s0, s1, s2, s3] := by
  simp [e, h]
theorem t_ndl {e : SE} {Z : List PyData} (lc : lcL (gNm 3) sYes e [3] D [s0, s1, .val (.tuple D), .nil] = .ok Z [s0, s1, .val (.tuple D), .nil]) (hz : D.length < 16777216) : sLc (sISq (sVar 2)) (gNm 3) sYes e [3] [s0, s1, .val (.tuple D), .nil] = .ok Z [s0, s1, .val (.tuple D), .nil] := by
  simp [wipeS, lc, unwipe, hz, sizeLine]
theorem t_nde {n : Int} (hn : (O.length : Int) = n) (e : M [.val x, .val (.int 0), .val (.int n)] = .ok (.val v) T) : sCallV M (sGv (sVar 3) (sGv (sK (.int 0)) (sGv (sCallB gLen (sCons (sVar 0) sNil)) sG0))) [.val (.tuple O), s1, s2, .val x] = .ok v [.val (.tuple O), s1, s2, .val x] := by
  simp [hn, e]
end
section
variable {os ds : List Nat} {ss ord : List Str}
theorem need_pers (c : Case os ss ord) : ∃ T, m_need_persons [vO os, vS ord] = .ok (.val .none) T := by
  obtain ⟨T, e⟩ := diff_ok c.ond (fun s hs => c.nm s (c.osub s hs)) (by have := c.osmall; omega)
  have hs := nodup_len_le c.ond c.osub
  have hl := c.len
  refine ⟨[vO os, vS ord], ?_⟩
  rw [m_need_persons, r_mB]
  show (q_np [vO os, vS ord]).fin = _
  rw [q_np, t_np e (by rw [nts_len, sts_len]; omega)]
  rfl
theorem need_dsk (h : Off os) (hd : ∀ d ∈ ds, d ≤ os.length) (hl : ds.length = ord.length) (h4 : ds.length ≤ 40) : ∃ T, m_need_desks [vO os, vS ord, .val (.tuple (nts ds))] = .ok (.val .none) T := by
  have lc : lcL (gNm 3) sYes (sCallV m_is_number (sGv (sVar 3) (sGv (sK (.int 0)) (sGv (sCallB gLen (sCons (sVar 0) sNil)) sG0)))) [3] (nts ds) [vO os, vS ord, .val (.tuple (nts ds)), .nil] = .ok ((nts ds).map fun _ => .bool true) [vO os, vS ord, .val (.tuple (nts ds)), .nil] := by
    generalize hD : Sl.val (.tuple (nts ds)) = q
    refine lc_mapF (f := fun _ => .bool true) fun x hx => ?_
    obtain ⟨d, hd', rfl⟩ := List.mem_map.mp hx
    obtain ⟨T, e⟩ := is_num (.int ((d : Nat) : Int)) 0 (os.length : Int)
    have en : nIn 0 (os.length : Int) (.int ((d : Nat) : Int)) = true := by
      have := hd d hd'
      show decide _ = true
      exact decide_eq_true ⟨by omega, by omega⟩
    rw [en] at e
    refine ⟨[vO os, vS ord, q, .val (.int ((d : Nat) : Int))], [vO os, vS ord, q, .val (.int ((d : Nat) : Int))], by simp, ?_, by simp [wipeS]⟩
    exact t_nde (by rw [nts_len]) e
  have ea : lAll ((nts ds).map fun _ => PyData.bool true) = some (.bool true) := by
    rw [List.map_const']
    exact lAll_true
  refine ⟨[vO os, vS ord, .val (.tuple (nts ds)), .nil], ?_⟩
  rw [m_need_desks, r_mB]
  show (c_need_desks [vO os, vS ord, .val (.tuple (nts ds)), .nil]).fin = _
  rw [c_ndk_eq, r_sSeq, t_nd1 (by rw [nts_len, sts_len]; exact hl), sq_nx, q_nd2, t_nd2 (show q_ndl _ = _ from t_ndl lc (by rw [nts_len]; omega)) ea]
  rfl
end
def g_v : GT := gTp (gNC (gNm 5) (gNC (gNm 6) gN0))
def q_v1 (x f : Str) : SS := sIf (sTst (sInN false (sIxV 3 (sVar 6)) (sLVar 4))) (sRaiseN x f (sVar 5)) sNx
def q_v2 : SS := sDrop (sAppend 4 (sIxV 3 (sVar 6)))
def q_v3a : SS := sSet 7 (sBin gIx (sVar 0) (sBin gSub_ (sVar 6) (sK (.int 1))))
def q_v3b : SS := sAsg (gTp (gNC (gSubI 3 (sVar 7)) (gNC (gSubI 3 (sVar 6)) gN0))) (sTup (sCons (sIxV 3 (sVar 6)) (sCons (sIxV 3 (sVar 7)) sNil)))
def q_v3 : SS := sIf (sTst (sBin gGt (sVar 6) (sK (.int 0)))) (sSeq q_v3a q_v3b) sNx
def q_vb (x f : Str) : SS := sSeq (q_v1 x f) (sSeq q_v2 q_v3)
def q_s1 : SS := sDrop (sCallV m_need_office (sGv (sVar 0) sG0))
def q_s2 : SS := sDrop (sCallV m_need_persons (sGv (sVar 0) (sGv (sVar 1) sG0)))
def q_s3 : SS := sDrop (sCallV m_need_desks (sGv (sVar 0) (sGv (sVar 1) (sGv (sVar 2) sG0))))
def q_s4 : SS := sSetNew 3 (sLstRg (sBin gAdd (sCallB gLen (sCons (sVar 0) sNil)) (sK (.int 1))))
def q_s5 : SS := sSetNew 4 (sLst sNil)
theorem c_sfd_eq : c_seating_from_desks = sSeq q_s1 (sSeq q_s2 (sSeq q_s3 (sSeq q_s4 (sSeq q_s5 (sSeq (sFor (sIEnT (sCons (sVar 2) sNil)) g_v (q_vb "Impossible" "index")) (sRetOwn 4)))))) := rfl
section
variable {s0 s1 s2 s3 s4 s5 s6 s7 : Sl} {L F O R D : List PyData} {v w z : PyData} {d i : Int} {M : Mf} {T : En} {x f : Str}
theorem t_v1t (a : atI L d = some v) (g : gInT false v (.list F) = some (.bool true)) (hi : i.natAbs.log2 < 1000) : q_v1 x f [s0, s1, s2, .own L, .own F, .val (.int i), .val (.int d), s7] = .ex ⟨x, some (f, i)⟩ [s0, s1, s2, .own L, .own F, .val (.int i), .val (.int d), s7] := by simp [q_v1, a, g, hi]
theorem t_v1f (a : atI L d = some v) (g : gInT false v (.list F) = some (.bool false)) : q_v1 x f [s0, s1, s2, .own L, .own F, .val (.int i), .val (.int d), s7] = .nx [s0, s1, s2, .own L, .own F, .val (.int i), .val (.int d), s7] := by simp [q_v1, a, g]
theorem t_v2 (a : atI L d = some v) (hF : F.length < 1000000) : q_v2 [s0, s1, s2, .own L, .own F, s5, .val (.int d), s7] = .nx [s0, s1, s2, .own L, .own (F ++ [v]), s5, .val (.int d), s7] := by
  have h : F.length < 16777216 := by omega
  simp [q_v2, a, h, sizeLine]
theorem t_v3a (a : atI O (d - 1) = some v) (h7 : noio (some s7) = true) : q_v3a [.val (.tuple O), s1, s2, s3, s4, s5, .val (.int d), s7] = .nx [.val (.tuple O), s1, s2, s3, s4, s5, .val (.int d), .val v] := by simp [q_v3a, a, h7]
theorem t_v3b {b : Int} {L1 L2 : List PyData} (a : atI L d = some v) (e : atI L b = some w) (e1 : setI L (.int b) v = some L1) (e2 : setI L1 (.int d) w = some L2) : q_v3b [s0, s1, s2, .own L, s4, s5, .val (.int d), .val (.int b)] = .nx [s0, s1, s2, .own L2, s4, s5, .val (.int d), .val (.int b)] := by
  simp [q_v3b, sAsg, a, e, e1, e2, sizeLine, gTp, gNC, R.st]
theorem t_gv (h5 : bare (some s5) = true) (h6 : bare (some s6) = true) : g_v (.tuple [v, w]) [s0, s1, s2, s3, s4, s5, s6, s7] = .nx [s0, s1, s2, s3, s4, .val v, .val w, s7] := by
  simp [g_v, gTp, gNC, gN0, h5, h6]
theorem t_s1 (e : M [.val z] = .ok (.val .none) T) : sDrop (sCallV M (sGv (sVar 0) sG0)) [.val z, s1, s2, s3, s4, s5, s6, s7] = .nx [.val z, s1, s2, s3, s4, s5, s6, s7] := by simp [e]
theorem t_s2 (e : M [.val z, .val v] = .ok (.val .none) T) : sDrop (sCallV M (sGv (sVar 0) (sGv (sVar 1) sG0))) [.val z, .val v, s2, s3, s4, s5, s6, s7] = .nx [.val z, .val v, s2, s3, s4, s5, s6, s7] := by simp [e]
theorem t_s3 (e : M [.val z, .val v, .val w] = .ok (.val .none) T) : sDrop (sCallV M (sGv (sVar 0) (sGv (sVar 1) (sGv (sVar 2) sG0)))) [.val z, .val v, .val w, s3, s4, s5, s6, s7] = .nx [.val z, .val v, .val w, s3, s4, s5, s6, s7] := by simp [e]
theorem t_s4 {n : Int} (hn : (O.length : Int) + 1 = n) (h1 : 0 ≤ n) (h2 : n ≤ 16777216) (e : rng 0 n = R) : q_s4 [.val (.tuple O), s1, s2, .nil, s4, s5, s6, s7] = .nx [.val (.tuple O), s1, s2, .own R, s4, s5, s6, s7] := by
  simp [q_s4, hn, h1, h2, e]
theorem t_s5 : q_s5 [s0, s1, s2, s3, .nil, s5, s6, s7] = .nx [s0, s1, s2, s3, .own [], s5, s6, s7] := by
  simp [q_s5, sizeLine]
end
section
variable {os : List Nat} {ss ord : List Str} {x f0 : Str}
theorem sfd_loop (h : Off os) {x1 x2 : Sl} : ∀ {ds m f : List Nat} {i : Nat} {x5 x6 x7 : Sl}, (∀ d ∈ ds, d ≤ os.length) → m.length = os.length + 1 → f.length + ds.length ≤ 1000 → i + ds.length ≤ 1000 → bare (some x5) = true → bare (some x6) = true → bare (some x7) = true →
    LoopR (fun k X => ∃ S', X = .ex ⟨x, some (f0, ((k : Nat) : Int))⟩ S' ∧ k < 1000) (loopL g_v (q_vb x f0) (enF ds i) [vO os, x1, x2, .own (nts m), .own (nts f), x5, x6, x7]) (fun f' S' => ∃ m' y5 y6 y7, S' = [vO os, x1, x2, .own (nts m'), .own (nts f'), y5, y6, y7]) (dueF os ds m f i)
  | [], m, f, i, x5, x6, x7, hd, hm, hf, hi, b5, b6, b7 => ⟨_, ⟨m, x5, x6, x7, rfl⟩, rfl⟩
  | d :: ds, m, f, i, x5, x6, x7, hd, hm, hf, hi, b5, b6, b7 => by
    have hd0 := hd d List.mem_cons_self
    rw [List.length_cons] at hf hi
    have e0 := t_gv (s0 := vO os) (s1 := x1) (s2 := x2) (s3 := .own (nts m)) (s4 := .own (nts f)) (s7 := x7) (v := .int ((i : Nat) : Int)) (w := .int ((d : Nat) : Int)) b5 b6
    have a := nts_atN (l := m) (k := d) (by omega)
    show LoopR _ (loopL g_v (q_vb x f0) (.tuple [.int ((i : Nat) : Int), .int ((d : Nat) : Int)] :: enF ds (i + 1)) _) _ _
    by_cases q : m.getD d 0 ∈ f
    · have g : gInT false (.int ((m.getD d 0 : Nat) : Int)) (.list (nts f)) = some (.bool true) := by rw [g_inN, decide_eq_true q]
      rw [dueF, if_pos q]
      have hlog : (((i : Nat) : Int)).natAbs.log2 < 1000 := Nat.lt_trans (lg_lt (k := 30) (by decide) (by omega) (by omega)) (by decide)
      refine ⟨[vO os, x1, x2, .own (nts m), .own (nts f), .val (.int ((i : Nat) : Int)), .val (.int ((d : Nat) : Int)), x7], ?_, by omega⟩
      rw [loopL, e0]
      show (match q_vb x f0 [vO os, x1, x2, .own (nts m), .own (nts f), .val (.int ((i : Nat) : Int)), .val (.int ((d : Nat) : Int)), x7] with | .nx S2 => loopL g_v (q_vb x f0) (enF ds (i + 1)) S2 | .ct S2 => loopL g_v (q_vb x f0) (enF ds (i + 1)) S2 | .bk S2 => .nx S2 | r => r) = _
      rw [q_vb, r_sSeq, t_v1t a g hlog]
      rfl
    · have g : gInT false (.int ((m.getD d 0 : Nat) : Int)) (.list (nts f)) = some (.bool false) := by rw [g_inN, decide_eq_false q]
      rw [dueF, if_neg q]
      have s2 := t_v2 (s0 := vO os) (s1 := x1) (s2 := x2) (s5 := .val (.int ((i : Nat) : Int))) (s7 := x7) (F := nts f) a (by rw [nts_len]; omega)
      rw [nts_app] at s2
      by_cases h0 : 0 < d
      · have u := off_at h (d := d) h0 hd0
        have eb : sw os m d = (m.set d (m.getD (os.getD (d - 1) 0) 0)).set (os.getD (d - 1) 0) (m.getD d 0) := if_pos h0
        have s3 := t_v3a (s1 := x1) (s2 := x2) (s3 := .own (nts m)) (s4 := .own (nts (f ++ [m.getD d 0]))) (s5 := .val (.int ((i : Nat) : Int))) u.1 (noio_bare b7)
        have ub := u.2
        generalize os.getD (d - 1) 0 = b at *
        have e := nts_atN (l := m) (k := b) (by omega)
        have s4 := t_v3b (s0 := vO os) (s1 := x1) (s2 := x2) (s4 := .own (nts (f ++ [m.getD d 0]))) (s5 := .val (.int ((i : Nat) : Int))) a e (setI_nts (s := m.getD d 0) (i := b) (by omega)) (setI_nts (s := m.getD b 0) (i := d) (by rw [List.length_set]; omega))
        rw [List.set_comm _ _ (show b ≠ d by omega), ← eb] at s4
        have tt : sTst (sBin gGt (sVar 6) (sK (.int 0))) [vO os, x1, x2, .own (nts m), .own (nts (f ++ [m.getD d 0])), .val (.int ((i : Nat) : Int)), .val (.int ((d : Nat) : Int)), x7] = .ok true [vO os, x1, x2, .own (nts m), .own (nts (f ++ [m.getD d 0])), .val (.int ((i : Nat) : Int)), .val (.int ((d : Nat) : Int)), x7] := by
          simp; omega
        rw [loop_nxP e0 (show q_vb x f0 _ = .nx [vO os, x1, x2, .own (nts (sw os m d)), .own (nts (f ++ [m.getD d 0])), .val (.int ((i : Nat) : Int)), .val (.int ((d : Nat) : Int)), .val (.int ((b : Nat) : Int))] from by
          rw [q_vb, r_sSeq, t_v1f a g, sq_nx, r_sSeq, s2, sq_nx, q_v3, r_sIf, tt, stt_ok, if_pos rfl, r_sSeq, s3, sq_nx, s4])]
        exact sfd_loop h (fun z hz => hd z (List.mem_cons_of_mem _ hz)) (by rw [sw_len]; exact hm) (by simp; omega) (by omega) rfl rfl rfl
      · have eb : sw os m d = m := if_neg h0
        have tt : sTst (sBin gGt (sVar 6) (sK (.int 0))) [vO os, x1, x2, .own (nts m), .own (nts (f ++ [m.getD d 0])), .val (.int ((i : Nat) : Int)), .val (.int ((d : Nat) : Int)), x7] = .ok false [vO os, x1, x2, .own (nts m), .own (nts (f ++ [m.getD d 0])), .val (.int ((i : Nat) : Int)), .val (.int ((d : Nat) : Int)), x7] := by
          simp; omega
        rw [eb, loop_nxP e0 (show q_vb x f0 _ = .nx [vO os, x1, x2, .own (nts m), .own (nts (f ++ [m.getD d 0])), .val (.int ((i : Nat) : Int)), .val (.int ((d : Nat) : Int)), x7] from by
          rw [q_vb, r_sSeq, t_v1f a g, sq_nx, r_sSeq, s2, sq_nx, q_v3, r_sIf, tt, stt_ok, if_neg (by decide)]; rfl)]
        exact sfd_loop h (fun z hz => hd z (List.mem_cons_of_mem _ hz)) hm (by simp; omega) (by omega) rfl rfl b7
abbrev ecI (k : Nat) : Ec := ⟨"Impossible", some ("index", ((k : Nat) : Int))⟩
theorem sfd_ok (c : Case os ss ord) {ds : List Nat} (hd : ∀ d ∈ ds, d ≤ os.length) (hl : ds.length = ord.length) : 
    match due os ds with
    | .inl k => k < 1000 ∧ ∃ T, m_seating_from_desks [vO os, vS ord, .val (.tuple (nts ds))] = .ex (ecI k) T
    | .inr f => ∃ T, m_seating_from_desks [vO os, vS ord, .val (.tuple (nts ds))] = .ok (.own (nts f)) T := by
  have h4 := c.osmall
  obtain ⟨T1, e1⟩ := need_off c.off
  obtain ⟨T2, e2⟩ := need_pers c
  obtain ⟨T3, e3⟩ := need_dsk (ord := ord) c.off hd hl (by omega)
  have lp := sfd_loop (x := "Impossible") (f0 := "index") c.off (x1 := vS ord) (x2 := .val (.tuple (nts ds))) (ds := ds) (m := List.range (os.length + 1)) (f := []) (i := 0) (x5 := .nil) (x6 := .nil) (x7 := .nil) hd (by simp) (by simp; omega) (by omega) rfl rfl rfl
  have hE : sIEnT (sCons (sVar 2) sNil) [vO os, vS ord, .val (.tuple (nts ds)), .own (nts (List.range (os.length + 1))), .own [], .nil, .nil, .nil] = .ok (enF ds 0) [vO os, vS ord, .val (.tuple (nts ds)), .own (nts (List.range (os.length + 1))), .own [], .nil, .nil, .nil] := by
    rw [← enF_eq]; generalize nts ds = D; simp
  have h39 := c.off.1
  have q4 := t_s4 (O := nts os) (s1 := vS ord) (s2 := .val (.tuple (nts ds))) (s4 := .nil) (s5 := .nil) (s6 := .nil) (s7 := .nil) (n := ((os.length + 1 : Nat) : Int)) (by rw [nts_len]; omega) (by omega) (by omega) rng_nts
  have run : m_seating_from_desks [vO os, vS ord, .val (.tuple (nts ds))] = ((loopL g_v (q_vb "Impossible" "index") (enF ds 0) [vO os, vS ord, .val (.tuple (nts ds)), .own (nts (List.range (os.length + 1))), .own [], .nil, .nil, .nil]).sq (sRetOwn 4)).fin := by
    rw [m_seating_from_desks, r_mB]
    show (c_seating_from_desks [vO os, vS ord, .val (.tuple (nts ds)), .nil, .nil, .nil, .nil, .nil]).fin = _
    rw [c_sfd_eq, r_sSeq, q_s1, t_s1 e1, sq_nx, r_sSeq, q_s2, t_s2 e2, sq_nx, r_sSeq, q_s3, t_s3 e3, sq_nx, r_sSeq, q4, sq_nx, r_sSeq, t_s5, sq_nx, r_sSeq, r_sFor, hE, stt_ok]
  rw [run]
  change LoopR _ (loopL g_v (q_vb "Impossible" "index") (enF ds 0) [vO os, vS ord, .val (.tuple (nts ds)), .own (nts (List.range (os.length + 1))), .own [], .nil, .nil, .nil]) _ (due os ds) at lp
  cases e : due os ds with
  | inl k =>
    rw [e] at lp
    obtain ⟨S', e1, e2⟩ := lp
    exact ⟨e2, S', by rw [e1]; rfl⟩
  | inr f =>
    rw [e] at lp
    obtain ⟨S', ⟨m', y5, y6, y7, rfl⟩, e1⟩ := lp
    refine ⟨[vO os, vS ord, .val (.tuple (nts ds)), .own (nts m'), .own (nts f), y5, y6, y7], ?_⟩
    rw [e1, sq_nx]
    generalize nts f = Z
    simp
end
end Ds
end
section
set_option Elab.async false
set_option linter.all false
set_option maxRecDepth 100000
set_option maxHeartbeats 1000000
open PySem PySem.Spec PyProof.Rows L2
namespace Ds
section
variable {os os' : List Nat} {cal cal' : Nat → Bool}
/-- os' goes on after os, with desks nobody of which is called -/
structure Wid (os os' : List Nat) (cal cal' : Nat → Bool) : Prop where
  off : Off os
  off' : Off os'
  le : os.length ≤ os'.length
  get : ∀ i, i < os.length → os'.getD i 0 = os.getD i 0
  cal : ∀ d, d ≤ os.length → cal' d = cal d
  sil : ∀ d, os.length < d → d ≤ os'.length → cal' d = false
theorem Wid.op_out (w : Wid os os' cal cal') {e : Nat} (h : os.length < e) (h2 : e ≤ os'.length) : op os' cal' e = false := by
  rw [op_eq w.off' h2, w.sil e h h2, Bool.false_and]
theorem Wid.op_in (w : Wid os os' cal cal') : ∀ (n e : Nat), os.length - e ≤ n → e ≤ os.length → op os' cal' e = op os cal e := by
  intro n
  induction n with
  | zero =>
    intro e hn he
    have hl := w.le
    rw [op_eq w.off' (by omega), op_eq w.off he, w.cal e he]
    congr 1
    rw [Bool.eq_iff_iff, List.all_eq_true, List.all_eq_true]
    constructor
    · intro _ c hc
      obtain ⟨c1, c2, c3⟩ := mem_kids.mp hc
      have := off_lt w.off c1 c2
      omega
    · intro _ c hc
      obtain ⟨c1, c2, c3⟩ := mem_kids.mp hc
      have := off_lt w.off' c1 c2
      rw [w.op_out (by omega) c2]
      rfl
  | succ n ih =>
    intro e hn he
    have hl := w.le
    rw [op_eq w.off' (by omega), op_eq w.off he, w.cal e he]
    congr 1
    rw [Bool.eq_iff_iff, List.all_eq_true, List.all_eq_true]
    constructor
    · intro h c hc
      obtain ⟨c1, c2, c3⟩ := mem_kids.mp hc
      have lt := off_lt w.off c1 c2
      have := h c (mem_kids.mpr ⟨c1, by omega, by rw [w.get _ (by omega)]; exact c3⟩)
      rw [ih c (by omega) c2] at this
      exact this
    · intro h c hc
      obtain ⟨c1, c2, c3⟩ := mem_kids.mp hc
      have lt := off_lt w.off' c1 c2
      by_cases ho : os.length < c
      · rw [w.op_out ho c2]
        rfl
      · have := h c (mem_kids.mpr ⟨c1, by omega, by rw [← w.get _ (by omega)]; exact c3⟩)
        rw [ih c (by omega) (by omega)]
        exact this
theorem Wid.okd (w : Wid os os' cal cal') (d : Nat) : okd os' cal' 0 d = okd os cal 0 d := by
  have hl := w.le
  unfold Ds.okd
  rw [Nat.zero_add, Nat.sub_zero, Nat.sub_zero, show os'.length = os.length + (os'.length - os.length) by omega, ← List.range'_append_1, List.filter_append]
  rw [show ((List.range' (1 + os.length) (os'.length - os.length)).filter fun e => decide (os'.getD (e - 1) 0 = d) && op os' cal' e) = [] from List.filter_eq_nil_iff.mpr fun e he => by
    rw [List.mem_range'_1] at he
    rw [w.op_out (by omega) (by omega), Bool.and_false]
    exact Bool.false_ne_true, List.append_nil]
  apply List.filter_congr
  intro e he
  rw [List.mem_range'_1] at he
  rw [w.get _ (by omega), w.op_in _ e (Nat.le_refl _) (by omega)]
end
section
variable {os : List Nat} {s ord : List Str} {u : Nat} {z : Str}
theorem nm_app {d : Nat} (h : d < s.length) : nmAt (s ++ [z]) d = nmAt s d := by
  unfold nmAt
  rw [List.getD_eq_getElem?_getD, List.getD_eq_getElem?_getD, List.getElem?_append_left h]
theorem nm_last : nmAt (s ++ [z]) s.length = z := by
  unfold nmAt
  rw [List.getD_eq_getElem?_getD, List.getElem?_append_right (Nat.le_refl _), Nat.sub_self]
  rfl
/-- an office and a seating with one desk more, the new person in no order -/
structure Wd (os : List Nat) (s ord : List Str) (u : Nat) (z : Str) : Prop where
  c : Case os s ord
  h38 : os.length ≤ 38
  ul : u ≤ os.length
  nz : z ∉ s
  mz : Nm z
theorem Wd.no (w : Wd os s ord u z) : z ∉ ord := fun h => w.nz (w.c.osub z h)
theorem Wd.cs (w : Wd os s ord u z) : Case (os ++ [u]) (s ++ [z]) ord := by
  refine ⟨⟨by rw [List.length_append, List.length_singleton]; have := w.h38; omega, fun i x e => ?_⟩, ?_, ?_, ?_, w.c.ond, fun y h => List.mem_append_left _ (w.c.osub y h)⟩
  · by_cases h : i < os.length
    · rw [List.getElem?_append_left h] at e
      exact w.c.off.2 i x e
    · rw [List.getElem?_append_right (by omega)] at e
      cases q : i - os.length with
      | zero =>
        rw [q] at e
        cases e
        have := w.ul
        omega
      | succ m => rw [q] at e; cases e
  · rw [List.length_append, List.length_append, w.c.len]
    rfl
  · rw [List.nodup_append]
    refine ⟨w.c.nd, by simp, fun a ha b hb e => ?_⟩
    rw [List.mem_singleton] at hb
    rw [e, hb] at ha
    exact w.nz ha
  · intro y hy
    rcases List.mem_append.mp hy with hy | hy
    · exact w.c.nm y hy
    · rw [List.mem_singleton.mp hy]
      exact w.mz
theorem Wd.wid (w : Wd os s ord u z) : Wid os (os ++ [u]) (calB s ord) (calB (s ++ [z]) ord) := by
  have hl := w.c.len
  refine ⟨w.c.off, w.cs.off, by simp, fun i h => ?_, fun d h => ?_, fun d h1 h2 => ?_⟩
  · rw [List.getD_eq_getElem?_getD, List.getD_eq_getElem?_getD, List.getElem?_append_left h]
  · unfold calB
    rw [nm_app (by omega)]
  · rw [List.length_append, List.length_singleton] at h2
    unfold calB
    rw [show d = s.length by omega, nm_last]
    exact decide_eq_false w.no
theorem Wd.okd (w : Wd os s ord u z) (d : Nat) : okd0 (os ++ [u]) (s ++ [z]) ord d = okd0 os s ord d := w.wid.okd d
theorem Wd.blk (w : Wd os s ord u z) {d : Nat} (h : d ≤ os.length) : blkD (os ++ [u]) (s ++ [z]) ord d = blkD os s ord d := by
  have hl := w.c.len
  have e : Ds.okd (os ++ [u]) (calB (s ++ [z]) ord) 0 d = Ds.okd os (calB s ord) 0 d := w.wid.okd d
  have hU : ∀ x ∈ Ds.okd os (calB s ord) 0 d, x < s.length := (okd_small w.c).1
  unfold blkD
  rw [e]
  unfold Ds.blk
  rw [nm_app (by omega), show (Ds.okd os (calB s ord) 0 d).map (nmAt (s ++ [z])) = (Ds.okd os (calB s ord) 0 d).map (nmAt s) from List.map_congr_left fun x hx => nm_app (hU x hx)]
  split
  · apply List.map_congr_left
    intro y hy
    have hy2 : y ∈ s := w.c.osub y (List.mem_of_mem_drop (List.mem_filter.mp hy).1)
    rw [List.idxOf_append, if_pos hy2]
  · rfl
theorem Wd.call (w : Wd os s ord u z) {n : Str} (hn : n ∈ s) : callS (os ++ [u]) (s ++ [z]) n = callS os s n ++ [z] := by
  have hl := w.c.len
  have hi := idx_lt hn
  unfold callS
  rw [List.idxOf_append, if_pos hn]
  by_cases h0 : 0 < s.idxOf n
  · rw [if_pos h0, if_pos h0]
    have g : (os ++ [u]).getD (s.idxOf n - 1) 0 = os.getD (s.idxOf n - 1) 0 := by
      rw [List.getD_eq_getElem?_getD, List.getD_eq_getElem?_getD, List.getElem?_append_left (by omega)]
    have lt := off_lt w.c.off h0 (by omega)
    rw [g, nm_app (by omega), List.set_append_left _ _ hi, List.set_append_left _ _ (by rw [List.length_set]; omega)]
  · rw [if_neg h0, if_neg h0]
theorem Wd.grp (w : Wd os s ord u z) {d : Nat} (h : d ≤ os.length) : grpD (os ++ [u]) (s ++ [z]) ord d = grpD os s ord d := by
  have hl := w.c.len
  have hU : ∀ x ∈ okd0 os s ord d, x < s.length := (okd_small w.c).1
  unfold grpD namesG
  rw [w.okd, show (d :: okd0 os s ord d).map (nmAt (s ++ [z])) = (d :: okd0 os s ord d).map (nmAt s) from List.map_congr_left fun x hx => nm_app (by
    rcases List.mem_cons.mp hx with e | hx
    · omega
    · exact hU x hx)]
end
end Ds
end
section
set_option Elab.async false
set_option linter.all false
set_option maxRecDepth 100000
set_option maxHeartbeats 1000000
open PySem PySem.Spec PyProof.Rows L2
namespace Ds
section
variable {os : List Nat} {s ord : List Str} {φ : Str → Str}
theorem nm_map {d : Nat} (h : d < s.length) : nmAt (s.map φ) d = φ (nmAt s d) := by
  unfold nmAt
  rw [List.getD_eq_getElem?_getD, List.getD_eq_getElem?_getD, List.getElem?_map, List.getElem?_eq_getElem h]
  rfl
theorem idx_map {l : List Str} {x : Str} (h : ∀ y ∈ l, φ y = φ x → y = x) : (l.map φ).idxOf (φ x) = l.idxOf x := by
  induction l with
  | nil => rfl
  | cons y l ih =>
    rw [List.map_cons, List.idxOf_cons, List.idxOf_cons, ih fun z hz => h z (List.mem_cons_of_mem _ hz)]
    by_cases e : y = x
    · rw [e, beq_self_eq_true, beq_self_eq_true]
    · have e2 : φ y ≠ φ x := fun q => e (h y List.mem_cons_self q)
      rw [beq_eq_false_iff_ne.mpr e, beq_eq_false_iff_ne.mpr e2]
/-- the names turned into others -/
structure Ren (os : List Nat) (s ord : List Str) (φ : Str → Str) : Prop where
  c : Case os s ord
  inj : ∀ x ∈ s, ∀ y ∈ s, φ x = φ y → x = y
  nm : ∀ x ∈ s, Nm (φ x)
theorem Ren.mem (r : Ren os s ord φ) {l : List Str} (hl : ∀ y ∈ l, y ∈ s) {x : Str} (hx : x ∈ s) : φ x ∈ l.map φ ↔ x ∈ l := by
  constructor
  · intro h
    obtain ⟨y, hy, e⟩ := List.mem_map.mp h
    rw [← r.inj y (hl y hy) x hx e]
    exact hy
  · exact fun h => List.mem_map_of_mem h
theorem nodup_map {l : List Str} (h : l.Nodup) (hi : ∀ x ∈ l, ∀ y ∈ l, φ x = φ y → x = y) : (l.map φ).Nodup := by
  induction l with
  | nil => exact List.nodup_nil
  | cons a l ih =>
    obtain ⟨h1, h2⟩ := List.nodup_cons.mp h
    rw [List.map_cons, List.nodup_cons]
    refine ⟨fun m => ?_, ih h2 fun x hx y hy => hi x (List.mem_cons_of_mem _ hx) y (List.mem_cons_of_mem _ hy)⟩
    obtain ⟨y, hy, e⟩ := List.mem_map.mp m
    rw [hi y (List.mem_cons_of_mem _ hy) a List.mem_cons_self e] at hy
    exact h1 hy
theorem Ren.cs (r : Ren os s ord φ) : Case os (s.map φ) (ord.map φ) := by
  refine ⟨r.c.off, by rw [List.length_map]; exact r.c.len, nodup_map r.c.nd r.inj, fun y hy => ?_, nodup_map r.c.ond fun x hx y hy => r.inj x (r.c.osub x hx) y (r.c.osub y hy), fun y hy => ?_⟩
  · obtain ⟨x, hx, rfl⟩ := List.mem_map.mp hy
    exact r.nm x hx
  · obtain ⟨x, hx, rfl⟩ := List.mem_map.mp hy
    exact List.mem_map_of_mem (r.c.osub x hx)
theorem Ren.wid (r : Ren os s ord φ) : Wid os os (calB s ord) (calB (s.map φ) (ord.map φ)) := by
  have hl := r.c.len
  refine ⟨r.c.off, r.c.off, Nat.le_refl _, fun _ _ => rfl, fun d h => ?_, fun d h1 h2 => by omega⟩
  unfold calB
  rw [nm_map (by omega), Bool.eq_iff_iff, decide_eq_true_eq, decide_eq_true_eq]
  exact r.mem r.c.osub (nm_mem (by omega))
theorem Ren.okd (r : Ren os s ord φ) (d : Nat) : okd0 os (s.map φ) (ord.map φ) d = okd0 os s ord d := r.wid.okd d
theorem Ren.maps (r : Ren os s ord φ) {U : List Nat} (hU : ∀ x ∈ U, x < s.length) : U.map (nmAt (s.map φ)) = (U.map (nmAt s)).map φ := by
  rw [List.map_map]
  exact List.map_congr_left fun x hx => nm_map (hU x hx)
theorem filter_map_mem {l m : List Str} (h : ∀ x ∈ l, φ x ∈ m.map φ ↔ x ∈ m) : (l.map φ).filter (fun x => decide (x ∈ m.map φ)) = (l.filter fun x => decide (x ∈ m)).map φ := by
  rw [List.filter_map]
  congr 1
  apply List.filter_congr
  intro x hx
  show decide (φ x ∈ m.map φ) = decide (x ∈ m)
  rw [Bool.eq_iff_iff, decide_eq_true_eq, decide_eq_true_eq]
  exact h x hx
theorem nms_sub (c : Case os s ord) {U : List Nat} (hU : ∀ x ∈ U, x < s.length) : ∀ y ∈ U.map (nmAt s), y ∈ s := fun y hy => by
  obtain ⟨x, hx, rfl⟩ := List.mem_map.mp hy
  exact nm_mem (hU x hx)
theorem Ren.blk (r : Ren os s ord φ) {d : Nat} (h : d ≤ os.length) : blkD os (s.map φ) (ord.map φ) d = blkD os s ord d := by
  have hl := r.c.len
  have e : Ds.okd os (calB (s.map φ) (ord.map φ)) 0 d = Ds.okd os (calB s ord) 0 d := r.wid.okd d
  have hU : ∀ x ∈ Ds.okd os (calB s ord) 0 d, x < s.length := (okd_small r.c).1
  have hd : nmAt s d ∈ s := nm_mem (by omega)
  unfold blkD
  rw [e]
  unfold Ds.blk
  rw [nm_map (by omega), r.maps hU]
  by_cases g : nmAt s d ∈ ord
  · rw [if_pos g, if_pos (List.mem_map_of_mem g), idx_map fun y hy => r.inj y (r.c.osub y hy) _ hd, ← List.map_drop, filter_map_mem fun x hx => r.mem (nms_sub r.c hU) (r.c.osub x (List.mem_of_mem_drop hx)), List.map_map]
    apply List.map_congr_left
    intro y hy
    have hy2 : y ∈ s := r.c.osub y (List.mem_of_mem_drop (List.mem_filter.mp hy).1)
    show PyData.int (((s.map φ).idxOf (φ y) : Nat) : Int) = _
    rw [idx_map fun x hx => r.inj x hx y hy2]
  · rw [if_neg g, if_neg fun q => g ((r.mem r.c.osub hd).mp q)]
theorem Ren.call (r : Ren os s ord φ) {n : Str} (hn : n ∈ s) : callS os (s.map φ) (φ n) = (callS os s n).map φ := by
  have hl := r.c.len
  have hi := idx_lt hn
  unfold callS
  rw [idx_map fun x hx => r.inj x hx n hn]
  by_cases h0 : 0 < s.idxOf n
  · rw [if_pos h0, if_pos h0]
    have lt := off_lt r.c.off h0 (by omega)
    rw [nm_map (by omega), List.map_set, List.map_set]
  · rw [if_neg h0, if_neg h0]
theorem Ren.names (r : Ren os s ord φ) {d : Nat} (h : d ≤ os.length) : namesG os (s.map φ) (ord.map φ) d = (namesG os s ord d).map φ := by
  have hl := r.c.len
  have hU : ∀ x ∈ d :: okd0 os s ord d, x < s.length := fun x hx => by
    rcases List.mem_cons.mp hx with e | hx
    · omega
    · exact (okd_small r.c).1 x hx
  unfold namesG
  rw [r.okd, r.maps hU]
  exact filter_map_mem fun x hx => r.mem (nms_sub r.c hU) (r.c.osub x hx)
end
section
variable {os : List Nat} {s ord A B : List Str}
theorem SDay.fin {k : Nat} (c : Case os s ord) (d : SDay os s ord k) : SDay os (daysS os ord k s) ord 0 := ⟨Nat.zero_le _, d.yes, fun j hj => absurd hj (Nat.not_lt_zero j)⟩
theorem SDay.next {k : Nat} (c : Case os s ord) (d : SDay os s ord k) : SDay os (callsS os s ord) ord (k - 1) := by
  cases k with
  | zero => exact ⟨Nat.zero_le _, settled_stays c d.yes, fun j hj => absurd hj (Nat.not_lt_zero j)⟩
  | succ k => exact ⟨by have := d.le; omega, d.yes, fun j hj => d.no (j + 1) (by rw [Nat.add_sub_cancel] at hj; omega)⟩
end
end Ds
end
section
set_option Elab.async false
set_option linter.all false
set_option maxRecDepth 100000
set_option maxHeartbeats 1000000
open PySem PySem.Spec PyProof.Rows L2
namespace Ds
theorem nm_strOk {x : Str} (h : Nm x) : PyData.strOk x = true := by
  unfold PyData.strOk
  rw [← Array.all_toList, List.all_eq_true]
  intro c hc
  have := h.2.2 c hc
  exact decide_eq_true (by omega)
end Ds
end
section
set_option Elab.async false
set_option linter.all false
set_option maxRecDepth 100000
set_option maxHeartbeats 1000000
open PySem PySem.Spec PyProof.Rows L2
namespace Ds
def lvl (os : List Nat) (d : Nat) : Nat := (lvT os (os.length + 1)).getD d 0
section
variable {os : List Nat} {c d x : Nat} {v : Nat → Nat}
theorem getD_set_ne {l : List Nat} {i j a : Nat} (h : i ≠ j) : (l.set i a).getD j 0 = l.getD j 0 := by
  simp [List.getD, List.getElem?_set_ne h]
theorem getD_set_self {l : List Nat} {i a : Nat} (h : i < l.length) : (l.set i a).getD i 0 = a := by
  simp [List.getD, List.getElem?_set_self h]
theorem lvT_step {k : Nat} (hd : d ≤ os.length) (h : os.length - k ≠ d) : (lvT os (k + 1)).getD d 0 = (lvT os k).getD d 0 := by
  show (if _ then _ else _ : List Nat).getD d 0 = _
  split
  · rfl
  · exact getD_set_ne h
theorem lvT_zero : ∀ {k : Nat}, d + k ≤ os.length → (lvT os k).getD d 0 = 0
  | 0, h => by
    show (List.replicate (os.length + 1) 0).getD d 0 = 0
    simp [List.getD, List.getElem?_replicate]
    split <;> rfl
  | k + 1, h => by rw [lvT_step (by omega) (by omega)]; exact lvT_zero (by omega)
theorem lvT_done {k : Nat} (hd : d ≤ os.length) (h : os.length < d + k) : ∀ {j : Nat}, k + j ≤ os.length + 1 → (lvT os (k + j)).getD d 0 = (lvT os k).getD d 0
  | 0, _ => rfl
  | j + 1, hj => by
    rw [← Nat.add_assoc, lvT_step hd (by omega)]
    exact lvT_done hd h (by omega)
theorem lvl_at {k : Nat} (hd : d ≤ os.length) (h : os.length < d + k) (hk : k ≤ os.length + 1) : (lvT os k).getD d 0 = lvl os d := by
  have := lvT_done hd h (j := os.length + 1 - k) (by omega)
  rw [show k + (os.length + 1 - k) = os.length + 1 by omega] at this
  exact this.symm
theorem feed_gt (h : Off os) (hx : x ∈ feed os d) : d < x ∧ x ≤ os.length := by
  unfold feed at hx
  rw [List.mem_filter, List.mem_range'_1, decide_eq_true_eq] at hx
  obtain ⟨⟨h1, h2⟩, h3⟩ := hx
  have lt := sup_lt h (e := x) (by omega) (by omega)
  refine ⟨?_, by omega⟩
  rcases List.mem_cons.mp h3 with e | e
  · rw [e] at lt; exact lt
  · obtain ⟨k1, k2, k3, _⟩ := mem_ok1.mp e
    have := sup_lt h k1 k2
    omega
theorem mem_feed (h0 : 0 < x) (h1 : x ≤ os.length) : x ∈ feed os d ↔ sup os x ∈ d :: ok1 os d := by
  unfold feed
  rw [List.mem_filter, List.mem_range'_1, decide_eq_true_eq]
  exact ⟨fun q => q.2, fun q => ⟨by omega, q⟩⟩
theorem lvl_eq (h : Off os) (hd : d ≤ os.length) : lvl os d = if ok1 os d = [] then 0 else 1 + mx ((feed os d).map (lvl os)) := by
  rw [← lvl_at (k := os.length - d + 1) hd (by omega) (by omega)]
  have e1 : os.length - (os.length - d) = d := by omega
  show (if ok1 os (os.length - (os.length - d)) = [] then lvT os (os.length - d) else (lvT os (os.length - d)).set (os.length - (os.length - d)) (1 + mx ((feed os (os.length - (os.length - d))).map fun x => (lvT os (os.length - d)).getD x 0))).getD d 0 = _
  rw [e1]
  split
  · exact lvT_zero (by omega)
  · rw [getD_set_self (by rw [lvT_len]; omega)]
    congr 2
    apply List.map_congr_left
    intro x hx
    obtain ⟨k1, k2⟩ := feed_gt h hx
    exact lvl_at k2 (by omega) (by omega)
theorem lvl_feed (h : Off os) (hc : c ∈ cenL os) (hx : x ∈ feed os c) : lvl os x + 1 ≤ lvl os c := by
  obtain ⟨h1, h2⟩ := mem_cenL.mp hc
  have := (mx_ge (l := (feed os c).map (lvl os)) (a := 0)).1 (lvl os x) (List.mem_map_of_mem hx)
  rw [lvl_eq h h1 (d := c), if_neg h2]
  unfold mx
  omega
/-- one look at x, for c -/
def st1 (os : List Nat) (c : Nat) (v : Nat → Nat) (x : Nat) : Nat → Nat := if 0 < x ∧ sup os x ∈ c :: ok1 os c then fun d => if d = c then max (v c) (v x + 1) else v d else v
def inn (os : List Nat) (c : Nat) (v : Nat → Nat) (l : List Nat) : Nat → Nat := l.foldl (st1 os c) v
def out (os : List Nat) (v : Nat → Nat) (l : List Nat) : Nat → Nat := l.foldl (fun v c => inn os c v (cenL os)) v
/-- the centers behind c -/
def rk (os : List Nat) (c : Nat) : Nat := ((cenL os).filter fun x => decide (c < x)).length
end
end Ds
end
section
set_option Elab.async false
set_option linter.all false
set_option maxRecDepth 100000
set_option maxHeartbeats 1000000
open PySem PySem.Spec PyProof.Rows L2
namespace Ds
theorem nd_len : ∀ {l m : List Str}, l.Nodup → (∀ x ∈ l, x ∈ m) → l.length ≤ m.length
  | [], _, _, _ => Nat.zero_le _
  | x :: l, m, h, hs => by
    obtain ⟨h1, h2⟩ := List.nodup_cons.mp h
    have hx := hs x List.mem_cons_self
    have ih := nd_len (l := l) (m := m.erase x) h2 fun y hy => (List.mem_erase_of_ne (fun e => h1 (by rw [← e]; exact hy))).mpr (hs y (List.mem_cons_of_mem _ hy))
    rw [List.length_erase_of_mem hx] at ih
    have := List.length_pos_of_mem hx
    rw [List.length_cons]
    omega
section
variable {os : List Nat} {s x ord D R : List Str} {q : Str} {c c0 d e k : Nat}
theorem all_mem (cs : Case os s ord) (ha : ord.length = os.length + 1) {y : Str} (hy : y ∈ s) : y ∈ ord := by
  apply Classical.byContradiction
  intro n
  have := nd_len (l := y :: ord) (m := s) (List.nodup_cons.mpr ⟨n, cs.ond⟩) fun z hz => by
    rcases List.mem_cons.mp hz with q | q
    · rw [q]; exact hy
    · exact cs.osub z q
  rw [List.length_cons, ha, cs.len] at this
  omega
theorem all_in (cs : Case os s ord) (ha : ord.length = os.length + 1) (he : e ≤ os.length) : nmAt s e ∈ ord := by
  have hl := cs.len
  exact all_mem cs ha (List.mem_of_getElem? (nmAt_get (ss := s) (t := e) (by omega)))
theorem ok_all (cs : Case os s ord) (ha : ord.length = os.length + 1) : ∀ (k e : Nat), os.length - e ≤ k → e ≤ os.length → okd0 os s ord e = ok1 os e := by
  intro k
  induction k using Nat.strongRecOn with
  | ind k ih =>
    intro e hk h2
    have off := cs.off
    show okd os (calB s ord) 0 e = okd os T1 0 e
    unfold okd
    apply List.filter_congr
    intro c hc
    rw [List.mem_range'_1] at hc
    by_cases hs : os.getD (c - 1) 0 = e
    · have lt := off_lt off (e := c) (by omega) (by omega)
      have a := ih (os.length - c) (by omega) c (Nat.le_refl _) (by omega)
      have : op os (calB s ord) c = op os T1 c := by
        rw [op_okd off (by omega), op_okd off (by omega)]
        have a' : okd os (calB s ord) 0 c = okd os T1 0 c := a
        rw [a']
        congr 1
        exact decide_eq_true (all_in cs ha (by omega))
      rw [this]
    · rw [decide_eq_false hs, Bool.false_and, Bool.false_and]
theorem okd_1 (cs : Case os s ord) (ha : ord.length = os.length + 1) (he : e ≤ os.length) : okd0 os s ord e = ok1 os e := ok_all cs ha _ e (Nat.le_refl _) he
/-- what stands during a day: the groups up to level k are settled, c0 is under way -/
structure Da (os : List Nat) (ord : List Str) (k c0 : Nat) (x D R : List Str) : Prop where
  cs : Case os x ord
  spl : ord = D ++ R
  grp : ∀ c ∈ cenL os, lvl os c ≤ k → GP ord (ok1 os c) c (nmAt x) D R
  top : (∀ e ∈ ok1 os c0, nmAt x e ∈ R) ∨ (nmAt x c0 ∈ D ∧ ∀ e ∈ ok1 os c0, nmAt x e ∉ R → ord.idxOf (nmAt x e) < ord.idxOf (nmAt x c0))
theorem ok1_kid (h : Off os) (he : e ∈ ok1 os c) : c < e ∧ e ≤ os.length ∧ sup os e = c ∧ ok1 os e = [] := by
  obtain ⟨h1, h2, h3, h4⟩ := mem_ok1.mp he
  refine ⟨?_, h2, h3, (op1 h h2).mp h4⟩
  have := sup_lt h h1 h2
  omega
theorem Da.step (ha : ord.length = os.length + 1) (hc0 : c0 ∈ cenL os) (l0 : lvl os c0 ≤ k + 1) (dy : Da os ord k c0 x D (q :: R)) : Da os ord k c0 (callS os x q) (D ++ [q]) R := by
  obtain ⟨cs, spl, grp, top⟩ := dy
  have off := cs.off
  have ho := spl
  have hn := cs.ond
  have qo : q ∈ ord := by rw [ho]; simp
  have qx : q ∈ x := cs.osub q qo
  obtain ⟨dl, dn, mv⟩ := call_at cs qx
  have inj : ∀ {i : Nat}, i ≤ os.length → nmAt x i = q → i = x.idxOf q := fun {i} hi e => nm_inj cs hi dl (by rw [e, dn])
  have spl' : ord = D ++ [q] ++ R := by rw [ho, List.append_assoc]; rfl
  have cs' := (cs.call qx).1
  have neq : ∀ {k : Nat}, k ≤ os.length → k ≠ x.idxOf q → nmAt x k ≠ q := fun {k} h1 h2 z => h2 (inj h1 z)
  have nR : ∀ {y : Str}, y ∈ q :: R → y ≠ q → y ∈ R := fun h n => mem_rest h n
  have nocen : ∀ c ∈ cenL os, lvl os c ≤ k → x.idxOf q ≠ c := fun c h1 h2 z => by
    obtain ⟨h3, h4⟩ := mem_cenL.mp h1
    refine (grp c h1 h2).nocall ho hn h4 (fun e he w => ?_) (by rw [← z]; exact dn)
    have := ok1_kid off he
    have := nm_inj cs this.2.1 h3 w
    omega
  rcases mv with ⟨d0, ex⟩ | ⟨d0, m1, m2, m3⟩
  · -- at desk 0: nothing moves
    rw [ex]
    refine ⟨cs, spl', fun c h1 h2 => (grp c h1 h2).keep fun k hk => ⟨rfl, ?_⟩, ?_⟩
    · rcases hk with hk | hk
      · subst hk
        exact neq (mem_cenL.mp h1).1 fun z => nocen _ h1 h2 z.symm
      · exact neq (ok1_kid off hk).2.1 (by have := (ok1_kid off hk).1; omega)
    · rcases top with a | ⟨a, b⟩
      · exact .inl fun e he => nR (a e he) (neq (ok1_kid off he).2.1 (by have := (ok1_kid off he).1; omega))
      · refine .inr ⟨List.mem_append_left _ a, fun e he h2 => b e he fun z => h2 (nR z (neq (ok1_kid off he).2.1 (by have := (ok1_kid off he).1; omega)))⟩
  · have ult := off_lt off (e := x.idxOf q) d0 dl
    generalize hd : x.idxOf q = d at *
    generalize hu : os.getD (d - 1) 0 = u at *
    have stay : ∀ {k : Nat}, k ≤ os.length → k ≠ d → k ≠ u → nmAt (callS os x q) k = nmAt x k ∧ nmAt x k ≠ q := fun {k} h0 h1 h2 => ⟨m3 k h1 h2, neq h0 h1⟩
    have inok : ∀ {c k : Nat}, k ∈ ok1 os c → k = d → c = u := fun {c k} h z => by
      have := (ok1_kid off h).2.2.1
      rw [z] at this
      rw [← this]
      exact hu
    have keep : ∀ c, c ∈ cenL os → lvl os c ≤ k → c ≠ d → c ≠ u → d ∉ ok1 os c → u ∉ ok1 os c → GP ord (ok1 os c) c (nmAt (callS os x q)) (D ++ [q]) R := fun c h1 h2 h3 h4 h5 h6 => (grp c h1 h2).keep fun k hk => by
      rcases hk with hk | hk
      · subst hk; exact stay (mem_cenL.mp h1).1 h3 h4
      · exact stay (ok1_kid off hk).2.1 (fun z => h5 (by rw [← z]; exact hk)) fun z => h6 (by rw [← z]; exact hk)
    by_cases hop : ok1 os d = []
    · -- from an open desk
      have dU : d ∈ ok1 os u := mem_ok1.mpr ⟨d0, dl, hu, (op1 off dl).mpr hop⟩
      have nU : ok1 os u ≠ [] := fun z => by rw [z] at dU; cases dU
      have uU : ∀ c, u ∉ ok1 os c := fun c h => nU (ok1_kid off h).2.2.2
      have cd : ∀ c, c ∈ cenL os → c ≠ d := fun c h1 z => (mem_cenL.mp h1).2 (by rw [z]; exact hop)
      refine ⟨cs', spl', fun c h1 h2 => ?_, ?_⟩
      · by_cases hcu : c = u
        · subst hcu
          refine (grp c h1 h2).move ho hn dU dn (uU c) (fun e he hne => neq (ok1_kid off he).2.1 hne) m2 m1 fun k hk hne => m3 k hne fun z => absurd hk (by rw [z]; exact uU _)
        · exact keep c h1 h2 (cd c h1) hcu (fun z => hcu (inok z rfl)) (uU c)
      · by_cases hut : u = c0
        · subst hut
          right
          refine ⟨by rw [m2]; simp, fun e he h2 => ?_⟩
          rw [m2]
          have key : ∀ y, y ∈ ord → y ∉ R → y ≠ q → ord.idxOf y < ord.idxOf q := fun y a b c => by
            rcases in_three ho a with z | z | z
            · exact ix_done ho hn z
            · exact absurd z c
            · exact absurd z b
          have hul := (mem_cenL.mp hc0).1
          by_cases ed : e = d
          · subst ed
            rw [m1] at h2 ⊢
            exact key _ (all_in cs ha hul) h2 (neq hul (by omega))
          · rw [m3 e ed fun z => absurd he (by rw [z]; exact uU _)] at h2 ⊢
            have el := (ok1_kid off he).2.1
            exact key _ (all_in cs ha el) h2 (neq el ed)
        · have st : ∀ e ∈ ok1 os c0, nmAt (callS os x q) e = nmAt x e ∧ nmAt x e ≠ q := fun e he => stay (ok1_kid off he).2.1 (fun z => hut (inok he z).symm) fun z => uU c0 (by rw [← z]; exact he)
          have s2 := stay (mem_cenL.mp hc0).1 (cd c0 hc0) (fun z => hut z.symm)
          rcases top with a | ⟨a, b⟩
          · exact .inl fun e he => by rw [(st e he).1]; exact nR (a e he) (st e he).2
          · refine .inr ⟨by rw [s2.1]; exact List.mem_append_left _ a, fun e he h2 => ?_⟩
            rw [(st e he).1] at h2 ⊢
            rw [s2.1]
            exact b e he fun z => h2 (nR z (st e he).2)
    · -- from a center that is not settled
      have dc : d ∈ cenL os := mem_cenL.mpr ⟨dl, hop⟩
      have dk : ¬ lvl os d ≤ k := fun h => nocen d dc h rfl
      have df : ∀ c, c ∈ cenL os → lvl os c ≤ k + 1 → ¬ (u = c ∨ u ∈ ok1 os c) := fun c h1 h2 h3 => by
        have hf : d ∈ feed os c := (mem_feed d0 dl).mpr (by
          rw [show sup os d = u from hu]
          rcases h3 with z | z
          · rw [z]; exact List.mem_cons_self
          · exact List.mem_cons_of_mem _ z)
        have := lvl_feed off h1 hf
        exact dk (by omega)
      have dO : ∀ c, d ∉ ok1 os c := fun c h => hop (ok1_kid off h).2.2.2
      refine ⟨cs', spl', fun c h1 h2 => ?_, ?_⟩
      · have f := df c h1 (by omega)
        exact keep c h1 h2 (fun z => dk (by rw [← z]; exact h2)) (fun z => f (.inl z.symm)) (dO c) fun z => f (.inr z)
      · have f := df c0 hc0 l0
        have st : ∀ e ∈ ok1 os c0, nmAt (callS os x q) e = nmAt x e ∧ nmAt x e ≠ q := fun e he => stay (ok1_kid off he).2.1 (fun z => dO c0 (by rw [← z]; exact he)) fun z => f (.inr (by rw [← z]; exact he))
        rcases top with a | ⟨a, b⟩
        · exact .inl fun e he => by rw [(st e he).1]; exact nR (a e he) (st e he).2
        · by_cases hd2 : c0 = d
          · exfalso
            rw [hd2, dn] at a
            have := ix_done ho hn a
            omega
          · have s2 := stay (mem_cenL.mp hc0).1 hd2 (fun z => f (.inl z.symm))
            refine .inr ⟨by rw [s2.1]; exact List.mem_append_left _ a, fun e he h2 => ?_⟩
            rw [(st e he).1] at h2 ⊢
            rw [s2.1]
            exact b e he fun z => h2 (nR z (st e he).2)
theorem Da.run (ha : ord.length = os.length + 1) (hc0 : c0 ∈ cenL os) (l0 : lvl os c0 ≤ k + 1) : ∀ {R x D : List Str}, Da os ord k c0 x D R → Da os ord k c0 (callsS os x R) ord []
  | [], x, D, dy => by
    have := dy.spl
    rw [List.append_nil] at this
    rw [this]
    rw [this] at dy
    exact dy
  | q :: R, x, D, dy => by
    show Da os ord k c0 (callsS os (callS os x q) R) ord []
    exact Da.run ha hc0 l0 (dy.step ha hc0 l0)
/-- the groups up to level k are settled -/
def stL (os : List Nat) (s ord : List Str) (k : Nat) : Prop := ∀ c ∈ cenL os, lvl os c ≤ k → blkD os s ord c = []
theorem Da.start (cs : Case os s ord) (ha : ord.length = os.length + 1) (h : stL os s ord k) : Da os ord k c0 s [] ord := by
  refine ⟨cs, rfl, fun d h1 h2 => ?_, .inl fun e he => all_in cs ha (ok1_kid cs.off he).2.1⟩
  obtain ⟨h3, h4⟩ := mem_cenL.mp h1
  have hk := okd_1 cs ha h3
  have hb : blk s ord (ok1 os d) d = [] := by
    rw [← hk]
    exact h d h1 h2
  obtain ⟨a, b⟩ := blk_some cs h3 (fun e he => ⟨(ok1_kid cs.off he).2.1, by have := (ok1_kid cs.off he).1; omega, all_in cs ha (ok1_kid cs.off he).2.1⟩) h4 hb
  exact ⟨a, fun e he => all_in cs ha (ok1_kid cs.off he).2.1, .inl ⟨b, fun _ e he => all_in cs ha (ok1_kid cs.off he).2.1⟩⟩
theorem Da.done (ha : ord.length = os.length + 1) (hc0 : c0 ∈ cenL os) (dy : Da os ord k c0 x ord []) : blkD os x ord c0 = [] := by
  obtain ⟨h3, h4⟩ := mem_cenL.mp hc0
  show blk x ord (okd0 os x ord c0) c0 = []
  rw [okd_1 dy.cs ha h3]
  rcases dy.top with a | ⟨a, b⟩
  · obtain ⟨e, he⟩ := List.exists_mem_of_ne_nil _ h4
    have := a e he
    cases this
  · exact blk_none dy.cs.ond a fun e he => b e he (by simp)
end
end Ds
end
section
set_option Elab.async false
set_option linter.all false
set_option maxRecDepth 100000
set_option maxHeartbeats 1000000
open PySem PySem.Spec PyProof.Rows L2
namespace Ds
@[simp] theorem g_cutSc {ds : List PyData} {lo hi : Option Int} : gCut (.dict [(.bool true, .list ds)]) lo hi = some (.list (cutD ds lo hi)) := rfl
end Ds
end
section
set_option Elab.async false
set_option linter.all false
set_option maxRecDepth 100000
set_option maxHeartbeats 1000000
open PySem PySem.Spec PyProof.Rows L2
namespace Ds
section
variable {os : List Nat} {s ord A B : List Str} {φ : Str → Str} {u : Nat} {z : Str}
/-- a row with other names -/
def rowM (φ : Str → Str) : PyData → PyData
  | .tuple [.str n, d, .str p] => .tuple [.str (φ n), d, .str (φ p)]
  | .tuple [.str n, d, .none] => .tuple [.str (φ n), d, .none]
  | w => w
theorem Ren.row (r : Ren os s ord φ) {n : Str} (hn : n ∈ s) : rowS os (s.map φ) (φ n) = rowM φ (rowS os s n) := by
  have hi := idx_lt hn
  have hl := r.c.len
  unfold rowS
  rw [idx_map fun x hx => r.inj x hx n hn]
  by_cases h0 : 0 < s.idxOf n
  · have lt := off_lt r.c.off h0 (by omega)
    rw [if_pos h0, if_pos h0, nm_map (by omega)]
    rfl
  · rw [if_neg h0, if_neg h0]
    rfl
end
end Ds
end
section
set_option Elab.async false
set_option linter.all false
set_option maxRecDepth 100000
set_option maxHeartbeats 1000000
open PySem PySem.Spec PyProof.Rows L2
namespace Ds
mutual
theorem eqv_lay : ∀ d : PyData, d.canLay0 = true → PyData.eqv d d = true
  | .none, _ => rfl
  | .bool b, _ => by simp [PyData.eqv]
  | .int i, _ => by simp [PyData.eqv]
  | .str x, _ => by simp [PyData.eqv]
  | .list xs, h => by
    simp only [PyData.canLay0] at h
    simp only [PyData.eqv]
    exact eqv_layA xs h
  | .tuple xs, h => by
    simp only [PyData.canLay0] at h
    simp only [PyData.eqv]
    exact eqv_layA xs h
  | .dict kvs, h => by simp [PyData.canLay0] at h
theorem eqv_layA : ∀ ds : List PyData, PyData.canLayAll0 ds = true → PyData.eqvAll ds ds = true
  | [], _ => rfl
  | d :: ds, h => by
    simp only [PyData.canLayAll0, Bool.and_eq_true] at h
    simp only [PyData.eqvAll, Bool.and_eq_true]
    exact ⟨eqv_lay d h.1, eqv_layA ds h.2⟩
end
/-- data that can be compared -/
structure Lay (d : PyData) (n : Nat) : Prop where
  lay : d.canLay0 = true
  deep : d.depth ≤ n
theorem Lay.ok {d : PyData} {n : Nat} (h : Lay d n) (hn : n ≤ 64) : okEq d = true := by
  have h1 := h.lay
  have h2 : d.depth ≤ 64 := Nat.le_trans h.deep hn
  have h3 := PyData.hasDict_of_canLay d h1
  unfold okEq SeqAt.shaped
  rw [h1, h3, decide_eq_true h2]
  cases d with
  | dict kvs => simp [PyData.canLay0] at h1
  | _ => rfl
theorem Lay.eq {d : PyData} {n : Nat} (h : Lay d n) (hn : n ≤ 64) : gEq d d = some (.bool true) := by
  unfold gEq
  cases e : bothS d d with
  | some b =>
    obtain ⟨x, y, e1, e2, e3⟩ := bothS_some e
    rw [e1] at e2
    cases e2
    rw [e3, beq_self_eq_true]
  | none =>
    show (if okEq d = true ∧ okEq d = true then some (PyData.bool (PyData.eqv d d)) else none) = _
    rw [if_pos ⟨h.ok hn, h.ok hn⟩, eqv_lay d h.lay]
theorem Lay.ne {d : PyData} {n : Nat} (h : Lay d n) (hn : n ≤ 64) : gNe d d = some (.bool false) := by
  unfold gNe
  cases e : bothS d d with
  | some b =>
    obtain ⟨x, y, e1, e2, e3⟩ := bothS_some e
    rw [e1] at e2
    cases e2
    rw [e3, beq_self_eq_true]
    rfl
  | none =>
    show (if okEq d = true ∧ okEq d = true then some (PyData.bool (!PyData.eqv d d)) else none) = _
    rw [if_pos ⟨h.ok hn, h.ok hn⟩, eqv_lay d h.lay]
    rfl
theorem lay_all {n : Nat} : ∀ {ds : List PyData}, (∀ d ∈ ds, Lay d n) → PyData.canLayAll0 ds = true ∧ PyData.depthAll ds ≤ n
  | [], _ => ⟨rfl, Nat.zero_le _⟩
  | d :: ds, h => by
    obtain ⟨a, b⟩ := lay_all (ds := ds) fun e he => h e (List.mem_cons_of_mem _ he)
    have c := h d List.mem_cons_self
    have c1 := c.lay
    have c2 := c.deep
    refine ⟨by simp only [PyData.canLayAll0, c1, a]; rfl, ?_⟩
    simp only [PyData.depthAll]
    omega
theorem Lay.list {n : Nat} {ds : List PyData} (h : ∀ d ∈ ds, Lay d n) : Lay (.list ds) (n + 1) := by
  obtain ⟨a, b⟩ := lay_all h
  exact ⟨by simp only [PyData.canLay0]; exact a, by simp only [PyData.depth]; omega⟩
theorem Lay.tuple {n : Nat} {ds : List PyData} (h : ∀ d ∈ ds, Lay d n) : Lay (.tuple ds) (n + 1) := by
  obtain ⟨a, b⟩ := lay_all h
  exact ⟨by simp only [PyData.canLay0]; exact a, by simp only [PyData.depth]; omega⟩
theorem Lay.int {i : Int} : Lay (.int i) 0 := ⟨rfl, Nat.le_refl _⟩
theorem Lay.up {d : PyData} {n m : Nat} (h : Lay d n) (l : n ≤ m) : Lay d m := ⟨h.lay, Nat.le_trans h.deep l⟩
theorem Lay.str {x : Str} (h : Nm x) : Lay (.str x) 0 := ⟨by simp only [PyData.canLay0]; exact nm_strOk h, Nat.le_refl _⟩
end Ds
end
section
set_option Elab.async false
set_option linter.all false
set_option maxRecDepth 100000
set_option maxHeartbeats 1000000
open PySem PySem.Spec PyProof.Rows L2
namespace Ds
theorem alt_nx {s1 s2 : SS} {S T : En} (h : s1 S = .nx T) : sAlt s1 s2 S = .nx T := by unfold sAlt; rw [h]
theorem alt_rt {s1 s2 : SS} {S T : En} {x : Sl} (h : s1 S = .rt x T) : sAlt s1 s2 S = .rt x T := by unfold sAlt; rw [h]
theorem alt_no {s1 s2 : SS} {S : En} (h : s1 S = .no) : sAlt s1 s2 S = s2 S := by unfold sAlt; rw [h]
theorem alt_ok {s1 s2 : SE} {S T : En} {d : PyData} (h : s1 S = .ok d T) : eAlt s1 s2 S = .ok d T := by unfold eAlt; rw [h]
theorem alt_noE {s1 s2 : SE} {S : En} (h : s1 S = .no) : eAlt s1 s2 S = s2 S := by unfold eAlt; rw [h]
def q_t1 : SS := sSet 3 (sK .none)
def q_t2a : SS := sSetNew 3 (sCallN m_seating_from_desks (sGv (sVar 0) (sGv (sVar 1) (sGv (sVar 2) sG0))))
def q_t2b (x f : Str) : SS := sSet 3 (sFld x f (sVar 4))
def q_t3 : SS := sAlt (sRetOwn 3) (sRet (sVar 3))
theorem c_to42_eq : c__law_toldP = sSeq q_t1 (sSeq (sTryS ERRS 4 q_t2a (q_t2b "Impossible" "index")) q_t3) := rfl
section
variable {s0 s1 s2 s3 s4 : Sl} {M : Mf} {T : En} {a b d : PyData} {Z : List PyData} {c : Ec} {n : Int} {x f : Str}
theorem t_t1 : q_t1 [s0, s1, s2, .nil, s4] = .nx [s0, s1, s2, .val .none, s4] := by simp [q_t1]
theorem t_t2n (e : M [.val a, .val b, .val d] = .ok (.own Z) T) : sSetNew 3 (sCallN M (sGv (sVar 0) (sGv (sVar 1) (sGv (sVar 2) sG0)))) [.val a, .val b, .val d, .val .none, s4] = .nx [.val a, .val b, .val d, .own Z, s4] := by simp [e]
theorem t_t2x (e : M [.val a, .val b, .val d] = .ex c T) : sSetNew 3 (sCallN M (sGv (sVar 0) (sGv (sVar 1) (sGv (sVar 2) sG0)))) [.val a, .val b, .val d, s3, s4] = .ex c [.val a, .val b, .val d, s3, s4] := by simp [e]
theorem t_t2b : q_t2b x f [s0, s1, s2, .val .none, .val (excD ⟨x, some (f, n)⟩)] = .nx [s0, s1, s2, .val (.int n), .val (excD ⟨x, some (f, n)⟩)] := by simp [q_t2b]
theorem t_t3o : q_t3 [s0, s1, s2, .own Z, s4] = .rt (.own Z) [s0, s1, s2, .own Z, s4] := alt_rt (by simp)
theorem t_t3v : q_t3 [s0, s1, s2, .val (.int n), s4] = .rt (.val (.int n)) [s0, s1, s2, .val (.int n), s4] := (alt_no (by simp; rfl)).trans (by simp)
end
def dueS : Nat ⊕ List Nat → Sl
  | .inl k => .val (.int ((k : Nat) : Int))
  | .inr f => .own (nts f)
section
variable {os ds : List Nat} {ss ord : List Str}
theorem told_ok (c : Case os ss ord) (hd : ∀ d ∈ ds, d ≤ os.length) (hl : ds.length = ord.length) : ∃ T, m__law_toldP [vO os, vS ord, .val (.tuple (nts ds))] = .ok (dueS (due os ds)) T := by
  have h := sfd_ok c hd hl
  rw [m__law_toldP, r_mB]
  show ∃ T, (c__law_toldP [vO os, vS ord, .val (.tuple (nts ds)), .nil, .nil]).fin = _
  rw [c_to42_eq, r_sSeq, t_t1, sq_nx, r_sSeq]
  cases e : due os ds with
  | inl k =>
    rw [e] at h
    obtain ⟨_, T, e1⟩ := h
    have hx : q_t2a [vO os, vS ord, .val (.tuple (nts ds)), .val .none, .nil] = .ex (ecI k) [vO os, vS ord, .val (.tuple (nts ds)), .val .none, .nil] := t_t2x e1
    have tr : sTryS ERRS 4 q_t2a (q_t2b "Impossible" "index") [vO os, vS ord, .val (.tuple (nts ds)), .val .none, .nil] = .nx [vO os, vS ord, .val (.tuple (nts ds)), .val (.int ((k : Nat) : Int)), .nil] := by
      show (match q_t2a [vO os, vS ord, .val (.tuple (nts ds)), .val .none, .nil] with
        | .ex c S' => if c.n ∈ ERRS ∧ isNil S'[4]? = true then suEnd 4 (q_t2b "Impossible" "index" (S'.set 4 (.val (excD c)))) else .no
        | r => r) = _
      rw [hx]
      show (if ("Impossible" : Str) ∈ ERRS ∧ isNil (some Sl.nil) = true then suEnd 4 (q_t2b "Impossible" "index" [vO os, vS ord, .val (.tuple (nts ds)), .val .none, .val (excD (ecI k))]) else .no) = _
      rw [if_pos ⟨by decide +kernel, rfl⟩, t_t2b]
      rfl
    rw [tr, sq_nx, t_t3v]
    exact ⟨_, rfl⟩
  | inr f =>
    rw [e] at h
    obtain ⟨T, e1⟩ := h
    have hx : q_t2a [vO os, vS ord, .val (.tuple (nts ds)), .val .none, .nil] = .nx [vO os, vS ord, .val (.tuple (nts ds)), .own (nts f), .nil] := t_t2n e1
    have tr : sTryS ERRS 4 q_t2a (q_t2b "Impossible" "index") [vO os, vS ord, .val (.tuple (nts ds)), .val .none, .nil] = .nx [vO os, vS ord, .val (.tuple (nts ds)), .own (nts f), .nil] := by
      show (match q_t2a [vO os, vS ord, .val (.tuple (nts ds)), .val .none, .nil] with
        | .ex c S' => if c.n ∈ ERRS ∧ isNil S'[4]? = true then suEnd 4 (q_t2b "Impossible" "index" (S'.set 4 (.val (excD c)))) else .no
        | r => r) = _
      rw [hx]
    rw [tr, sq_nx, t_t3o]
    exact ⟨_, rfl⟩
end
def q_w1 : SS := sSet 1 (sCallV m__law_officeP (sGr 0 (sGv (sK (.int 40)) sG0)))
def q_w2 : SS := sSet 2 (sCallV m__law_namesP (sGr 0 (sGv (sBin gAdd (sCallB gLen (sCons (sVar 1) sNil)) (sK (.int 1))) sG0)))
def q_w3 : SS := sSet 3 (sCallB gTupT (sCons (sCut (sNE (sCallN m__law_mixedP (sGr 0 (sGv (sVar 2) sG0)))) sP0 (sP1 (sBin gSub_ (sCallB gLen (sCons (sVar 2) sNil)) (sCallV m__law_drawP (sGr 0 (sGv (sBin gIx (sNE (sLst (sCons (sK (.int 1)) (sCons (sBin gAdd (sCallB gLen (sCons (sVar 2) sNil)) (sK (.int 1))) sNil)))) (sCallV m__law_drawP (sGr 0 (sGv (sK (.int 2)) sG0)))) sG0)))))) sNil))
def q_w4 : SS := sSet 4 (sNE (sCallN m__law_dayP (sGv (sVar 1) (sGv (sVar 2) (sGv (sVar 3) sG0)))))
def q_w5l : SN := sLc (sISq (sVar 3)) (gNm 11) sYes (sTix (sVar 2) (sVar 11)) [11]
def q_w5 : SS := sSet 5 (sNE q_w5l)
def q_w6 : SS := sIf (sTst (sBin gNe (sRd lRepr (sCallN m_seating_from_desks (sGv (sVar 1) (sGv (sVar 3) (sGv (sCallB gTupT (sCons (sVar 4) sNil)) sG0))))) (sRepr (sVar 5)))) (sRet (sK (.bool false))) sNx
def q_w7l : SN := sLc (sISq (sVar 3)) (gNm 11) sYes (sCallV m__law_drawP (sGr 0 (sGv (sCallB gLen (sCons (sVar 2) sNil)) sG0))) [11]
def q_w7 : SS := sSetNew 6 (sLst (sCons (sNE q_w7l) sNil))
def q_w8a : SS := sSetNew 8 (sListN (sCons (sVar 4) sNil))
def q_w8r : SN := sRng1 (sCons (sBin gMul (sCallV m__law_drawP (sGr 0 (sGv (sK (.int 3)) sG0))) (sCallB gInt1 (sCons (sBin gNe (sVar 3) (sTup sNil)) sNil))) sNil)
def q_w8b : SS := sSetIx 8 (sCallV m__law_drawP (sGr 0 (sGv (sRd lLen (sLVar 8)) sG0))) (sCallV m__law_drawP (sGr 0 (sGv (sCallB gLen (sCons (sVar 2) sNil)) sG0)))
def q_w8c : SS := sFrz 8 (sDrop (sAppend 6 (sVar 8)))
def q_w8 : SS := sSeq q_w8a (sSeq (sFor q_w8r (gNm 9) q_w8b) q_w8c)
def q_rr42 : SE := sRd lRepr (sLst (sCons (sVar 1) (sCons (sVar 3) (sCons (sVar 8) sNil))))
def q_y1 : SS := sParV 12 13 (sCons q_rr42 (sCons (sCallV m__law_dueP (sGv (sVar 1) (sGv (sVar 8) sG0))) sNil))
def q_y2 : SS := sAlt (sSetNew 10 (sCallN m__law_toldP (sGv (sVar 1) (sGv (sVar 3) (sGv (sRd lTup (sLVar 8)) sG0))))) (sSet 10 (sCallV m__law_toldP (sGv (sVar 1) (sGv (sVar 3) (sGv (sRd lTup (sLVar 8)) sG0)))))
def q_y3a : SE := eAlt (sRd lRepr (sLVar 10)) (sRepr (sVar 10))
def q_y3 : SS := sIf (sOr (sTst (sBin gNe q_y3a (sRepr (sVar 13)))) (sTst (sBin gNe q_rr42 (sVar 12)))) (sRet (sK (.bool false))) sNx
def q_y4a : SE := eAlt (sIsLN (sLVar 10)) (sIsNL (sVar 10))
def q_y4b : SS := sDrop (sAppend 10 (sK (.int 0)))
def q_y4c : SS := sIf (sTst (sBin gNe (sNE (sCallN m_seating_from_desks (sGv (sVar 1) (sGv (sVar 3) (sGv (sRd lTup (sLVar 8)) sG0))))) (sVar 13))) (sRet (sK (.bool false))) sNx
def q_y4 : SS := sIf (sTst q_y4a) (sSeq q_y4b q_y4c) sNx
def q_y : SS := sSeq q_y1 (sSeq q_y2 (sSeq q_y3 q_y4))
theorem c_rt42_eq : c__law_rightP = sSeq q_w1 (sSeq q_w2 (sSeq q_w3 (sSeq q_w4 (sSeq q_w5 (sSeq q_w6 (sSeq q_w7 (sSeq (sFor (sRng1 (sCons (sK (.int 3)) sNil)) (gNm 7) q_w8) (sFrz 6 (sSeq (sFor (sIL (sVar 6)) (gNm 8) q_y) (sRet (sK (.bool true))))))))))))  := rfl
section
variable {M N : Mf} {T1 T2 T3 T : En} {o a b r d z x : PyData} {F G L D Z bag bag1 bag2 bag3 bag4 : List PyData} {s0 s1 s2 s3 s4 s5 s6 s7 s8 s9 s10 s11 s12 s13 : Sl}
theorem t_w1 (e : M [.io bag, .val (.int 40)] = .ok (.val o) (.io bag1 :: T1)) : sSet 1 (sCallV M (sGr 0 (sGv (sK (.int 40)) sG0))) [.io bag, .nil, s2, s3, s4, s5, s6, s7, s8, s9, s10, s11, s12, s13] = .nx [.io bag1, .val o, s2, s3, s4, s5, s6, s7, s8, s9, s10, s11, s12, s13] := by
  simp [e]
theorem t_w2' {n : Int} (hn : (F.length : Int) + 1 = n) (e : M [.io bag, .val (.int n)] = .ok (.val a) (.io bag1 :: T1)) : sSet 2 (sCallV M (sGr 0 (sGv (sBin gAdd (sCallB gLen (sCons (sVar 1) sNil)) (sK (.int 1))) sG0))) [.io bag, .val (.tuple F), .nil, s3, s4, s5, s6, s7, s8, s9, s10, s11, s12, s13] = .nx [.io bag1, .val (.tuple F), .val a, s3, s4, s5, s6, s7, s8, s9, s10, s11, s12, s13] := by
  subst hn
  simp [e]
theorem t_w3' {r1 y r2 : Int} (e1 : N [.io bag, .val (.tuple F)] = .ok (.own G) (.io bag1 :: T1)) (e2 : M [.io bag1, .val (.int 2)] = .ok (.val (.int r1)) (.io bag2 :: T2)) (ey : atI [PyData.int 1, .int ((F.length : Int) + 1)] r1 = some (.int y)) (e3 : M [.io bag2, .val (.int y)] = .ok (.val (.int r2)) (.io bag3 :: T3)) (hL : cutD G none (some ((F.length : Int) - r2)) = L) :
    sSet 3 (sCallB gTupT (sCons (sCut (sNE (sCallN N (sGr 0 (sGv (sVar 2) sG0)))) sP0 (sP1 (sBin gSub_ (sCallB gLen (sCons (sVar 2) sNil)) (sCallV M (sGr 0 (sGv (sBin gIx (sNE (sLst (sCons (sK (.int 1)) (sCons (sBin gAdd (sCallB gLen (sCons (sVar 2) sNil)) (sK (.int 1))) sNil)))) (sCallV M (sGr 0 (sGv (sK (.int 2)) sG0)))) sG0)))))) sNil)) [.io bag, s1, .val (.tuple F), .nil, s4, s5, s6, s7, s8, s9, s10, s11, s12, s13] = .nx [.io bag3, s1, .val (.tuple F), .val (.tuple L), s4, s5, s6, s7, s8, s9, s10, s11, s12, s13] := by
  have gc : gCut (.list G) none (some ((F.length : Int) - r2)) = some (.list L) := by
    show some (PyData.list (cutD G none (some ((F.length : Int) - r2)))) = _
    rw [hL]
  have gt : gTupT [.list L] = some (.tuple L) := rfl
  simp [e1, e2, ey, e3, hL, gt, sizeLine]
theorem t_w4 (e : M [.val o, .val a, .val b] = .ok (.own L) T1) : sSet 4 (sNE (sCallN M (sGv (sVar 1) (sGv (sVar 2) (sGv (sVar 3) sG0))))) [s0, .val o, .val a, .val b, .nil, s5, s6, s7, s8, s9, s10, s11, s12, s13] = .nx [s0, .val o, .val a, .val b, .val (.list L), s5, s6, s7, s8, s9, s10, s11, s12, s13] := by simp [e]
theorem t_w5 {n : SN} (e : n [s0, s1, s2, s3, s4, .nil, s6, s7, s8, s9, s10, s11, s12, s13] = .ok L [s0, s1, s2, s3, s4, .nil, s6, s7, s8, s9, s10, s11, s12, s13]) : sSet 5 (sNE n) [s0, s1, s2, s3, s4, .nil, s6, s7, s8, s9, s10, s11, s12, s13] = .nx [s0, s1, s2, s3, s4, .val (.list L), s6, s7, s8, s9, s10, s11, s12, s13] := by simp [e]
theorem t_w5l {e : SE} (lc : lcL (gNm 11) sYes e [11] L [s0, s1, s2, .val (.tuple L), s4, s5, s6, s7, s8, s9, s10, .nil, s12, s13] = .ok Z [s0, s1, s2, .val (.tuple L), s4, s5, s6, s7, s8, s9, s10, .nil, s12, s13]) (hl : L.length < 16777216) : sLc (sISq (sVar 3)) (gNm 11) sYes e [11] [s0, s1, s2, .val (.tuple L), s4, s5, s6, s7, s8, s9, s10, .nil, s12, s13] = .ok Z [s0, s1, s2, .val (.tuple L), s4, s5, s6, s7, s8, s9, s10, .nil, s12, s13] := by
  simp [wipeS, lc, unwipe, sizeLine, hl]
theorem t_w7l {e : SE} (lc : lcL (gNm 11) sYes e [11] L [s0, s1, s2, .val (.tuple L), s4, s5, s6, s7, s8, s9, s10, .nil, s12, s13] = .ok Z [.io bag, s1, s2, .val (.tuple L), s4, s5, s6, s7, s8, s9, s10, .nil, s12, s13]) (hl : L.length < 16777216) : sLc (sISq (sVar 3)) (gNm 11) sYes e [11] [s0, s1, s2, .val (.tuple L), s4, s5, s6, s7, s8, s9, s10, .nil, s12, s13] = .ok Z [.io bag, s1, s2, .val (.tuple L), s4, s5, s6, s7, s8, s9, s10, .nil, s12, s13] := by
  simp [wipeS, lc, unwipe, sizeLine, hl, noEx]
theorem t_w6 (e : M [.val o, .val b, .val (.tuple D)] = .ok (.own Z) T) (ok : okR (.list Z)) : sIf (sTst (sBin gNe (sRd lRepr (sCallN M (sGv (sVar 1) (sGv (sVar 3) (sGv (sCallB gTupT (sCons (sVar 4) sNil)) sG0))))) (sRepr (sVar 5)))) (sRet (sK (.bool false))) sNx [s0, .val o, s2, .val b, .val (.list D), .val (.list Z), s6, s7, s8, s9, s10, s11, s12, s13] = .nx [s0, .val o, s2, .val b, .val (.list D), .val (.list Z), s6, s7, s8, s9, s10, s11, s12, s13] := by
  have gt : gTupT [.list D] = some (.tuple D) := rfl
  simp [e, ok, gt, lRepr]
theorem t_w7 {n : SN} (e : n [.io bag, s1, s2, s3, s4, s5, .nil, s7, s8, s9, s10, s11, s12, s13] = .ok L [.io bag1, s1, s2, s3, s4, s5, .nil, s7, s8, s9, s10, s11, s12, s13]) : sSetNew 6 (sLst (sCons (sNE n) sNil)) [.io bag, s1, s2, s3, s4, s5, .nil, s7, s8, s9, s10, s11, s12, s13] = .nx [.io bag1, s1, s2, s3, s4, s5, .own [.list L], s7, s8, s9, s10, s11, s12, s13] := by simp [e, sizeLine]
theorem t_w8a (h8 : noio (some s8) = true) (hD : D.length ≤ 16777216) : q_w8a [s0, s1, s2, s3, .val (.list D), s5, s6, s7, s8, s9, s10, s11, s12, s13] = .nx [s0, s1, s2, s3, .val (.list D), s5, s6, s7, .own D, s9, s10, s11, s12, s13] := by simp [q_w8a, h8, hD, asLT, sizeLine]
theorem t_w8r {r1 : Int} {bb : Bool} {m : Int} {H : List PyData} (e : M [.io bag, .val (.int 3)] = .ok (.val (.int r1)) (.io bag1 :: T1)) (gn : gNe (.tuple L) (.tuple []) = some (.bool bb)) (gm : gMul (.int r1) (.int (if bb then 1 else 0)) = some (.int m)) (hr : rng1 [.int m] = some H) : sRng1 (sCons (sBin gMul (sCallV M (sGr 0 (sGv (sK (.int 3)) sG0))) (sCallB gInt1 (sCons (sBin gNe (sVar 3) (sTup sNil)) sNil))) sNil) [.io bag, s1, s2, .val (.tuple L), s4, s5, s6, s7, s8, s9, s10, s11, s12, s13] = .ok H [.io bag1, s1, s2, .val (.tuple L), s4, s5, s6, s7, s8, s9, s10, s11, s12, s13] := by
  refine rng1_run (ds := [.int m]) ?_ hr
  have gi : gInt1 [.bool bb] = some (.int (if bb then 1 else 0)) := by cases bb <;> rfl
  simp [-g_mul, e, gn, gi, gm, sizeLine]
theorem t_w8b {u v : Int} {n w : Int} {D1 : List PyData} (hn : (F.length : Int) = n) (hw : (D.length : Int) = w) (e1 : M [.io bag, .val (.int n)] = .ok (.val (.int u)) (.io bag1 :: T1)) (e2 : M [.io bag1, .val (.int w)] = .ok (.val (.int v)) (.io bag2 :: T2)) (es : setI D (.int v) (.int u) = some D1) :
    sSetIx 8 (sCallV M (sGr 0 (sGv (sRd lLen (sLVar 8)) sG0))) (sCallV M (sGr 0 (sGv (sCallB gLen (sCons (sVar 2) sNil)) sG0))) [.io bag, s1, .val (.tuple F), s3, s4, s5, s6, s7, .own D, s9, s10, s11, s12, s13] = .nx [.io bag2, s1, .val (.tuple F), s3, s4, s5, s6, s7, .own D1, s9, s10, s11, s12, s13] := by
  simp [hn, hw, e1, e2, es, lLen]
theorem t_w8c (h : L.length < 1000000) : q_w8c [s0, s1, s2, s3, s4, s5, .own L, s7, .own D, s9, s10, s11, s12, s13] = .nx [s0, s1, s2, s3, s4, s5, .own (L ++ [.list D]), s7, .val (.list D), s9, s10, s11, s12, s13] := by
  have h1 : L.length < 16777216 := by omega
  simp [q_w8c, h1, sizeLine]
theorem t_rr42 (ok : okR (.list [o, b, r])) : q_rr42 [s0, .val o, s2, .val b, s4, s5, s6, s7, .val r, s9, s10, s11, s12, s13] = .ok (.str (PyData.list [o, b, r]).shown) [s0, .val o, s2, .val b, s4, s5, s6, s7, .val r, s9, s10, s11, s12, s13] := by
  simp [q_rr42, ok, sizeLine, lRepr]
theorem t_y1 {q : SE} (eq : q [s0, .val o, s2, .val b, s4, s5, s6, s7, .val r, s9, s10, s11, s12, s13] = .ok x [s0, .val o, s2, .val b, s4, s5, s6, s7, .val r, s9, s10, s11, s12, s13]) (e : M [.val o, .val r] = .ok (.val z) T) (h12 : noio (some s12) = true) (h13 : noio (some s13) = true) : sParV 12 13 (sCons q (sCons (sCallV M (sGv (sVar 1) (sGv (sVar 8) sG0))) sNil)) [s0, .val o, s2, .val b, s4, s5, s6, s7, .val r, s9, s10, s11, s12, s13] = .nx [s0, .val o, s2, .val b, s4, s5, s6, s7, .val r, s9, s10, s11, .val x, .val z] := by
  simp [eq, e, h12, h13]
theorem t_y2o (e : M [.val o, .val b, .val (.tuple D)] = .ok (.own Z) T) (h10 : noio (some s10) = true) : sAlt (sSetNew 10 (sCallN M (sGv (sVar 1) (sGv (sVar 3) (sGv (sRd lTup (sLVar 8)) sG0))))) (sSet 10 (sCallV M (sGv (sVar 1) (sGv (sVar 3) (sGv (sRd lTup (sLVar 8)) sG0))))) [s0, .val o, s2, .val b, s4, s5, s6, s7, .val (.list D), s9, s10, s11, s12, s13] = .nx [s0, .val o, s2, .val b, s4, s5, s6, s7, .val (.list D), s9, .own Z, s11, s12, s13] :=
  alt_nx (by simp [e, h10, lTup])
theorem t_y2v {k : Int} (e : M [.val o, .val b, .val (.tuple D)] = .ok (.val (.int k)) T) (h10 : noio (some s10) = true) : sAlt (sSetNew 10 (sCallN M (sGv (sVar 1) (sGv (sVar 3) (sGv (sRd lTup (sLVar 8)) sG0))))) (sSet 10 (sCallV M (sGv (sVar 1) (sGv (sVar 3) (sGv (sRd lTup (sLVar 8)) sG0))))) [s0, .val o, s2, .val b, s4, s5, s6, s7, .val (.list D), s9, s10, s11, s12, s13] = .nx [s0, .val o, s2, .val b, s4, s5, s6, s7, .val (.list D), s9, .val (.int k), s11, s12, s13] :=
  (alt_no (by simp [e, h10, lTup]; rfl)).trans (by simp [e, h10, lTup])
theorem t_y3 {q p : SE} {w : Str} {S : En} {y : PyData} (e1 : p S = .ok (.str w) S) (h13 : S[13]? = some (.val y)) (ok : okR y) (hw : y.shown = w) (e2 : q S = .ok (.str u) S) (h12 : S[12]? = some (.val (.str u))) : sIf (sOr (sTst (sBin gNe p (sRepr (sVar 13)))) (sTst (sBin gNe q (sVar 12)))) (sRet (sK (.bool false))) sNx S = .nx S := by
  simp [e1, h13, ok, hw, e2, h12]
theorem t_y3o (ok : okR (.list Z)) : q_y3a [s0, s1, s2, s3, s4, s5, s6, s7, s8, s9, .own Z, s11, s12, s13] = .ok (.str (PyData.list Z).shown) [s0, s1, s2, s3, s4, s5, s6, s7, s8, s9, .own Z, s11, s12, s13] := alt_ok (by simp [ok, lRepr])
theorem t_y3v {k : Int} (ok : okR (.int k)) : q_y3a [s0, s1, s2, s3, s4, s5, s6, s7, s8, s9, .val (.int k), s11, s12, s13] = .ok (.str (PyData.int k).shown) [s0, s1, s2, s3, s4, s5, s6, s7, s8, s9, .val (.int k), s11, s12, s13] := (alt_noE (by simp; rfl)).trans (by simp [ok])
theorem t_y4o {p : SE} {S : En} {u v : SS} (e : p S = .ok (.bool true) S) : sIf (sTst p) u v S = u S := by simp [e]
theorem t_y4v {p : SE} {S : En} {u v : SS} (e : p S = .ok (.bool false) S) : sIf (sTst p) u v S = v S := by simp [e]
theorem t_y4ao : q_y4a [s0, s1, s2, s3, s4, s5, s6, s7, s8, s9, .own Z, s11, s12, s13] = .ok (.bool true) [s0, s1, s2, s3, s4, s5, s6, s7, s8, s9, .own Z, s11, s12, s13] := alt_ok rfl
theorem t_y4av {k : Int} : q_y4a [s0, s1, s2, s3, s4, s5, s6, s7, s8, s9, .val (.int k), s11, s12, s13] = .ok (.bool false) [s0, s1, s2, s3, s4, s5, s6, s7, s8, s9, .val (.int k), s11, s12, s13] := (alt_noE rfl).trans rfl
theorem t_y4b (h : Z.length < 1000000) : q_y4b [s0, s1, s2, s3, s4, s5, s6, s7, s8, s9, .own Z, s11, s12, s13] = .nx [s0, s1, s2, s3, s4, s5, s6, s7, s8, s9, .own (Z ++ [.int 0]), s11, s12, s13] := by
  have h1 : Z.length < 16777216 := by omega
  simp [q_y4b, h1, sizeLine]
theorem t_y4c (e : M [.val o, .val b, .val (.tuple D)] = .ok (.own Z) T) (g : gNe (.list Z) (.list Z) = some (.bool false)) : sIf (sTst (sBin gNe (sNE (sCallN M (sGv (sVar 1) (sGv (sVar 3) (sGv (sRd lTup (sLVar 8)) sG0))))) (sVar 13))) (sRet (sK (.bool false))) sNx [s0, .val o, s2, .val b, s4, s5, s6, s7, .val (.list D), s9, s10, s11, s12, .val (.list Z)] = .nx [s0, .val o, s2, .val b, s4, s5, s6, s7, .val (.list D), s9, s10, s11, s12, .val (.list Z)] := by
  simp [e, g, lTup]
end
end Ds
end
section
set_option Elab.async false
set_option linter.all false
set_option maxRecDepth 100000
set_option maxHeartbeats 1000000
open PySem PySem.Spec PyProof.Rows L2
namespace Ds
theorem due_inr {os : List Nat} {n : Nat} (hn : 0 < n) : ∀ {ds m f g : List Nat} {i : Nat}, (∀ x ∈ m, x < n) → (∀ x ∈ f, x < n) → m.length = n → (∀ d ∈ ds, d < n) → dueF os ds m f i = .inr g → g.length = f.length + ds.length ∧ ∀ x ∈ g, x < n
  | [], m, f, g, i, hm, hf, hl, hd, e => by
    cases e
    exact ⟨rfl, hf⟩
  | d :: ds, m, f, g, i, hm, hf, hl, hd, e => by
    rw [dueF] at e
    split at e
    · cases e
    · have hx : m.getD d 0 < n := by
        have hi : d < m.length := by rw [hl]; exact hd d List.mem_cons_self
        have e : m.getD d 0 = m[d] := by simp [List.getD, List.getElem?_eq_getElem hi]
        rw [e]; exact hm _ (List.getElem_mem hi)
      obtain ⟨h1, h2⟩ := due_inr hn (sw_mem hm hn) (fun x hx' => by
        rcases List.mem_append.mp hx' with q | q
        · exact hf x q
        · rw [List.mem_singleton.mp q]; exact hx) (by rw [sw_len]; exact hl) (fun z hz => hd z (List.mem_cons_of_mem _ hz)) e
      refine ⟨?_, h2⟩
      rw [h1, List.length_append, List.length_cons, List.length_cons, List.length_nil]
      omega
theorem due_fit {os ds f : List Nat} (h : Off os) (hd : ∀ d ∈ ds, d ≤ os.length) (h4 : ds.length ≤ 40) (e : due os ds = .inr f) : f.length ≤ 40 ∧ ∀ x ∈ f, x < 1000000 := by
  have h39 := h.1
  obtain ⟨h1, h2⟩ := due_inr (n := os.length + 1) (by omega) (fun x hx => List.mem_range.mp hx) (fun x hx => by cases hx) (List.length_range) (fun d hx => by have := hd d hx; omega) e
  rw [List.length_nil] at h1
  exact ⟨by omega, fun x hx => by have := h2 x hx; omega⟩
theorem nts_ne {f : List Nat} : gNe (.list (nts f)) (.list (nts f)) = some (.bool false) := (Lay.list (n := 0) fun d hd => by
  obtain ⟨x, _, rfl⟩ := List.mem_map.mp hd
  exact Lay.int).ne (by decide)
section
variable {os : List Nat} {ss ord : List Str}
theorem rr_ok (c : Case os ss ord) {R : List Nat} (hR : ∀ x ∈ R, x ≤ os.length) (hl : R.length = ord.length) : okR (.list [.tuple (nts os), .tuple (sts ord), .list (nts R)]) := by
  have h39 := c.off.1
  have h4 := c.osmall
  refine (fit_list (k := 1) (w := 5000) (n := 3) (fun d hd => ?_) (by simp)).okR
  simp only [List.mem_cons, List.not_mem_nil, or_false] at hd
  rcases hd with rfl | rfl | rfl
  · exact nts_fitT (fun y hy => by
      obtain ⟨i, hi, e⟩ := List.mem_iff_getElem.mp hy
      have := c.off.2 i y (by rw [List.getElem?_eq_getElem hi, e])
      omega) (by omega)
  · exact (sts_fit (fun s hs => c.nm s (c.osub s hs)) (by omega)).mono (by decide) (by decide)
  · exact nts_fitL (fun y hy => by have := hR y hy; omega) (by omega)
theorem y_ok (c : Case os ss ord) {R : List Nat} (hR : ∀ x ∈ R, x ≤ os.length) (hl : R.length = ord.length) {s0 s2 s4 s5 s6 s7 s9 s10 s11 s12 s13 : Sl} (h10 : noio (some s10) = true) (h12 : noio (some s12) = true) (h13 : noio (some s13) = true) :
    ∃ y10 y12 y13, noio (some y10) = true ∧ noio (some y12) = true ∧ noio (some y13) = true ∧ q_y [s0, vO os, s2, vS ord, s4, s5, s6, s7, .val (.list (nts R)), s9, s10, s11, s12, s13] = .nx [s0, vO os, s2, vS ord, s4, s5, s6, s7, .val (.list (nts R)), s9, y10, s11, y12, y13] := by
  have h4 := c.osmall
  have ok := rr_ok c hR hl
  obtain ⟨T1, e1⟩ := law_due c.off hR (by omega)
  obtain ⟨T2, e2⟩ := told_ok c hR hl
  have e3 := sfd_ok c hR hl
  cases e : due os R with
  | inl k =>
    rw [e] at e1 e2 e3
    have e1 : m__law_dueP [vO os, .val (.list (nts R))] = .ok (.val (.int ((k : Nat) : Int))) T1 := e1
    have okk : okR (.int ((k : Nat) : Int)) := (nat_fit (by have := e3.1; omega)).okR
    refine ⟨.val (.int ((k : Nat) : Int)), .val (.str (PyData.list [.tuple (nts os), .tuple (sts ord), .list (nts R)]).shown), .val (.int ((k : Nat) : Int)), rfl, ?_, ?_, ?_⟩
    rotate_left 2
    · rw [q_y, r_sSeq, q_y1, t_y1 (t_rr42 ok) e1 h12 h13, sq_nx, r_sSeq, q_y2, t_y2v e2 h10, sq_nx, r_sSeq, q_y3, t_y3 (t_y3v okk) rfl okk rfl (t_rr42 ok) rfl, sq_nx, q_y4, t_y4v t_y4av]
      rfl
    · rfl
    · rfl
  | inr f =>
    rw [e] at e1 e2 e3
    have e1 : m__law_dueP [vO os, .val (.list (nts R))] = .ok (.val (.list (nts f))) T1 := e1
    obtain ⟨f1, f2⟩ := due_fit c.off hR (by omega) e
    obtain ⟨T3, e3⟩ := e3
    have okk : okR (.list (nts f)) := (nts_fitL f2 f1).okR
    refine ⟨.own (nts f ++ [.int 0]), .val (.str (PyData.list [.tuple (nts os), .tuple (sts ord), .list (nts R)]).shown), .val (.list (nts f)), rfl, ?_, ?_, ?_⟩
    rotate_left 2
    · rw [q_y, r_sSeq, q_y1, t_y1 (t_rr42 ok) e1 h12 h13, sq_nx, r_sSeq, q_y2, t_y2o e2 h10, sq_nx, r_sSeq, q_y3, t_y3 (t_y3o okk) rfl okk rfl (t_rr42 ok) rfl, sq_nx, q_y4, t_y4o t_y4ao, r_sSeq, t_y4b (by rw [nts_len]; omega), sq_nx, q_y4c, t_y4c e3 nts_ne]
    · rfl
    · rfl
def RowD (os : List Nat) (n : Nat) (d : PyData) : Prop := ∃ R : List Nat, d = .list (nts R) ∧ R.length = n ∧ ∀ x ∈ R, x ≤ os.length
theorem y_loop (c : Case os ss ord) {s0 s2 s4 s5 s6 s7 s9 s11 : Sl} : ∀ {L : List PyData} {s8 s10 s12 s13 : Sl}, (∀ d ∈ L, RowD os ord.length d) → bare (some s8) = true → noio (some s10) = true → noio (some s12) = true → noio (some s13) = true →
    ∃ y8 y10 y12 y13, loopL (gNm 8) q_y L [s0, vO os, s2, vS ord, s4, s5, s6, s7, s8, s9, s10, s11, s12, s13] = .nx [s0, vO os, s2, vS ord, s4, s5, s6, s7, y8, s9, y10, s11, y12, y13]
  | [], s8, s10, s12, s13, _, _, _, _, _ => ⟨s8, s10, s12, s13, rfl⟩
  | d :: L, s8, s10, s12, s13, hL, h8, h10, h12, h13 => by
    obtain ⟨R, rfl, r1, r2⟩ := hL d List.mem_cons_self
    obtain ⟨y10, y12, y13, g10, g12, g13, e⟩ := y_ok c r2 r1 (s0 := s0) (s2 := s2) (s4 := s4) (s5 := s5) (s6 := s6) (s7 := s7) (s9 := s9) (s11 := s11) h10 h12 h13
    have e0 : gNm 8 (.list (nts R)) [s0, vO os, s2, vS ord, s4, s5, s6, s7, s8, s9, s10, s11, s12, s13] = .nx [s0, vO os, s2, vS ord, s4, s5, s6, s7, .val (.list (nts R)), s9, s10, s11, s12, s13] := by
      generalize nts R = Z; simp [h8]
    obtain ⟨z8, z10, z12, z13, el⟩ := y_loop c (s0 := s0) (s2 := s2) (s4 := s4) (s5 := s5) (s6 := s6) (s7 := s7) (s9 := s9) (s11 := s11) (L := L) (s8 := .val (.list (nts R))) (fun d hd => hL d (List.mem_cons_of_mem _ hd)) rfl g10 g12 g13
    exact ⟨z8, z10, z12, z13, by rw [loop_nxP e0 e]; exact el⟩
/-- the comprehension of the first desks -/
def fI (ss : List Str) : PyData → PyData
  | .str s => .int ((ss.idxOf s : Nat) : Int)
  | d => d
theorem w5_lc (c : Case os ss ord) {s0 s4 s5 s6 s7 s8 s9 s10 s12 s13 : Sl} : q_w5l [s0, vO os, vS ss, vS ord, s4, s5, s6, s7, s8, s9, s10, .nil, s12, s13] = .ok (nts (ord.map fun s => ss.idxOf s)) [s0, vO os, vS ss, vS ord, s4, s5, s6, s7, s8, s9, s10, .nil, s12, s13] := by
  have em : (sts ord).map (fI ss) = nts (ord.map fun s => ss.idxOf s) := by simp [sts, nts, fI]
  refine t_w5l ?_ (by rw [sts_len]; have := c.osmall; omega)
  rw [← em]
  generalize hq : Sl.val (.tuple (sts ord)) = q
  refine lc_mapF (f := fI ss) fun d hd => ?_
  obtain ⟨s, hs, rfl⟩ := List.mem_map.mp hd
  have g := g_tix (c.osub s hs)
  have e : sTix (sVar 2) (sVar 11) [s0, vO os, vS ss, q, s4, s5, s6, s7, s8, s9, s10, .val (.str s), s12, s13] = .ok (.int ((ss.idxOf s : Nat) : Int)) [s0, vO os, vS ss, q, s4, s5, s6, s7, s8, s9, s10, .val (.str s), s12, s13] := by
    simp [g]
  exact ⟨[s0, vO os, vS ss, q, s4, s5, s6, s7, s8, s9, s10, .val (.str s), s12, s13], [s0, vO os, vS ss, q, s4, s5, s6, s7, s8, s9, s10, .val (.str s), s12, s13], by simp, e, by simp [wipeS]⟩
theorem t_w7e {M : Mf} {T : En} {F bag bag1 : List PyData} {n r : Int} {d : PyData} {s1 s3 s4 s5 s6 s7 s8 s9 s10 s12 s13 : Sl} (hn : (F.length : Int) = n) (e : M [.io bag, .val (.int n)] = .ok (.val (.int r)) (.io bag1 :: T)) : sCallV M (sGr 0 (sGv (sCallB gLen (sCons (sVar 2) sNil)) sG0)) [.io bag, s1, .val (.tuple F), s3, s4, s5, s6, s7, s8, s9, s10, .val d, s12, s13] = .ok (.int r) [.io bag1, s1, .val (.tuple F), s3, s4, s5, s6, s7, s8, s9, s10, .val d, s12, s13] := by
  simp [hn, e]
theorem w7_lc (c : Case os ss ord) {k : Nat} {bag : List PyData} (hb : Pt k bag) (hk : k < 900000) {s4 s5 s6 s7 s8 s9 s10 s12 s13 : Sl} : ∃ R bag', Pt (k + 40) bag' ∧ R.length = ord.length ∧ (∀ x ∈ R, x ≤ os.length) ∧ q_w7l [.io bag, vO os, vS ss, vS ord, s4, s5, s6, s7, s8, s9, s10, .nil, s12, s13] = .ok (nts R) [.io bag', vO os, vS ss, vS ord, s4, s5, s6, s7, s8, s9, s10, .nil, s12, s13] := by
  have hl := c.len
  have h39 := c.off.1
  have h4 := c.osmall
  obtain ⟨ys, S', h1, bag', R, p, er, r1, r2, rfl⟩ := lc_inv (g := gNm 11) (t := sYes) (e := sCallV m__law_drawP (sGr 0 (sGv (sCallB gLen (sCons (sVar 2) sNil)) sG0))) (vs := [11]) (ds := sts ord) (P := fun i acc S => ∃ bag R, Pt (k + i) bag ∧ acc = nts R ∧ R.length = i ∧ (∀ x ∈ R, x ≤ os.length) ∧ S = [.io bag, vO os, vS ss, vS ord, s4, s5, s6, s7, s8, s9, s10, .nil, s12, s13]) (acc := [])
    (S := [.io bag, vO os, vS ss, vS ord, s4, s5, s6, s7, s8, s9, s10, .nil, s12, s13]) ⟨bag, [], hb, rfl, rfl, (fun x hx => by cases hx), rfl⟩ fun i d acc S hd hP => by
    obtain ⟨bag, R, p, rfl, r1, r2, rfl⟩ := hP
    have hi := (List.getElem?_eq_some_iff.mp hd).1
    rw [sts_len] at hi
    obtain ⟨r, bag1, T, d1, d2, d3, e⟩ := drawP p (by omega) (m := (ss.length : Int)) (by omega) (by omega)
    obtain ⟨u, rfl⟩ : ∃ u : Nat, r = (u : Int) := ⟨r.toNat, by omega⟩
    refine ⟨[.io bag, vO os, vS ss, vS ord, s4, s5, s6, s7, s8, s9, s10, .val d, s12, s13], true, [.io bag, vO os, vS ss, vS ord, s4, s5, s6, s7, s8, s9, s10, .val d, s12, s13], by simp, rfl, (fun z => by cases z), fun _ => ⟨.int ((u : Nat) : Int), [.io bag1, vO os, vS ss, vS ord, s4, s5, s6, s7, s8, s9, s10, .val d, s12, s13], t_w7e (by rw [sts_len]) e, bag1, R ++ [u], d3, nts_app, by simp [r1], ?_, by simp [wipeS]⟩⟩
    intro x hx
    rcases List.mem_append.mp hx with q | q
    · exact r2 x q
    · rw [List.mem_singleton.mp q]; omega
  rw [List.nil_append] at er
  subst er
  rw [sts_len] at p r1
  exact ⟨R, bag', p.mono (by omega), r1, r2, t_w7l h1 (by rw [sts_len]; omega)⟩
/-- a row with some desks changed -/
theorem w8b_loop (c : Case os ss ord) {k n : Nat} {bag : List PyData} {R : List Nat} (hb : Pt k bag) (hk : k < 800000) (hR : ∀ x ∈ R, x ≤ os.length) (hl : R.length = ord.length) (hn : n ≤ 2) (h0 : 0 < n → 0 < R.length) {s4 s5 s6 s7 s9 s10 s11 s12 s13 : Sl} (h9 : bare (some s9) = true) :
    ∃ R' bag' y9, Pt (k + 10) bag' ∧ R'.length = ord.length ∧ (∀ x ∈ R', x ≤ os.length) ∧ bare (some y9) = true ∧ loopL (gNm 9) q_w8b (rng 0 n) [.io bag, vO os, vS ss, vS ord, s4, s5, s6, s7, .own (nts R), s9, s10, s11, s12, s13] = .nx [.io bag', vO os, vS ss, vS ord, s4, s5, s6, s7, .own (nts R'), y9, s10, s11, s12, s13] := by
  have hls := c.len
  have h39 := c.off.1
  have h4 := c.osmall
  obtain ⟨S', el, bag', R', y9, p, r1, r2, g9, rfl⟩ := loop_inv (g := gNm 9) (b := q_w8b) (ds := rng 0 n) (P := fun i S => ∃ bag R' y9, Pt (k + 2 * i) bag ∧ R'.length = ord.length ∧ (∀ x ∈ R', x ≤ os.length) ∧ bare (some y9) = true ∧ S = [.io bag, vO os, vS ss, vS ord, s4, s5, s6, s7, .own (nts R'), y9, s10, s11, s12, s13])
    (S := [.io bag, vO os, vS ss, vS ord, s4, s5, s6, s7, .own (nts R), s9, s10, s11, s12, s13]) ⟨bag, R, s9, hb, hl, hR, h9, rfl⟩ fun i z S hz hS => by
    obtain ⟨bag, R', y9, p, r1, r2, g9, rfl⟩ := hS
    obtain ⟨rfl, hi⟩ := rng_get hz
    have hp := h0 (by omega)
    obtain ⟨u, bag1, T1, a1, a2, a3, e1⟩ := drawP p (by omega) (m := (ss.length : Int)) (by omega) (by omega)
    obtain ⟨v, bag2, T2, b1, b2, b3, e2⟩ := drawP a3 (by omega) (m := (R'.length : Int)) (by omega) (by omega)
    obtain ⟨un, rfl⟩ : ∃ t : Nat, u = (t : Int) := ⟨u.toNat, by omega⟩
    obtain ⟨vn, rfl⟩ : ∃ t : Nat, v = (t : Int) := ⟨v.toNat, by omega⟩
    refine ⟨[.io bag, vO os, vS ss, vS ord, s4, s5, s6, s7, .own (nts R'), .val (.int (0 + (i : Nat))), s10, s11, s12, s13], [.io bag2, vO os, vS ss, vS ord, s4, s5, s6, s7, .own (nts (R'.set vn un)), .val (.int (0 + (i : Nat))), s10, s11, s12, s13], ?_, ?_, bag2, R'.set vn un, .val (.int (0 + (i : Nat))), ?_, by rw [List.length_set]; exact r1, ?_, rfl, rfl⟩
    · generalize nts R' = Z; simp [g9]
    · exact t_w8b (by rw [sts_len]) (by rw [nts_len]) e1 e2 (setI_nts (by omega))
    · exact b3.mono (by omega)
    · intro x hx
      rcases List.mem_or_eq_of_mem_set hx with q | rfl
      · exact r2 x q
      · omega
  rw [rng_len] at p
  exact ⟨R', bag', y9, p.mono (by omega), r1, r2, g9, el⟩
theorem w8_ok (c : Case os ss ord) {k : Nat} {bag L : List PyData} {D : List Nat} (hb : Pt k bag) (hk : k < 700000) (hD : ∀ x ∈ D, x ≤ os.length) (hl : D.length = ord.length) (hL : L.length < 1000) {s5 s7 s8 s9 s10 s11 s12 s13 : Sl} (h8 : noio (some s8) = true) (h9 : bare (some s9) = true) :
    ∃ d bag' y9, Pt (k + 20) bag' ∧ RowD os ord.length d ∧ bare (some y9) = true ∧ q_w8 [.io bag, vO os, vS ss, vS ord, .val (.list (nts D)), s5, .own L, s7, s8, s9, s10, s11, s12, s13] = .nx [.io bag', vO os, vS ss, vS ord, .val (.list (nts D)), s5, .own (L ++ [d]), s7, .val d, y9, s10, s11, s12, s13] := by
  have h4 := c.osmall
  obtain ⟨r, bag1, T1, a1, a2, a3, e1⟩ := drawP hb (by omega) (m := 3) (by decide) (by decide)
  obtain ⟨rn, rfl⟩ : ∃ t : Nat, r = (t : Int) := ⟨r.toNat, by omega⟩
  have gn : gNe (.tuple (sts ord)) (.tuple []) = some (.bool (decide (0 < ord.length))) := by
    cases ord with
    | nil => rfl
    | cons x xs =>
      have : decide (0 < (x :: xs).length) = true := by simp
      rw [this]
      have ly : Lay (.tuple (sts (x :: xs))) 1 := Lay.tuple (n := 0) fun d hd => by
        obtain ⟨s, hs, rfl⟩ := List.mem_map.mp hd
        exact Lay.str (c.nm s (c.osub s hs))
      show (if okEq (.tuple (sts (x :: xs))) = true ∧ okEq (.tuple []) = true then some (PyData.bool (!PyData.eqv (.tuple (sts (x :: xs))) (.tuple []))) else none) = _
      rw [if_pos ⟨ly.ok (by decide), rfl⟩]
      rfl
  obtain ⟨m, hm, h0, gm⟩ : ∃ m : Nat, m ≤ 2 ∧ (0 < m → 0 < ord.length) ∧ gMul (.int ((rn : Nat) : Int)) (.int (if decide (0 < ord.length) = true then 1 else 0)) = some (.int ((m : Nat) : Int)) := by
    have h3 : rn = 0 ∨ rn = 1 ∨ rn = 2 := by omega
    by_cases q : 0 < ord.length
    · refine ⟨rn, by omega, fun _ => q, ?_⟩
      rw [decide_eq_true q, if_pos rfl]
      rcases h3 with rfl | rfl | rfl <;> rfl
    · refine ⟨0, by omega, fun z => by omega, ?_⟩
      rw [decide_eq_false q, if_neg (by decide)]
      rcases h3 with rfl | rfl | rfl <;> rfl
  obtain ⟨R, bag2, y9, p, r1, r2, g9, e2⟩ := w8b_loop c (s4 := .val (.list (nts D))) (s5 := s5) (s6 := .own L) (s7 := s7) (s10 := s10) (s11 := s11) (s12 := s12) (s13 := s13) a3 (by omega) hD hl hm (fun z => by rw [hl]; exact h0 z) h9
  refine ⟨.list (nts R), bag2, y9, p.mono (by omega), ⟨R, rfl, r1, r2⟩, g9, ?_⟩
  rw [q_w8, r_sSeq, t_w8a h8 (by rw [nts_len]; omega), sq_nx, r_sSeq, r_sFor, show q_w8r _ = _ from t_w8r e1 gn gm (rng1_ok (by omega) (by omega)), stt_ok, show loopL _ _ _ _ = _ from e2, sq_nx, t_w8c (by omega)]
end
theorem t_rg34 {S : En} : sRng1 (sCons (sK (.int 3)) sNil) S = .ok (rng 0 3) S := by
  refine rng1_run (ds := [.int ((3 : Nat) : Int)]) ?_ (rng1_ok (by omega) (by omega))
  simp
theorem t_end6 {L : List PyData} {b : SS} {s0 s1 s2 s3 s4 s5 s7 s8 s9 s10 s11 s12 s13 : Sl} {S' : En} (hl : L.length < 1000) (e : loopL (gNm 8) b L [s0, s1, s2, s3, s4, s5, .val (.list L), s7, s8, s9, s10, s11, s12, s13] = .nx S') : sFrz 6 (sSeq (sFor (sIL (sVar 6)) (gNm 8) b) (sRet (sK (.bool true)))) [s0, s1, s2, s3, s4, s5, .own L, s7, s8, s9, s10, s11, s12, s13] = .rt (.val (.bool true)) S' := by
  simp [e]
theorem lawP_right {k : Nat} {bag : List PyData} (hb : Pt k bag) (hk : k < 400000) : ∃ bag' T, Pt (k + 2000) bag' ∧ m__law_rightP [.io bag] = .ok (.val (.bool true)) (.io bag' :: T) := by
  obtain ⟨os, bag1, T1, a1, a2, a3, e1⟩ := lawP_off (m := 40) (by omega) (by omega) (by omega) hb
  obtain ⟨ss, bag2, T2, b1, b2, b3, b4, e2⟩ := lawP_names (n := os.length + 1) a3 (by omega) (by omega)
  obtain ⟨A, bag3, T3, c1, c2, e3⟩ := lawP_mixed (ss := ss) (d := .tuple (sts ss)) (.inr rfl) b4 (by omega) (by omega)
  have lA := c1.length_eq
  obtain ⟨r1, bag4, T4, d1, d2, d3, e4⟩ := drawP c2 (by omega) (m := 2) (by decide) (by decide)
  obtain ⟨y, y0, y1, ey⟩ : ∃ y : Int, 0 < y ∧ y ≤ (ss.length : Int) + 1 ∧ atI [PyData.int 1, .int (((sts ss).length : Int) + 1)] r1 = some (.int y) := by
    rw [atI_nn d1, sts_len]
    have : r1 = 0 ∨ r1 = 1 := by omega
    rcases this with q | q <;> subst q
    · exact ⟨1, by omega, by omega, rfl⟩
    · exact ⟨_, by omega, by omega, rfl⟩
  obtain ⟨r2, bag5, T5, f1, f2, f3, e5⟩ := drawP d3 (by omega) (m := y) y0 (by omega)
  obtain ⟨j, hj⟩ : ∃ j : Nat, (ss.length : Int) - r2 = (j : Int) := ⟨((ss.length : Int) - r2).toNat, by omega⟩
  have hL : cutD (sts A) none (some (((sts ss).length : Int) - r2)) = sts (A.take j) := by
    rw [sts_len, hj, take_sts (by omega)]
  have c : Case os ss (A.take j) := ⟨a1, b1, b2, b3, (c1.nodup_iff.mpr b2).sublist (List.take_sublist _ _), fun z hz => c1.mem_iff.mp (List.mem_of_mem_take hz)⟩
  generalize A.take j = ord at *
  have h4 := c.osmall
  obtain ⟨T6, e6⟩ := law_day42 c
  have dl : (dayF os ord ss).length = ord.length := dayF_len
  have dd := dayF_lt c c.osub
  have e7 := sfd_ok c dd dl
  rw [due_day c] at e7
  obtain ⟨T7, e7⟩ := e7
  have ffit := due_fit c.off dd (by omega) (due_day c)
  have okf : okR (.list (nts (ord.map fun s => ss.idxOf s))) := (nts_fitL ffit.2 ffit.1).okR
  generalize dayF os ord ss = D at *
  obtain ⟨R0, bag6, p6, q1, q2, e8⟩ := w7_lc c (s4 := .val (.list (nts D))) (s5 := .val (.list (nts (ord.map fun s => ss.idxOf s)))) (s6 := .nil) (s7 := .nil) (s8 := .nil) (s9 := .nil) (s10 := .nil) (s12 := .nil) (s13 := .nil) f3 (by omega)
  have w5 := w5_lc c (s0 := .io bag5) (s4 := .val (.list (nts D))) (s5 := .nil) (s6 := .nil) (s7 := .nil) (s8 := .nil) (s9 := .nil) (s10 := .nil) (s12 := .nil) (s13 := .nil)
  generalize (ord.map fun s => ss.idxOf s) = I at *
  obtain ⟨S', el, bag7, L, x7, x8, x9, p7, l1, l2, g7, g8, g9, rfl⟩ := loop_inv (g := gNm 7) (b := q_w8) (ds := rng 0 3) (P := fun i S => ∃ bag L x7 x8 x9, Pt (k + 700 + 100 * i) bag ∧ L.length = i + 1 ∧ (∀ d ∈ L, RowD os ord.length d) ∧ bare (some x7) = true ∧ bare (some x8) = true ∧ bare (some x9) = true ∧ S = [.io bag, vO os, vS ss, vS ord, .val (.list (nts D)), .val (.list (nts I)), .own L, x7, x8, x9, .nil, .nil, .nil, .nil])
    (S := [.io bag6, vO os, vS ss, vS ord, .val (.list (nts D)), .val (.list (nts I)), .own [.list (nts R0)], .nil, .nil, .nil, .nil, .nil, .nil, .nil]) ⟨bag6, [.list (nts R0)], .nil, .nil, .nil, p6.mono (by omega), rfl, (fun d hd => by rw [List.mem_singleton.mp hd]; exact ⟨R0, rfl, q1, q2⟩), rfl, rfl, rfl, rfl⟩ fun i z S hz hS => by
    obtain ⟨bag, L, x7, x8, x9, p, l1, l2, g7, g8, g9, rfl⟩ := hS
    obtain ⟨rfl, hi⟩ := rng_get hz
    obtain ⟨d, bag', y9, p', rd, g9', e⟩ := w8_ok c (D := D) (L := L) (s5 := .val (.list (nts I))) (s7 := .val (.int (0 + (i : Nat)))) (s8 := x8) (s9 := x9) (s10 := .nil) (s11 := .nil) (s12 := .nil) (s13 := .nil) p (by omega) dd dl (by omega) (noio_bare g8) g9
    refine ⟨[.io bag, vO os, vS ss, vS ord, .val (.list (nts D)), .val (.list (nts I)), .own L, .val (.int (0 + (i : Nat))), x8, x9, .nil, .nil, .nil, .nil], _, by simp [g7], e, bag', L ++ [d], _, .val d, y9, p'.mono (by omega), by simp [l1], ?_, rfl, rfl, g9', rfl⟩
    intro z hz
    rcases List.mem_append.mp hz with q | q
    · exact l2 z q
    · rw [List.mem_singleton.mp q]; exact rd
  rw [show (rng 0 3).length = 3 from rfl] at p7 l1
  obtain ⟨y8, y10, y12, y13, ey'⟩ := y_loop c (s0 := .io bag7) (s2 := vS ss) (s4 := .val (.list (nts D))) (s5 := .val (.list (nts I))) (s6 := .val (.list L)) (s7 := x7) (s9 := x9) (s11 := .nil) (L := L) (s8 := x8) (s10 := .nil) (s12 := .nil) (s13 := .nil) l2 g8 rfl rfl rfl
  refine ⟨bag7, [vO os, vS ss, vS ord, .val (.list (nts D)), .val (.list (nts I)), .val (.list L), x7, y8, x9, y10, .nil, y12, y13], p7.mono (by omega), ?_⟩
  rw [m__law_rightP, r_mB]
  show (c__law_rightP [.io bag, .nil, .nil, .nil, .nil, .nil, .nil, .nil, .nil, .nil, .nil, .nil, .nil, .nil]).fin = _
  rw [c_rt42_eq, r_sSeq, q_w1, t_w1 e1, sq_nx, r_sSeq, q_w2, t_w2' (n := ((os.length + 1 : Nat) : Int)) (by rw [nts_len]; omega) e2, sq_nx, r_sSeq, q_w3, t_w3' e3 e4 ey e5 hL, sq_nx, r_sSeq, q_w4, t_w4 e6, sq_nx, r_sSeq, q_w5, t_w5 w5, sq_nx, r_sSeq, q_w6, t_w6 e7 okf, sq_nx, r_sSeq, q_w7, t_w7 e8, sq_nx, r_sSeq, r_sFor, t_rg34, stt_ok, el, sq_nx, t_end6 (by omega) ey']
  rfl
def q_pt4 : SS := sSetNew 2 (sCallN m__law_potP (sGv (sVar 0) (sGv (sVar 1) sG0)))
def q_one4 : SS := sIf (sNot (sTst (sCallV m__law_rightP (sGr 2 sG0)))) (sRet (sK (.bool false))) sNx
def q_in4 : SS := sFor (sRng1 (sCons (sK (.int 3)) sNil)) (gNm 3) q_one4
def q_rg4 : SN := sRng1 (sCons (sCallB gMax (sCons (sK (.int 1)) (sCons (sCallB gMin (sCons (sK (.int 4)) (sCons (sCallB gLenS (sCons (sVar 0) sNil)) sNil))) sNil))) sNil)
def q_e4 : SE := sBin gEq (sCallV m__law_toldP (sGv (sTup (sCons (sK (.int 0)) (sCons (sK (.int 0)) (sCons (sK (.int 2)) sNil)))) (sGv (sCallB gTupSt (sCons (sK (.str (Str.ofString "abcd"))) sNil)) (sGv (sTup (sCons (sK (.int 0)) (sCons (sK (.int 0)) (sCons (sK (.int 1)) (sCons (sK (.int 2)) sNil))))) sG0)))) (sK (.int 1))
theorem c_law_eq : c_law = sSeq (sFor q_rg4 (gNm 1) (sSeq q_pt4 q_in4)) (sRet q_e4) := rfl
section
variable {M : Mf} {T1 T2 : En} {a b : PyData} {bag bag1 bag2 : List PyData} {s0 s1 s2 s3 s4 s5 : Sl}
theorem t_pt4 (e : M [.val a, .val b] = .ok (.own bag) T1) (h2 : noio (some s2) = true) : sSetNew 2 (sCallN M (sGv (sVar 0) (sGv (sVar 1) sG0))) [.val a, .val b, s2, s3] = .nx [.val a, .val b, .own bag, s3] := by simp [e, h2]
theorem t_one4 (e1 : M [.io bag] = .ok (.val (.bool true)) (.io bag1 :: T1)) : sIf (sNot (sTst (sCallV M (sGr 2 sG0)))) (sRet (sK (.bool false))) sNx [s0, s1, .own bag, s3] = .nx [s0, s1, .own bag1, s3] := by
  simp [e1]
theorem t_rg4 {ns : List Int} {T : En} : ∃ n : Nat, n ≤ 4 ∧ q_rg4 (.val (scrD ns) :: T) = .ok (rng 0 n) (.val (scrD ns) :: T) := by
  have e : ∃ n : Nat, n ≤ 4 ∧ (if (if (ns.length : Int) < 4 then (ns.length : Int) else 4) > 1 then (if (ns.length : Int) < 4 then (ns.length : Int) else 4) else 1) = (n : Int) := by
    by_cases h : (ns.length : Int) < 4
    · rw [if_pos h]
      by_cases h2 : (ns.length : Int) > 1
      · exact ⟨ns.length, by omega, if_pos h2⟩
      · exact ⟨1, by omega, if_neg h2⟩
    · rw [if_neg h]
      exact ⟨4, by omega, by rw [if_pos (by decide)]; rfl⟩
  obtain ⟨n, n1, en⟩ := e
  refine ⟨n, n1, rng1_run (ds := [.int (n : Nat)]) ?_ (rng1_ok (by omega) (by omega))⟩
  rw [← en]
  simp [scrD]
theorem t_e4 {x : Str} (hx : gTupSt [.str x] = some a) (e : M [.val (.tuple [.int 0, .int 0, .int 2]), .val a, .val (.tuple [.int 0, .int 0, .int 1, .int 2])] = .ok (.val (.int 1)) T1) :
    sBin gEq (sCallV M (sGv (sTup (sCons (sK (.int 0)) (sCons (sK (.int 0)) (sCons (sK (.int 2)) sNil)))) (sGv (sCallB gTupSt (sCons (sK (.str x)) sNil)) (sGv (sTup (sCons (sK (.int 0)) (sCons (sK (.int 0)) (sCons (sK (.int 1)) (sCons (sK (.int 2)) sNil))))) sG0)))) (sK (.int 1)) [s0, s1, s2, s3] = .ok (.bool true) [s0, s1, s2, s3] := by
  have g : gEq (.int 1) (.int 1) = some (.bool true) := rfl
  simp [hx, e, g, sizeLine]
end
abbrev nmA : List Str := [Str.ofString "a", Str.ofString "b", Str.ofString "c", Str.ofString "d"]
theorem caseA : Case [0, 0, 2] nmA nmA := caseB_ok (by decide +kernel)
theorem tupS {x : Str} {l : List Str} (h : (x.cps.toList.map fun c => (⟨#[c]⟩ : Str)) = l) (hz : x.length ≤ 1000) : gTupSt [.str x] = some (.tuple (sts l)) := by
  show (if x.length ≤ sizeLine then some (PyData.tuple (signs x)) else none) = _
  rw [if_pos (by rw [sizeLine_eq]; omega), signs_sts, h]
theorem tupA : gTupSt [.str (Str.ofString "abcd")] = some (.tuple (sts nmA)) := tupS (by decide +kernel) (by decide +kernel)
theorem dueA : due [0, 0, 2] [0, 0, 1, 2] = .inl 1 := by decide +kernel
theorem e4_ok {s0 s1 s2 s3 : Sl} : q_e4 [s0, s1, s2, s3] = .ok (.bool true) [s0, s1, s2, s3] := by
  obtain ⟨T, e⟩ := told_ok caseA (ds := [0, 0, 1, 2]) (fun d hd => by
    simp only [List.mem_cons, List.not_mem_nil, or_false] at hd
    rcases hd with rfl | rfl | rfl | rfl <;> decide) rfl
  rw [dueA] at e
  exact t_e4 tupA e
theorem in_ok {k : Nat} {bag : List PyData} (hb : Pt k bag) (hk : k < 1000) {s0 s1 s3 : Sl} (h3 : bare (some s3) = true) : ∃ bag' s3', bare (some s3') = true ∧ q_in4 [s0, s1, .own bag, s3] = .nx [s0, s1, .own bag', s3'] := by
  obtain ⟨S', el, bag', x3, p, g, rfl⟩ := loop_inv (g := gNm 3) (b := q_one4) (ds := rng 0 3) (P := fun i S => ∃ bag x3, Pt (k + 2000 * i) bag ∧ bare (some x3) = true ∧ S = [s0, s1, .own bag, x3])
    (S := [s0, s1, .own bag, s3]) ⟨bag, s3, hb, h3, rfl⟩ fun i z S hz hS => by
    obtain ⟨bag, x3, p, g, rfl⟩ := hS
    obtain ⟨rfl, hi⟩ := rng_get hz
    obtain ⟨bag1, T1, hb1, e1⟩ := lawP_right p (by omega)
    refine ⟨[s0, s1, .own bag, .val (.int (0 + (i : Nat)))], [s0, s1, .own bag1, .val (.int (0 + (i : Nat)))], by simp [g], show q_one4 _ = _ from t_one4 e1, bag1, _, ?_, rfl, rfl⟩
    rw [show k + 2000 * (i + 1) = k + 2000 * i + 2000 by omega]
    exact hb1
  refine ⟨bag', x3, g, ?_⟩
  rw [q_in4, r_sFor, t_rg34, stt_ok]
  exact el
theorem law_true (ns : List Int) (hn : ns.length ≤ 63) : ∃ S, m_law [.val (scrD ns)] = .ok (.val (.bool true)) S := by
  obtain ⟨n, n1, hr⟩ := t_rg4 (ns := ns) (T := [.nil, .nil, .nil])
  obtain ⟨S', el, x1, x2, x3, g1, g2, g3, rfl⟩ := loop_inv (g := gNm 1) (b := sSeq q_pt4 q_in4) (ds := rng 0 n) (P := fun _ S => ∃ x1 x2 x3, bare (some x1) = true ∧ noio (some x2) = true ∧ bare (some x3) = true ∧ S = [.val (scrD ns), x1, x2, x3])
    (S := [.val (scrD ns), .nil, .nil, .nil]) ⟨.nil, .nil, .nil, rfl, rfl, rfl, rfl⟩ fun i z S hz hS => by
    obtain ⟨x1, x2, x3, g1, g2, g3, rfl⟩ := hS
    obtain ⟨rfl, hi⟩ := rng_get hz
    rw [Int.zero_add]
    obtain ⟨bag, T, hb, e⟩ := law_pot ns (k := i) (by omega)
    obtain ⟨bag1, y3, h3, e1⟩ := in_ok (s0 := .val (scrD ns)) (s1 := .val (.int (i : Nat))) hb (by omega) g3
    refine ⟨[.val (scrD ns), .val (.int (i : Nat)), x2, x3], [.val (scrD ns), .val (.int (i : Nat)), .own bag1, y3], by simp [g1], ?_, .val (.int (i : Nat)), .own bag1, y3, rfl, rfl, h3, rfl⟩
    rw [r_sSeq, show q_pt4 _ = _ from t_pt4 e g2, sq_nx, e1]
  refine ⟨[.val (scrD ns), x1, x2, x3], ?_⟩
  rw [m_law, r_mB]
  show (c_law [.val (scrD ns), .nil, .nil, .nil]).fin = _
  rw [c_law_eq, r_sSeq, r_sFor, hr, stt_ok, el, sq_nx, r_sRet, e4_ok, stt_ok]
  rfl
end Ds
end
set_option Elab.async false
set_option linter.all false
set_option maxRecDepth 100000
set_option maxHeartbeats 1000000
open PySem PySem.Spec PyProof.Rows L2
namespace Ds
def initOf : Stmt → Stmt
  | .ClassDef _ _ _ (s :: _) _ _ _ _ _ _ _ => s
  | s => s
abbrev I_Impossible : Stmt := initOf (topS 5)
def spEnd (K : PySem.W.Frag) (w : World) : Sp := fun vs H Q E => ∃ (a : Addr) (ns : List Int), vs = [.ref a] ∧ SK K ⟨fun _ => False, w⟩ H a (ns.map V.int) ∧ ns.length ≤ 63 ∧ ∀ H', Q (.bl true) H'
theorem FnG.weak {P : Program} {w : World} {K : PySem.W.Frag} {mg : Str → Option Value} {base : Heap} {k : Nat} {f : Addr} {fd : FuncData} {ps : List Str} {sp sp' : Sp} (F : FnG P w K mg base k f fd ps sp) (h : ∀ vs H Q E, sp' vs H Q E → sp vs H Q E) : FnG P w K mg base k f fd ps sp' := by
  exact ⟨fun vs H Q E h' => F.len vs H Q E (h _ _ _ _ h'), fun A outer s H args us vs Q E gd hr he hb hv hs => F.run A outer s H args us vs Q E gd hr he hb hv (h _ _ _ _ hs)⟩
theorem end_law {gw : World → Prop} {w : World} (hgw : gw w) {K : PySem.W.Frag} {mg : Str → Option Value} {vs : List V} {H : Hp} {Q : VK} {E : XK} (h : spEnd K w vs H Q E) : spG gw K mg m_law 1 vs H Q E := by
  obtain ⟨a, ns, rfl, hk, hl, q⟩ := h
  obtain ⟨Sx, hm⟩ := law_true ns hl
  refine ⟨rfl, ⟨fun _ => False, w⟩, [.val (scrD ns)], hgw, ⟨rfl, fun i x e => ?_, fun i j ds es b e => ?_, fun _ z => z.elim⟩, ?_⟩
  · match i, e with
    | 0, e =>
      obtain rfl : Sl.val (scrD ns) = x := by simpa using e
      exact ⟨.ref a, rfl, .scr hk⟩
    | i + 1, e => simp at e
  · match i, e with
    | 0, e => simp at e
    | i + 1, e => simp at e
  · rw [hm]
    intro v H' _ rd
    cases rd
    exact q H'
theorem all_mk {P : Program} {w : World} {K : PySem.W.Frag} {h : Heap} {mg : Str → Option Value} {fa f_is_whole f_is_name f__law_pot f__law_draw f__law_day f__law_due f_is_number f_are_different_names f__law_office f__law_mixed f_is_office f_need_persons f_need_desks f__law_names f_need_office f_seating_from_desks f__law_told f__law_right f_law : Addr} (X : K.In h) (G : h.Ns mainGlobals mg) (hfa : mg "law" = some (.ref fa))
    {od_is_whole an_is_whole od_is_name an_is_name od__law_pot an__law_pot od__law_draw an__law_draw od__law_day an__law_day od__law_due an__law_due od_is_number an_is_number od_are_different_names an_are_different_names od__law_office an__law_office od__law_mixed an__law_mixed od_is_office an_is_office od_need_persons an_need_persons od_need_desks an_need_desks od__law_names an__law_names od_need_office an_need_office od_seating_from_desks an_seating_from_desks od__law_told an__law_told od__law_right an__law_right od_law an_law : Option Addr} {sl_is_whole sl_is_name sl__law_pot sl__law_draw sl__law_day sl__law_due sl_is_number sl_are_different_names sl__law_office sl__law_mixed sl_is_office sl_need_persons sl_need_desks sl__law_names sl_need_office sl_seating_from_desks sl__law_told sl__law_right sl_law : Array (Option Value)} {oc_is_whole kV_is_whole dc_is_whole pm_is_whole cd_is_whole ct_is_whole oc_is_name kV_is_name dc_is_name pm_is_name cd_is_name ct_is_name oc__law_pot kV__law_pot dc__law_pot pm__law_pot cd__law_pot ct__law_pot oc__law_draw kV__law_draw dc__law_draw pm__law_draw cd__law_draw ct__law_draw oc__law_day kV__law_day dc__law_day pm__law_day cd__law_day ct__law_day oc__law_due kV__law_due dc__law_due pm__law_due cd__law_due ct__law_due oc_is_number kV_is_number dc_is_number pm_is_number cd_is_number ct_is_number oc_are_different_names kV_are_different_names dc_are_different_names pm_are_different_names cd_are_different_names ct_are_different_names oc__law_office kV__law_office dc__law_office pm__law_office cd__law_office ct__law_office oc__law_mixed kV__law_mixed dc__law_mixed pm__law_mixed cd__law_mixed ct__law_mixed oc_is_office kV_is_office dc_is_office pm_is_office cd_is_office ct_is_office oc_need_persons kV_need_persons dc_need_persons pm_need_persons cd_need_persons ct_need_persons oc_need_desks kV_need_desks dc_need_desks pm_need_desks cd_need_desks ct_need_desks oc__law_names kV__law_names dc__law_names pm__law_names cd__law_names ct__law_names oc_need_office kV_need_office dc_need_office pm_need_office cd_need_office ct_need_office oc_seating_from_desks kV_seating_from_desks dc_seating_from_desks pm_seating_from_desks cd_seating_from_desks ct_seating_from_desks oc__law_told kV__law_told dc__law_told pm__law_told cd__law_told ct__law_told oc__law_right kV__law_right dc__law_right pm__law_right cd__law_right ct__law_right oc_law kV_law dc_law pm_law cd_law ct_law : Value}
    {t_LONGEST_NAME t_LETTERS t_MOST_DESKS : Tok}
    (a_is_whole : PySem.W.nsIn K mainGlobals "is_whole" = some (some (.ref f_is_whole))) (l_is_whole : K.lookup f_is_whole = some ⟨oc_is_whole, od_is_whole, .func (PySem.W.fnOf "is_whole" "is_whole" (defArgs S_is_whole) (defBody S_is_whole) (defScope S_is_whole) .none kV_is_whole dc_is_whole pm_is_whole an_is_whole cd_is_whole ct_is_whole), sl_is_whole⟩) (c_is_whole : PySem.W.codeIn K cd_is_whole "is_whole" = true) (k_is_whole : PySem.W.keepIn K (.ref f_is_whole) = true)
    (a_is_name : PySem.W.nsIn K mainGlobals "is_name" = some (some (.ref f_is_name))) (l_is_name : K.lookup f_is_name = some ⟨oc_is_name, od_is_name, .func (PySem.W.fnOf "is_name" "is_name" (defArgs S_is_name) (defBody S_is_name) (defScope S_is_name) .none kV_is_name dc_is_name pm_is_name an_is_name cd_is_name ct_is_name), sl_is_name⟩) (c_is_name : PySem.W.codeIn K cd_is_name "is_name" = true) (k_is_name : PySem.W.keepIn K (.ref f_is_name) = true)
    (a__law_pot : PySem.W.nsIn K mainGlobals "_law_pot" = some (some (.ref f__law_pot))) (l__law_pot : K.lookup f__law_pot = some ⟨oc__law_pot, od__law_pot, .func (PySem.W.fnOf "_law_pot" "_law_pot" (defArgs S__law_pot) (defBody S__law_pot) (defScope S__law_pot) .none kV__law_pot dc__law_pot pm__law_pot an__law_pot cd__law_pot ct__law_pot), sl__law_pot⟩) (c__law_pot : PySem.W.codeIn K cd__law_pot "_law_pot" = true) (k__law_pot : PySem.W.keepIn K (.ref f__law_pot) = true)
    (a__law_draw : PySem.W.nsIn K mainGlobals "_law_draw" = some (some (.ref f__law_draw))) (l__law_draw : K.lookup f__law_draw = some ⟨oc__law_draw, od__law_draw, .func (PySem.W.fnOf "_law_draw" "_law_draw" (defArgs S__law_draw) (defBody S__law_draw) (defScope S__law_draw) .none kV__law_draw dc__law_draw pm__law_draw an__law_draw cd__law_draw ct__law_draw), sl__law_draw⟩) (c__law_draw : PySem.W.codeIn K cd__law_draw "_law_draw" = true) (k__law_draw : PySem.W.keepIn K (.ref f__law_draw) = true)
    (a__law_day : PySem.W.nsIn K mainGlobals "_law_day" = some (some (.ref f__law_day))) (l__law_day : K.lookup f__law_day = some ⟨oc__law_day, od__law_day, .func (PySem.W.fnOf "_law_day" "_law_day" (defArgs S__law_day) (defBody S__law_day) (defScope S__law_day) .none kV__law_day dc__law_day pm__law_day an__law_day cd__law_day ct__law_day), sl__law_day⟩) (c__law_day : PySem.W.codeIn K cd__law_day "_law_day" = true) (k__law_day : PySem.W.keepIn K (.ref f__law_day) = true)
    (a__law_due : PySem.W.nsIn K mainGlobals "_law_due" = some (some (.ref f__law_due))) (l__law_due : K.lookup f__law_due = some ⟨oc__law_due, od__law_due, .func (PySem.W.fnOf "_law_due" "_law_due" (defArgs S__law_due) (defBody S__law_due) (defScope S__law_due) .none kV__law_due dc__law_due pm__law_due an__law_due cd__law_due ct__law_due), sl__law_due⟩) (c__law_due : PySem.W.codeIn K cd__law_due "_law_due" = true) (k__law_due : PySem.W.keepIn K (.ref f__law_due) = true)
    (a_is_number : PySem.W.nsIn K mainGlobals "is_number" = some (some (.ref f_is_number))) (l_is_number : K.lookup f_is_number = some ⟨oc_is_number, od_is_number, .func (PySem.W.fnOf "is_number" "is_number" (defArgs S_is_number) (defBody S_is_number) (defScope S_is_number) .none kV_is_number dc_is_number pm_is_number an_is_number cd_is_number ct_is_number), sl_is_number⟩) (c_is_number : PySem.W.codeIn K cd_is_number "is_number" = true) (k_is_number : PySem.W.keepIn K (.ref f_is_number) = true)
    (a_are_different_names : PySem.W.nsIn K mainGlobals "are_different_names" = some (some (.ref f_are_different_names))) (l_are_different_names : K.lookup f_are_different_names = some ⟨oc_are_different_names, od_are_different_names, .func (PySem.W.fnOf "are_different_names" "are_different_names" (defArgs S_are_different_names) (defBody S_are_different_names) (defScope S_are_different_names) .none kV_are_different_names dc_are_different_names pm_are_different_names an_are_different_names cd_are_different_names ct_are_different_names), sl_are_different_names⟩) (c_are_different_names : PySem.W.codeIn K cd_are_different_names "are_different_names" = true) (k_are_different_names : PySem.W.keepIn K (.ref f_are_different_names) = true)
    (a__law_office : PySem.W.nsIn K mainGlobals "_law_office" = some (some (.ref f__law_office))) (l__law_office : K.lookup f__law_office = some ⟨oc__law_office, od__law_office, .func (PySem.W.fnOf "_law_office" "_law_office" (defArgs S__law_office) (defBody S__law_office) (defScope S__law_office) .none kV__law_office dc__law_office pm__law_office an__law_office cd__law_office ct__law_office), sl__law_office⟩) (c__law_office : PySem.W.codeIn K cd__law_office "_law_office" = true) (k__law_office : PySem.W.keepIn K (.ref f__law_office) = true)
    (a__law_mixed : PySem.W.nsIn K mainGlobals "_law_mixed" = some (some (.ref f__law_mixed))) (l__law_mixed : K.lookup f__law_mixed = some ⟨oc__law_mixed, od__law_mixed, .func (PySem.W.fnOf "_law_mixed" "_law_mixed" (defArgs S__law_mixed) (defBody S__law_mixed) (defScope S__law_mixed) .none kV__law_mixed dc__law_mixed pm__law_mixed an__law_mixed cd__law_mixed ct__law_mixed), sl__law_mixed⟩) (c__law_mixed : PySem.W.codeIn K cd__law_mixed "_law_mixed" = true) (k__law_mixed : PySem.W.keepIn K (.ref f__law_mixed) = true)
    (a_is_office : PySem.W.nsIn K mainGlobals "is_office" = some (some (.ref f_is_office))) (l_is_office : K.lookup f_is_office = some ⟨oc_is_office, od_is_office, .func (PySem.W.fnOf "is_office" "is_office" (defArgs S_is_office) (defBody S_is_office) (defScope S_is_office) .none kV_is_office dc_is_office pm_is_office an_is_office cd_is_office ct_is_office), sl_is_office⟩) (c_is_office : PySem.W.codeIn K cd_is_office "is_office" = true) (k_is_office : PySem.W.keepIn K (.ref f_is_office) = true)
    (a_need_persons : PySem.W.nsIn K mainGlobals "need_persons" = some (some (.ref f_need_persons))) (l_need_persons : K.lookup f_need_persons = some ⟨oc_need_persons, od_need_persons, .func (PySem.W.fnOf "need_persons" "need_persons" (defArgs S_need_persons) (defBody S_need_persons) (defScope S_need_persons) .none kV_need_persons dc_need_persons pm_need_persons an_need_persons cd_need_persons ct_need_persons), sl_need_persons⟩) (c_need_persons : PySem.W.codeIn K cd_need_persons "need_persons" = true) (k_need_persons : PySem.W.keepIn K (.ref f_need_persons) = true)
    (a_need_desks : PySem.W.nsIn K mainGlobals "need_desks" = some (some (.ref f_need_desks))) (l_need_desks : K.lookup f_need_desks = some ⟨oc_need_desks, od_need_desks, .func (PySem.W.fnOf "need_desks" "need_desks" (defArgs S_need_desks) (defBody S_need_desks) (defScope S_need_desks) .none kV_need_desks dc_need_desks pm_need_desks an_need_desks cd_need_desks ct_need_desks), sl_need_desks⟩) (c_need_desks : PySem.W.codeIn K cd_need_desks "need_desks" = true) (k_need_desks : PySem.W.keepIn K (.ref f_need_desks) = true)
    (a__law_names : PySem.W.nsIn K mainGlobals "_law_names" = some (some (.ref f__law_names))) (l__law_names : K.lookup f__law_names = some ⟨oc__law_names, od__law_names, .func (PySem.W.fnOf "_law_names" "_law_names" (defArgs S__law_names) (defBody S__law_names) (defScope S__law_names) .none kV__law_names dc__law_names pm__law_names an__law_names cd__law_names ct__law_names), sl__law_names⟩) (c__law_names : PySem.W.codeIn K cd__law_names "_law_names" = true) (k__law_names : PySem.W.keepIn K (.ref f__law_names) = true)
    (a_need_office : PySem.W.nsIn K mainGlobals "need_office" = some (some (.ref f_need_office))) (l_need_office : K.lookup f_need_office = some ⟨oc_need_office, od_need_office, .func (PySem.W.fnOf "need_office" "need_office" (defArgs S_need_office) (defBody S_need_office) (defScope S_need_office) .none kV_need_office dc_need_office pm_need_office an_need_office cd_need_office ct_need_office), sl_need_office⟩) (c_need_office : PySem.W.codeIn K cd_need_office "need_office" = true) (k_need_office : PySem.W.keepIn K (.ref f_need_office) = true)
    (a_seating_from_desks : PySem.W.nsIn K mainGlobals "seating_from_desks" = some (some (.ref f_seating_from_desks))) (l_seating_from_desks : K.lookup f_seating_from_desks = some ⟨oc_seating_from_desks, od_seating_from_desks, .func (PySem.W.fnOf "seating_from_desks" "seating_from_desks" (defArgs S_seating_from_desks) (defBody S_seating_from_desks) (defScope S_seating_from_desks) .none kV_seating_from_desks dc_seating_from_desks pm_seating_from_desks an_seating_from_desks cd_seating_from_desks ct_seating_from_desks), sl_seating_from_desks⟩) (c_seating_from_desks : PySem.W.codeIn K cd_seating_from_desks "seating_from_desks" = true) (k_seating_from_desks : PySem.W.keepIn K (.ref f_seating_from_desks) = true)
    (a__law_told : PySem.W.nsIn K mainGlobals "_law_told" = some (some (.ref f__law_told))) (l__law_told : K.lookup f__law_told = some ⟨oc__law_told, od__law_told, .func (PySem.W.fnOf "_law_told" "_law_told" (defArgs S__law_told) (defBody S__law_told) (defScope S__law_told) .none kV__law_told dc__law_told pm__law_told an__law_told cd__law_told ct__law_told), sl__law_told⟩) (c__law_told : PySem.W.codeIn K cd__law_told "_law_told" = true) (k__law_told : PySem.W.keepIn K (.ref f__law_told) = true)
    (a__law_right : PySem.W.nsIn K mainGlobals "_law_right" = some (some (.ref f__law_right))) (l__law_right : K.lookup f__law_right = some ⟨oc__law_right, od__law_right, .func (PySem.W.fnOf "_law_right" "_law_right" (defArgs S__law_right) (defBody S__law_right) (defScope S__law_right) .none kV__law_right dc__law_right pm__law_right an__law_right cd__law_right ct__law_right), sl__law_right⟩) (c__law_right : PySem.W.codeIn K cd__law_right "_law_right" = true) (k__law_right : PySem.W.keepIn K (.ref f__law_right) = true)
    (a_law : PySem.W.nsIn K mainGlobals "law" = some (some (.ref f_law))) (l_law : K.lookup f_law = some ⟨oc_law, od_law, .func (PySem.W.fnOf "law" "law" (defArgs S_law) (defBody S_law) (defScope S_law) .none kV_law dc_law pm_law an_law cd_law ct_law), sl_law⟩) (c_law : PySem.W.codeIn K cd_law "law" = true) (k_law : PySem.W.keepIn K (.ref f_law) = true)
    (z_isinstance : PySem.W.nsIn K mainGlobals "isinstance" = some none)
    (z_int : PySem.W.nsIn K mainGlobals "int" = some none)
    (z_bool : PySem.W.nsIn K mainGlobals "bool" = some none)
    (z_all : PySem.W.nsIn K mainGlobals "all" = some none)
    (z_str : PySem.W.nsIn K mainGlobals "str" = some none)
    (z_len : PySem.W.nsIn K mainGlobals "len" = some none)
    (z_max : PySem.W.nsIn K mainGlobals "max" = some none)
    (z_list : PySem.W.nsIn K mainGlobals "list" = some none)
    (z_enumerate : PySem.W.nsIn K mainGlobals "enumerate" = some none)
    (z_range : PySem.W.nsIn K mainGlobals "range" = some none)
    (z_tuple : PySem.W.nsIn K mainGlobals "tuple" = some none)
    (z_set : PySem.W.nsIn K mainGlobals "set" = some none)
    (z_min : PySem.W.nsIn K mainGlobals "min" = some none)
    (z_repr : PySem.W.nsIn K mainGlobals "repr" = some none)
    (z_LONGEST_NAME : PySem.W.nsIn K mainGlobals "LONGEST_NAME" = some (some (.int 8 t_LONGEST_NAME)))
    (z_LETTERS : PySem.W.nsIn K mainGlobals "LETTERS" = some (some (.str (Str.ofString "abcdefghijklmnopqrstuvwxyz") t_LETTERS)))
    (z_MOST_DESKS : PySem.W.nsIn K mainGlobals "MOST_DESKS" = some (some (.int 40 t_MOST_DESKS)))
    {e_Impossible : Addr}
    (eC_n : PySem.W.specialIn K (.builtin "object.__class__") "__get__" = some (some (.builtin "getset_descriptor.__get__"))) (eC_t : PySem.W.takesIn K (.builtin "object.__class__") = some true)
    (ea_Impossible : PySem.W.nsIn K mainGlobals "Impossible" = some (some (.ref e_Impossible))) (ew_Impossible : PySem.W.isClsIn K e_Impossible = true) (et_Impossible : PySem.W.typeIn K (.ref e_Impossible) = some (.type "type")) (es_Impossible : PySem.W.subIn K (.ref e_Impossible) (.ref e_Impossible) = some true)
    (ek_Impossible : PySem.W.keepIn K (.ref e_Impossible) = true) (eb_Impossible : PySem.W.subIn K (.ref e_Impossible) (.type "BaseException") = some true)
    (eg_Impossible : PySem.W.findIn K (.ref e_Impossible) "__getattribute__" = some (some (.builtin "BaseException.__getattribute__"))) (eh_Impossible : PySem.W.findIn K (.ref e_Impossible) "__getattr__" = some none) (ed_Impossible : PySem.W.hasDictIn K e_Impossible = true) (ec_Impossible : PySem.W.findIn K (.ref e_Impossible) "__class__" = some (some (.builtin "object.__class__"))) (em_Impossible : PySem.W.mroIn K e_Impossible (.type "object") = some true)
    (en_Impossible_int : PySem.W.subIn K (.ref e_Impossible) (.type "int") = some false) (en_Impossible_bool : PySem.W.subIn K (.ref e_Impossible) (.type "bool") = some false) (en_Impossible_tuple : PySem.W.subIn K (.ref e_Impossible) (.type "tuple") = some false) (en_Impossible_str : PySem.W.subIn K (.ref e_Impossible) (.type "str") = some false) (en_Impossible_list : PySem.W.subIn K (.ref e_Impossible) (.type "list") = some false)
    (ev_Impossible : PySem.W.subIn K (.ref e_Impossible) (.type "ValueError") = some true)
    (ei_Impossible_Impossible : PySem.W.subIn K (.ref e_Impossible) (.ref e_Impossible) = some true)
    {ui_Impossible uc_Impossible ud_Impossible : Addr} {uod_Impossible uan_Impossible ucdd_Impossible ucld_Impossible : Option Addr} {uosl_Impossible uccs_Impossible ucsl_Impossible : Array (Option Value)} {uoc_Impossible ukV_Impossible udc_Impossible upm_Impossible uct_Impossible uccl_Impossible ucl_Impossible : Value}
    {uvs_Impossible : Array Value} {ufi_Impossible : Str} {utf_Impossible : Tok} {ucD_Impossible : ClassData} {unm_Impossible uq_Impossible : Str} {uN_Impossible : Addr} {ubs_Impossible ubm_Impossible usub_Impossible : List Value} {usn_Impossible : List Str} {uab_Impossible : Bool} {ucol_Impossible : Option Bool} {udd_Impossible : Option Addr} {uk0_Impossible uk1_Impossible uk2_Impossible uk3_Impossible uk5_Impossible : Option Value}
    (u1_Impossible : PySem.W.findIn K (.ref e_Impossible) "__init__" = some (some (.ref ui_Impossible))) (u2_Impossible : PySem.W.typeIn K (.ref ui_Impossible) = some (.type "function"))
    (u3_Impossible : K.lookup ui_Impossible = some ⟨uoc_Impossible, uod_Impossible, .func (PySem.W.ksFn "__init__" "Impossible.__init__" (defArgs I_Impossible) (defBody I_Impossible) (defScope I_Impossible) .none ukV_Impossible udc_Impossible upm_Impossible uan_Impossible (.ref ud_Impossible) uct_Impossible uc_Impossible), uosl_Impossible⟩) (u4_Impossible : PySem.W.codeIn K (.ref ud_Impossible) "Impossible.__init__" = true)
    (u5_Impossible : K.lookup ud_Impossible = some ⟨uccl_Impossible, ucdd_Impossible, .fields uvs_Impossible, uccs_Impossible⟩) (u6_Impossible : uvs_Impossible[2]? = some (.str ufi_Impossible utf_Impossible)) (u7_Impossible : ((P.main.file : Str) == ufi_Impossible) = true)
    (u8_Impossible : K.lookup uc_Impossible = some ⟨ucl_Impossible, ucld_Impossible, .cell (some (.ref e_Impossible)), ucsl_Impossible⟩) (u9_Impossible : PySem.W.clsIn K e_Impossible = some ucD_Impossible) (ua_Impossible : PySem.W.mroIn K e_Impossible (.ref e_Impossible) = some true)
    (ub_Impossible : PySem.W.nsIn K mainGlobals "super" = some none) (uq2_Impossible : (P.main.scope.names.lookup ("super" : Str)).isSome = false) (ue_Impossible : PySem.W.nsIn K cStatics "thirdparty.any" = some none)
    (uf_Impossible : PySem.W.ks_superIn K e_Impossible e_Impossible "__init__" = some (some (.builtin "ValueError.__init__"))) (ug_Impossible : PySem.W.excInitIn K e_Impossible [.type "ValueError", .type "Exception", .type "BaseException", .type "object"] "ValueError.__new__" = true)
    (uh_Impossible : PySem.W.findIn K (.ref e_Impossible) "index" = some none) (uj_Impossible : PySem.W.findIn K (.ref e_Impossible) "__setattr__" = some (some (.builtin "object.__setattr__")))
    (uk_Impossible : K.lookup e_Impossible = some (excClassObj unm_Impossible uq_Impossible e_Impossible uN_Impossible ubs_Impossible ubm_Impossible true usn_Impossible usub_Impossible uab_Impossible ucol_Impossible udd_Impossible uk0_Impossible uk1_Impossible uk2_Impossible uk3_Impossible uk5_Impossible "ValueError.__new__")) (ul_Impossible : PySem.HandSPX.refsVE ubm_Impossible = true)
    : ∃ fd : FuncData, (∀ (s : Shared) (v : Value), BindsTo s fd ⟨[v], []⟩ [("script", v)]) ∧ ∀ base : Heap, K.In base → base.Ns mainGlobals mg → FnG P w K mg base 8 fa fd ["script"] (spEnd K w) := by
  have e := hfa.symm.trans (PySem.W.mg_of X G a_law)
  cases e
  have F_is_whole := fun_mk (st := S_is_whole) l_is_whole c_is_whole k_is_whole
  have b_is_whole := F_is_whole.binds (ps := ["value"]) fun _ _ _ _ _ _ us hl => match us, hl with | [_], _ => rfl
  have F_is_name := fun_mk (st := S_is_name) l_is_name c_is_name k_is_name
  have b_is_name := F_is_name.binds (ps := ["value"]) fun _ _ _ _ _ _ us hl => match us, hl with | [_], _ => rfl
  have F__law_pot := fun_mk (st := S__law_pot) l__law_pot c__law_pot k__law_pot
  have b__law_pot := F__law_pot.binds (ps := ["script", "k"]) fun _ _ _ _ _ _ us hl => match us, hl with | [_, _], _ => rfl
  have F__law_draw := fun_mk (st := S__law_draw) l__law_draw c__law_draw k__law_draw
  have b__law_draw := F__law_draw.binds (ps := ["pot", "bound"]) fun _ _ _ _ _ _ us hl => match us, hl with | [_, _], _ => rfl
  have F__law_day := fun_mk (st := S__law_day) l__law_day c__law_day k__law_day
  have b__law_day := F__law_day.binds (ps := ["office", "seating", "order"]) fun _ _ _ _ _ _ us hl => match us, hl with | [_, _, _], _ => rfl
  have F__law_due := fun_mk (st := S__law_due) l__law_due c__law_due k__law_due
  have b__law_due := F__law_due.binds (ps := ["office", "desks"]) fun _ _ _ _ _ _ us hl => match us, hl with | [_, _], _ => rfl
  have F_is_number := fun_mk (st := S_is_number) l_is_number c_is_number k_is_number
  have b_is_number := F_is_number.binds (ps := ["value", "low", "high"]) fun _ _ _ _ _ _ us hl => match us, hl with | [_, _, _], _ => rfl
  have F_are_different_names := fun_mk (st := S_are_different_names) l_are_different_names c_are_different_names k_are_different_names
  have b_are_different_names := F_are_different_names.binds (ps := ["value"]) fun _ _ _ _ _ _ us hl => match us, hl with | [_], _ => rfl
  have F__law_office := fun_mk (st := S__law_office) l__law_office c__law_office k__law_office
  have b__law_office := F__law_office.binds (ps := ["pot", "most"]) fun _ _ _ _ _ _ us hl => match us, hl with | [_, _], _ => rfl
  have F__law_mixed := fun_mk (st := S__law_mixed) l__law_mixed c__law_mixed k__law_mixed
  have b__law_mixed := F__law_mixed.binds (ps := ["pot", "things"]) fun _ _ _ _ _ _ us hl => match us, hl with | [_, _], _ => rfl
  have F_is_office := fun_mk (st := S_is_office) l_is_office c_is_office k_is_office
  have b_is_office := F_is_office.binds (ps := ["value"]) fun _ _ _ _ _ _ us hl => match us, hl with | [_], _ => rfl
  have F_need_persons := fun_mk (st := S_need_persons) l_need_persons c_need_persons k_need_persons
  have b_need_persons := F_need_persons.binds (ps := ["office", "order"]) fun _ _ _ _ _ _ us hl => match us, hl with | [_, _], _ => rfl
  have F_need_desks := fun_mk (st := S_need_desks) l_need_desks c_need_desks k_need_desks
  have b_need_desks := F_need_desks.binds (ps := ["office", "order", "desks"]) fun _ _ _ _ _ _ us hl => match us, hl with | [_, _, _], _ => rfl
  have F__law_names := fun_mk (st := S__law_names) l__law_names c__law_names k__law_names
  have b__law_names := F__law_names.binds (ps := ["pot", "many"]) fun _ _ _ _ _ _ us hl => match us, hl with | [_, _], _ => rfl
  have F_need_office := fun_mk (st := S_need_office) l_need_office c_need_office k_need_office
  have b_need_office := F_need_office.binds (ps := ["office"]) fun _ _ _ _ _ _ us hl => match us, hl with | [_], _ => rfl
  have F_seating_from_desks := fun_mk (st := S_seating_from_desks) l_seating_from_desks c_seating_from_desks k_seating_from_desks
  have b_seating_from_desks := F_seating_from_desks.binds (ps := ["office", "order", "desks"]) fun _ _ _ _ _ _ us hl => match us, hl with | [_, _, _], _ => rfl
  have F__law_told := fun_mk (st := S__law_told) l__law_told c__law_told k__law_told
  have b__law_told := F__law_told.binds (ps := ["office", "order", "desks"]) fun _ _ _ _ _ _ us hl => match us, hl with | [_, _, _], _ => rfl
  have F__law_right := fun_mk (st := S__law_right) l__law_right c__law_right k__law_right
  have b__law_right := F__law_right.binds (ps := ["pot"]) fun _ _ _ _ _ _ us hl => match us, hl with | [_], _ => rfl
  have F_law := fun_mk (st := S_law) l_law c_law k_law
  have b_law := F_law.binds (ps := ["script"]) fun _ _ _ _ _ _ us hl => match us, hl with | [_], _ => rfl
  refine ⟨PySem.W.fnOf "law" "law" (defArgs S_law) (defBody S_law) (defScope S_law) .none kV_law dc_law pm_law an_law cd_law ct_law, fun s v => .of_eq rfl, fun base _ _ => ?_⟩
  have EF : ErrF K mg ERRS ERRT ERRB := by
    refine ⟨fun x hx => ?_, fun x hx => ?_, ⟨e_Impossible, PySem.W.mg_of X G ea_Impossible, fun c hc D n => ?_⟩, fun c hc D n => ?_⟩
    · simp only [ERRS, List.mem_cons, List.not_mem_nil, or_false] at hx; rcases hx with rfl
      · exact ⟨e_Impossible, ea_Impossible, ⟨PySem.W.mg_of X G ea_Impossible, fun h => absurd (by decide) h⟩, ⟨⟨eg_Impossible, eh_Impossible, eb_Impossible, ed_Impossible, ec_Impossible, eC_n, eC_t, em_Impossible⟩, fun T hT => by simp only [isiTs, List.mem_cons, List.not_mem_nil, or_false] at hT; rcases hT with rfl | rfl | rfl | rfl | rfl <;> first | exact kit_of_ty (by decide +kernel) en_Impossible_int | exact kit_of_ty (by decide +kernel) en_Impossible_bool | exact kit_of_ty (by decide +kernel) en_Impossible_tuple | exact kit_of_ty (by decide +kernel) en_Impossible_str | exact kit_of_ty (by decide +kernel) en_Impossible_list⟩⟩
    · simp only [ERRT, List.mem_cons, List.not_mem_nil, or_false] at hx; rcases hx with rfl
      · refine ⟨e_Impossible, PySem.W.mg_of X G ea_Impossible, fun c hc D n => ?_⟩
        simp only [ERRS, List.mem_cons, List.not_mem_nil, or_false] at hc; rcases hc with rfl
        · rw [ea_Impossible] at n; cases n; exact (kit_of_sub ew_Impossible et_Impossible ei_Impossible_Impossible es_Impossible).trans (congrArg some (by decide +kernel))
    · simp only [ERRS, List.mem_cons, List.not_mem_nil, or_false] at hc; rcases hc with rfl
      · rw [ea_Impossible] at n; cases n; exact PySem.W.exm_ref eb_Impossible ed_Impossible et_Impossible ei_Impossible_Impossible
    · simp only [ERRS, List.mem_cons, List.not_mem_nil, or_false] at hc; rcases hc with rfl
      · rw [ea_Impossible] at n; cases n; exact kit_of_ty (by decide +kernel) ev_Impossible
  have TM_Impossible : SupM P K mg "Impossible" "index" := ⟨e_Impossible, PySem.W.mg_of X G ea_Impossible, ea_Impossible, ⟨ui_Impossible, uc_Impossible, ud_Impossible, "impossible at ", "Impossible.__init__", 0, (fun k => ([⟨13, 8, 13, 13⟩, ⟨13, 8, 13, 15⟩, ⟨13, 8, 13, 24⟩, ⟨13, 27, 13, 41⟩, ⟨13, 42, 13, 47⟩, ⟨13, 41, 13, 48⟩, ⟨13, 25, 13, 49⟩, ⟨13, 8, 13, 50⟩, ⟨13, 8, 13, 50⟩, ⟨14, 8, 14, 12⟩, ⟨14, 8, 14, 18⟩, ⟨14, 21, 14, 26⟩, ⟨14, 8, 14, 26⟩] : List Pos).getD k ⟨0, 0, 0, 0⟩), defArgs I_Impossible, defScope I_Impossible, .none, ukV_Impossible, udc_Impossible, upm_Impossible, uct_Impossible, uoc_Impossible, uccl_Impossible, ucl_Impossible, uan_Impossible, uod_Impossible, ucdd_Impossible, ucld_Impossible, uosl_Impossible, uccs_Impossible, ucsl_Impossible, uvs_Impossible, ufi_Impossible, utf_Impossible, ucD_Impossible, u1_Impossible, u2_Impossible, u3_Impossible, u4_Impossible, fun s a v => .of_eq rfl, ⟨_, rfl, rfl⟩, rfl, rfl, rfl, by decide +kernel, by decide +kernel, by decide +kernel, by decide +kernel, by decide +kernel, u5_Impossible, u6_Impossible, u7_Impossible, u8_Impossible, u9_Impossible, by decide +kernel, ⟨by decide +kernel, by decide +kernel⟩, by decide +kernel⟩, ua_Impossible, ub_Impossible, uq2_Impossible, ue_Impossible, uf_Impossible, ev_Impossible, ug_Impossible, uh_Impossible, ⟨⟨unm_Impossible, uq_Impossible, uN_Impossible, ubs_Impossible, ubm_Impossible, usn_Impossible, usub_Impossible, uab_Impossible, ucol_Impossible, udd_Impossible, uk0_Impossible, uk1_Impossible, uk2_Impossible, uk3_Impossible, uk5_Impossible, uk_Impossible, ul_Impossible⟩, uj_Impossible, eb_Impossible, et_Impossible, ek_Impossible⟩⟩
  have G_is_whole := ok_is_whole (P := P) (w := w) (mg := mg) (base := base) F_is_whole (PySem.W.mg_none_of X G z_isinstance) (PySem.W.mg_none_of X G z_int) (PySem.W.mg_none_of X G z_bool)
  have G_is_name := ok_is_name (P := P) (w := w) (mg := mg) (base := base) F_is_name (PySem.W.mg_none_of X G z_all) (PySem.W.mg_none_of X G z_isinstance) (PySem.W.mg_none_of X G z_str) (PySem.W.mg_none_of X G z_len) (PySem.W.mg_of X G z_LONGEST_NAME) (PySem.W.mg_of X G z_LETTERS)
  have G__law_pot := ok__law_pot (P := P) (w := w) (mg := mg) (base := base) F__law_pot (PySem.W.mg_none_of X G z_len) (PySem.W.mg_none_of X G z_max)
  have G__law_draw := ok__law_draw (P := P) (w := w) (mg := mg) (base := base) F__law_draw
  have G__law_day := ok__law_day (P := P) (w := w) (mg := mg) (base := base) F__law_day (PySem.W.mg_none_of X G z_list)
  have G__law_due := ok__law_due (P := P) (w := w) (mg := mg) (base := base) F__law_due (PySem.W.mg_none_of X G z_enumerate) (PySem.W.mg_none_of X G z_list) (PySem.W.mg_none_of X G z_range) (PySem.W.mg_none_of X G z_len)
  have G_is_number := ok_is_number (P := P) (w := w) (mg := mg) (base := base) F_is_number G_is_whole (PySem.W.mg_of X G a_is_whole) k_is_whole b_is_whole
  have G_are_different_names := ok_are_different_names (P := P) (w := w) (mg := mg) (base := base) F_are_different_names G_is_name (PySem.W.mg_of X G a_is_name) k_is_name b_is_name (PySem.W.mg_none_of X G z_len) (PySem.W.mg_none_of X G z_isinstance) (PySem.W.mg_none_of X G z_tuple) (PySem.W.mg_none_of X G z_all) (PySem.W.mg_none_of X G z_set)
  have G__law_office := ok__law_office (P := P) (w := w) (mg := mg) (base := base) F__law_office G__law_draw (PySem.W.mg_of X G a__law_draw) k__law_draw b__law_draw (PySem.W.mg_none_of X G z_min) (PySem.W.mg_none_of X G z_range) (PySem.W.mg_none_of X G z_tuple)
  have G__law_mixed := ok__law_mixed (P := P) (w := w) (mg := mg) (base := base) F__law_mixed G__law_draw (PySem.W.mg_of X G a__law_draw) k__law_draw b__law_draw (PySem.W.mg_none_of X G z_list) (PySem.W.mg_none_of X G z_range) (PySem.W.mg_none_of X G z_len)
  have G_is_office := ok_is_office (P := P) (w := w) (mg := mg) (base := base) F_is_office G_is_number (PySem.W.mg_of X G a_is_number) k_is_number b_is_number (PySem.W.mg_none_of X G z_all) (PySem.W.mg_none_of X G z_isinstance) (PySem.W.mg_none_of X G z_tuple) (PySem.W.mg_none_of X G z_len) (PySem.W.mg_none_of X G z_enumerate) (PySem.W.mg_of X G z_MOST_DESKS)
  have G_need_persons := ok_need_persons (P := P) (w := w) (mg := mg) (base := base) F_need_persons G_are_different_names (PySem.W.mg_of X G a_are_different_names) k_are_different_names b_are_different_names (PySem.W.mg_none_of X G z_len)
  have G_need_desks := ok_need_desks (P := P) (w := w) (mg := mg) (base := base) F_need_desks G_is_number (PySem.W.mg_of X G a_is_number) k_is_number b_is_number (PySem.W.mg_none_of X G z_all) (PySem.W.mg_none_of X G z_isinstance) (PySem.W.mg_none_of X G z_tuple) (PySem.W.mg_none_of X G z_len)
  have G__law_names := ok__law_names (P := P) (w := w) (mg := mg) (base := base) F__law_names G__law_mixed (PySem.W.mg_of X G a__law_mixed) k__law_mixed b__law_mixed (PySem.W.mg_none_of X G z_tuple)
  have G_need_office := ok_need_office (P := P) (w := w) (mg := mg) (base := base) F_need_office G_is_office (PySem.W.mg_of X G a_is_office) k_is_office b_is_office
  have G_seating_from_desks := ok_seating_from_desks (P := P) (w := w) (mg := mg) (base := base) F_seating_from_desks G_need_office (PySem.W.mg_of X G a_need_office) k_need_office b_need_office G_need_persons (PySem.W.mg_of X G a_need_persons) k_need_persons b_need_persons G_need_desks (PySem.W.mg_of X G a_need_desks) k_need_desks b_need_desks TM_Impossible (PySem.W.mg_none_of X G z_list) (PySem.W.mg_none_of X G z_enumerate) (PySem.W.mg_none_of X G z_range) (PySem.W.mg_none_of X G z_len)
  have G__law_told := ok__law_told (P := P) (w := w) (mg := mg) (base := base) F__law_told G_seating_from_desks (PySem.W.mg_of X G a_seating_from_desks) k_seating_from_desks b_seating_from_desks EF TM_Impossible
  have G__law_right := ok__law_right (P := P) (w := w) (mg := mg) (base := base) F__law_right G__law_office (PySem.W.mg_of X G a__law_office) k__law_office b__law_office G__law_names (PySem.W.mg_of X G a__law_names) k__law_names b__law_names G__law_day (PySem.W.mg_of X G a__law_day) k__law_day b__law_day G__law_told (PySem.W.mg_of X G a__law_told) k__law_told b__law_told G__law_mixed (PySem.W.mg_of X G a__law_mixed) k__law_mixed b__law_mixed G_seating_from_desks (PySem.W.mg_of X G a_seating_from_desks) k_seating_from_desks b_seating_from_desks G__law_draw (PySem.W.mg_of X G a__law_draw) k__law_draw b__law_draw G__law_due (PySem.W.mg_of X G a__law_due) k__law_due b__law_due (PySem.W.mg_none_of X G z_tuple) (PySem.W.mg_none_of X G z_range) (PySem.W.mg_none_of X G z_repr) (PySem.W.mg_none_of X G z_list) (PySem.W.mg_none_of X G z_isinstance) (PySem.W.mg_none_of X G z_len) (PySem.W.mg_none_of X G z_int)
  have G_law := ok_law (P := P) (w := w) (mg := mg) (base := base) F_law G__law_pot (PySem.W.mg_of X G a__law_pot) k__law_pot b__law_pot G__law_told (PySem.W.mg_of X G a__law_told) k__law_told b__law_told G__law_right (PySem.W.mg_of X G a__law_right) k__law_right b__law_right (PySem.W.mg_none_of X G z_range) (PySem.W.mg_none_of X G z_max) (PySem.W.mg_none_of X G z_min) (PySem.W.mg_none_of X G z_tuple) (PySem.W.mg_none_of X G z_len)
  exact G_law.weak fun vs H Q E h => end_law (by first | exact trivial | rfl) h
theorem walkE {l : PySem.W.OpenLaw} {q : Program} {loose : List Str} {XP : (Str → Option Value) → Heap → Prop} {YP : World → Heap → Prop} {d : DefRec} {K : Params → PySem.W.Frag} (hn : l.most = some 63) (hdf : d.params.defaults = [])
    (hY : ∀ (w : World) (h : Heap), YP w h → (K w.params).In h)
    (F : ∀ (w : World) (mg : Str → Option Value) (fa : Addr) (h : Heap), (K w.params).In h → h.Ns mainGlobals mg → mg d.name = some (.ref fa) →
      ∃ fd : FuncData, (∀ (s : Shared) (u : Value), BindsTo s fd ⟨[u], []⟩ [("script", u)]) ∧ ∀ base : Heap, (K w.params).In base → base.Ns mainGlobals mg → FnG l.prog w (K w.params) mg base 8 fa fd ["script"] (spEnd (K w.params) w)) :
    PySem.W.WalkO q loose XP YP l.row.toRowW d [] (fun f vs => PySem.call f vs) :=
  law_end (n := 63) (k := 8) (x := "script") (sp := fun w => spEnd (K w.params) w) hn (by decide) hdf ⟨rfl, by decide, by decide⟩ hY F fun w H a ns hl _ _ hk => ⟨a, ns, rfl, hk, hl, fun _ => rfl⟩
end Ds
open PySem PySem.W PyProof.Rows
set_option maxRecDepth 100000 in
set_option maxHeartbeats 0 in
theorem PySem.Challenge.cw_deskswaps_k42_desks_read_holds : PySem.Challenge.rw_deskswaps_k42_desks_read.Holds := by
  w_on; o_law; k_head; (case hw => w_witness2)
  k_fill
  refine Ds.walkE (l := PySem.Challenge.rw_deskswaps_k42_desks_read) rfl rfl (fun w h Y => PySem.W.kIn_of Y) ?F
  case F =>
    intro w mg fa h KX G hmg
    refine' Ds.all_mk KX G hmg ?a_is_whole ?l_is_whole ?c_is_whole ?k_is_whole ?a_is_name ?l_is_name ?c_is_name ?k_is_name ?a__law_pot ?l__law_pot ?c__law_pot ?k__law_pot ?a__law_draw ?l__law_draw ?c__law_draw ?k__law_draw ?a__law_day ?l__law_day ?c__law_day ?k__law_day ?a__law_due ?l__law_due ?c__law_due ?k__law_due ?a_is_number ?l_is_number ?c_is_number ?k_is_number ?a_are_different_names ?l_are_different_names ?c_are_different_names ?k_are_different_names ?a__law_office ?l__law_office ?c__law_office ?k__law_office ?a__law_mixed ?l__law_mixed ?c__law_mixed ?k__law_mixed ?a_is_office ?l_is_office ?c_is_office ?k_is_office ?a_need_persons ?l_need_persons ?c_need_persons ?k_need_persons ?a_need_desks ?l_need_desks ?c_need_desks ?k_need_desks ?a__law_names ?l__law_names ?c__law_names ?k__law_names ?a_need_office ?l_need_office ?c_need_office ?k_need_office ?a_seating_from_desks ?l_seating_from_desks ?c_seating_from_desks ?k_seating_from_desks ?a__law_told ?l__law_told ?c__law_told ?k__law_told ?a__law_right ?l__law_right ?c__law_right ?k__law_right ?a_law ?l_law ?c_law ?k_law ?z_isinstance ?z_int ?z_bool ?z_all ?z_str ?z_len ?z_max ?z_list ?z_enumerate ?z_range ?z_tuple ?z_set ?z_min ?z_repr ?z_LONGEST_NAME ?z_LETTERS ?z_MOST_DESKS ?eC_n ?eC_t ?ea_Impossible ?ew_Impossible ?et_Impossible ?es_Impossible ?ek_Impossible ?eb_Impossible ?eg_Impossible ?eh_Impossible ?ed_Impossible ?ec_Impossible ?em_Impossible ?en_Impossible_int ?en_Impossible_bool ?en_Impossible_tuple ?en_Impossible_str ?en_Impossible_list ?ev_Impossible ?ei_Impossible_Impossible ?u1_Impossible ?u2_Impossible ?u3_Impossible ?u4_Impossible ?u5_Impossible ?u6_Impossible ?u7_Impossible ?u8_Impossible ?u9_Impossible ?ua_Impossible ?ub_Impossible ?uq2_Impossible ?ue_Impossible ?uf_Impossible ?ug_Impossible ?uh_Impossible ?uj_Impossible ?uk_Impossible ?ul_Impossible
    (case a_is_whole => k_is); (case l_is_whole => k_is); (case c_is_whole => k_is); (case k_is_whole => k_is)
    (case a_is_name => k_is); (case l_is_name => k_is); (case c_is_name => k_is); (case k_is_name => k_is)
    (case a__law_pot => k_is); (case l__law_pot => k_is); (case c__law_pot => k_is); (case k__law_pot => k_is)
    (case a__law_draw => k_is); (case l__law_draw => k_is); (case c__law_draw => k_is); (case k__law_draw => k_is)
    (case a__law_day => k_is); (case l__law_day => k_is); (case c__law_day => k_is); (case k__law_day => k_is)
    (case a__law_due => k_is); (case l__law_due => k_is); (case c__law_due => k_is); (case k__law_due => k_is)
    (case a_is_number => k_is); (case l_is_number => k_is); (case c_is_number => k_is); (case k_is_number => k_is)
    (case a_are_different_names => k_is); (case l_are_different_names => k_is); (case c_are_different_names => k_is); (case k_are_different_names => k_is)
    (case a__law_office => k_is); (case l__law_office => k_is); (case c__law_office => k_is); (case k__law_office => k_is)
    (case a__law_mixed => k_is); (case l__law_mixed => k_is); (case c__law_mixed => k_is); (case k__law_mixed => k_is)
    (case a_is_office => k_is); (case l_is_office => k_is); (case c_is_office => k_is); (case k_is_office => k_is)
    (case a_need_persons => k_is); (case l_need_persons => k_is); (case c_need_persons => k_is); (case k_need_persons => k_is)
    (case a_need_desks => k_is); (case l_need_desks => k_is); (case c_need_desks => k_is); (case k_need_desks => k_is)
    (case a__law_names => k_is); (case l__law_names => k_is); (case c__law_names => k_is); (case k__law_names => k_is)
    (case a_need_office => k_is); (case l_need_office => k_is); (case c_need_office => k_is); (case k_need_office => k_is)
    (case a_seating_from_desks => k_is); (case l_seating_from_desks => k_is); (case c_seating_from_desks => k_is); (case k_seating_from_desks => k_is)
    (case a__law_told => k_is); (case l__law_told => k_is); (case c__law_told => k_is); (case k__law_told => k_is)
    (case a__law_right => k_is); (case l__law_right => k_is); (case c__law_right => k_is); (case k__law_right => k_is)
    (case a_law => k_is); (case l_law => k_is); (case c_law => k_is); (case k_law => k_is)
    (case z_isinstance => k_is)
    (case z_int => k_is)
    (case z_bool => k_is)
    (case z_all => k_is)
    (case z_str => k_is)
    (case z_len => k_is)
    (case z_max => k_is)
    (case z_list => k_is)
    (case z_enumerate => k_is)
    (case z_range => k_is)
    (case z_tuple => k_is)
    (case z_set => k_is)
    (case z_min => k_is)
    (case z_repr => k_is)
    (case z_LONGEST_NAME => k_is)
    (case z_LETTERS => k_is)
    (case z_MOST_DESKS => k_is)
    (case eC_n => first | k_is | rfl)
    (case eC_t => first | k_is | rfl)
    (case ea_Impossible => first | k_is | rfl)
    (case ew_Impossible => first | k_is | rfl)
    (case et_Impossible => first | k_is | rfl)
    (case es_Impossible => first | k_is | rfl)
    (case ek_Impossible => first | k_is | rfl)
    (case eb_Impossible => first | k_is | rfl)
    (case eg_Impossible => first | k_is | rfl)
    (case eh_Impossible => first | k_is | rfl)
    (case ed_Impossible => first | k_is | rfl)
    (case ec_Impossible => first | k_is | rfl)
    (case em_Impossible => first | k_is | rfl)
    (case en_Impossible_int => first | k_is | rfl)
    (case en_Impossible_bool => first | k_is | rfl)
    (case en_Impossible_tuple => first | k_is | rfl)
    (case en_Impossible_str => first | k_is | rfl)
    (case en_Impossible_list => first | k_is | rfl)
    (case ev_Impossible => first | k_is | rfl)
    (case ei_Impossible_Impossible => first | k_is | rfl)
    (case u1_Impossible => first | k_is | rfl | ks_is | kernel_rfl | k_exc | decide +kernel)
    (case u2_Impossible => first | k_is | rfl | ks_is | kernel_rfl | k_exc | decide +kernel)
    (case u3_Impossible => first | k_is | rfl | ks_is | kernel_rfl | k_exc | decide +kernel)
    (case u4_Impossible => first | k_is | rfl | ks_is | kernel_rfl | k_exc | decide +kernel)
    (case u5_Impossible => first | k_is | rfl | ks_is | kernel_rfl | k_exc | decide +kernel)
    (case u6_Impossible => first | k_is | rfl | ks_is | kernel_rfl | k_exc | decide +kernel)
    (case u7_Impossible => first | k_is | rfl | ks_is | kernel_rfl | k_exc | decide +kernel)
    (case u8_Impossible => first | k_is | rfl | ks_is | kernel_rfl | k_exc | decide +kernel)
    (case u9_Impossible => first | k_is | rfl | ks_is | kernel_rfl | k_exc | decide +kernel)
    (case ua_Impossible => first | k_is | rfl | ks_is | kernel_rfl | k_exc | decide +kernel)
    (case ub_Impossible => first | k_is | rfl | ks_is | kernel_rfl | k_exc | decide +kernel)
    (case uq2_Impossible => first | k_is | rfl | ks_is | kernel_rfl | k_exc | decide +kernel)
    (case ue_Impossible => first | k_is | rfl | ks_is | kernel_rfl | k_exc | decide +kernel)
    (case uf_Impossible => first | k_is | rfl | ks_is | kernel_rfl | k_exc | decide +kernel)
    (case ug_Impossible => first | k_is | rfl | ks_is | kernel_rfl | k_exc | decide +kernel)
    (case uh_Impossible => first | k_is | rfl | ks_is | kernel_rfl | k_exc | decide +kernel)
    (case uj_Impossible => first | k_is | rfl | ks_is | kernel_rfl | k_exc | decide +kernel)
    (case uk_Impossible => first | k_is | rfl | ks_is | kernel_rfl | k_exc | decide +kernel)
    (case ul_Impossible => first | k_is | rfl | ks_is | kernel_rfl | k_exc | decide +kernel)
#print axioms PySem.Challenge.cw_deskswaps_k42_desks_read_holds
