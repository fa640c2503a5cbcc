import PyProof.Rows.All
import Wide.All
import OpenK.AllK
import Wide.FinOn
import HandS.ForMost
import HandS.ForExc
import HandS.IsInst
import HandS.Wide
import HandS.Conv
import HandS.TupAny
import HandS.TupMul
import HandS.ExcIs
import HandS.HotCalls
import KE.KDictKeyed
import KE.KeyNested
import HandS.Walk
import KE.KExcIs
import KE.GoesMore
import PyProof.ReprRoads
import HandS.Style
import HandS.Ends
import HandS.Strs
import HandS.More
import HandS.SortRule
import HandS.Steps
import HandS.TupLe
import HandS.Star
import HandS.ExcOwn
import HandS.WideBits
import HandS.SetFor
import PyProof.Rows.SortShellAny
import HandS.Zip
import HandS.Deep
import HandS.DictSub
import HandS.RevRange
import HandS.WideMore
import KE.KMathGC
import HandS.ListItems
import KE.KDictZip
import KE.KDictCopyH
import KE.KSortTupAny
import PyProof.TupleOfStr
import KE.DatumOrd
import KE.KDictPairs
import HandS.TupLen
import HandS.ExcInit
import HandS.FStr
import KE.KExcSuper
import KE.KDictDisplayH
import KE.KDictSum
import PySem.Challenge.RW_deskswaps_k43_seatings_with_costs
set_option Elab.async false
set_option linter.all false
set_option maxRecDepth 100000
section
set_option Elab.async false
set_option linter.all false
set_option maxRecDepth 100000
set_option maxHeartbeats 4000000
namespace Ds
open PySem PySem.Spec PyProof.Rows L2
abbrev St := L2.St
abbrev Takes (X : Cx) (W : WX) : Prop := L2N.Takes X W
theorem takes_of {X : Cx} {E : XK} (hs : X.stack = X.env :: X.outer) (hf : X.env.frame = some X.env.locals)
    (hex : X.ex = []) {E₁ : Value → Shared → Prop}
    (hx : X.xe = fun e s' => wpAny (model X.prog X.w) X.A (leaving X.env e) (fun _ t => L2N.CX X.prog X.w X.outer X.H_0 X.s_0 E e t) E₁ s') :
    Takes X (fun cls d _ H => E cls d H) := L2N.takes_of hs hf hex hx
theorem takes0 {X : Cx} : Takes X (fun _ _ _ _ => False) := fun _ _ h => by
  obtain ⟨_, _, _, _, _, _, _, _, _, _, _, _, _, _, _, _, w⟩ := h
  exact w.elim
theorem passAt {X : Cx} {W : WX} (tk : Takes X W) (σ : L2.St) : PassesAt (L2N.CX X.prog X.w) X σ (WE W σ) := L2N.passAt tk σ
theorem sql0 {K : PySem.W.Frag} {H : Hp} {a : Addr} {xs : List V} (h : SqL K (fun _ => none) a xs) : SqL K H a xs := by
  rcases h with (h | ⟨o, h⟩) | h
  · cases h
  · cases h
  · exact .inr h
theorem sqt0 {K : PySem.W.Frag} {H : Hp} {a : Addr} {xs : List V} (h : SqT K (fun _ => none) a xs) : SqT K H a xs := by
  rcases h with (h | ⟨o, h⟩) | h
  · cases h
  · cases h
  · exact .inr h
/-- the owned addresses, and the world -/
structure Av where
  p : Addr → Prop
  w : World
instance : CoeFun Av fun _ => Addr → Prop := ⟨Av.p⟩
/-- a list, a tuple that nobody owns -/
def LK (_ : PySem.W.Frag) (av : Av) (H : Hp) (a : Addr) (xs : List V) : Prop := ((H a = some (.lst xs) ∨ False) ∧ ¬ av a) ∨ False
/-- the law's script: a list that never changes -/
def SK (K : PySem.W.Frag) (av : Av) (H : Hp) (a : Addr) (xs : List V) : Prop := ((∃ o : Obj, H a = some (.frz o (.lst xs))) ∧ ¬ av a) ∨ SqL K (fun _ => none) a xs
/-- the script as data -/
def scrD (ns : List Int) : PyData := .dict [(.bool true, .list (ns.map PyData.int))]
def TK (K : PySem.W.Frag) (av : Av) (H : Hp) (a : Addr) (xs : List V) : Prop := ((∃ o : Obj, H a = some (.frz o (.tup xs)) ∧ o.dict = none ∧ o.cls = .type "tuple") ∧ ¬ av a) ∨ (SqT K (fun _ => none) a xs ∧ ∃ o : Obj, K.lookup a = some o ∧ o.dict = none ∧ o.cls = .type "tuple")
section
variable {K : PySem.W.Frag} {av av' : Av} {H H' : Hp} {a : Addr} {xs : List V}
theorem LK.get (h : LK K av H a xs) : H a = some (.lst xs) ∧ ¬ av a := h.elim (fun h => ⟨h.1.elim id False.elim, h.2⟩) False.elim
theorem LK.sq (h : LK K av H a xs) : SqL K H a xs := .inl (.inl h.get.1)
theorem SK.sq (h : SK K av H a xs) : SqL K H a xs := h.elim (fun h => .inl (.inr h.1)) sql0
theorem TK.sq (h : TK K av H a xs) : SqT K H a xs := h.elim (fun h => .inl (.inr (let ⟨o, e, _⟩ := h.1; ⟨o, e⟩))) fun h => sqt0 h.1
/-- what nobody owns stays -/
def Ext (av : Av) (H H' : Hp) : Prop := ∀ a o, ¬ av a → H a = some o → H' a = some o
/-- the owned ones were owned before or are new -/
def Grow (av av' : Av) (H : Hp) : Prop := ∀ a, av' a → av a ∨ H a = none
theorem Ext.refl (av : Av) (H : Hp) : Ext av H H := fun _ _ _ h => h
theorem Grow.refl (av : Av) (H : Hp) : Grow av av H := fun _ h => .inl h
theorem Ext.same (h : Same H H') : Ext av H H' := fun a o _ e => h a o e
theorem Ext.trans {H1 H2 : Hp} (a : Ext av H H1) (g : Grow av av' H) (b : Ext av' H1 H2) : Ext av H H2 := fun x o n e => b x o (fun z => (g x z).elim n fun q => by rw [e] at q; cases q) (a x o n e)
theorem Grow.trans {av2 : Av} {H1 : Hp} (a : Grow av av' H) (e : Ext av H H1) (b : Grow av' av2 H1) : Grow av av2 H := fun x h => by
  rcases b x h with h | h
  · exact a x h
  · by_cases hx : av x
    · exact .inl hx
    · cases q : H x with
      | none => exact .inr rfl
      | some o => rw [e x o hx q] at h; cases h
theorem LK.mono (e : Ext av H H') (g : Grow av av' H) (h : LK K av H a xs) : LK K av' H' a xs :=
  .inl ⟨.inl (e a _ h.get.2 h.get.1), fun z => (g a z).elim h.get.2 fun q => by rw [h.get.1] at q; cases q⟩
theorem SK.mono (e : Ext av H H') (g : Grow av av' H) (h : SK K av H a xs) : SK K av' H' a xs := h.imp (fun ⟨⟨o, q⟩, n⟩ => ⟨⟨o, e a _ n q⟩, fun z => (g a z).elim n fun y => by rw [q] at y; cases y⟩) id
theorem TK.mono (e : Ext av H H') (g : Grow av av' H) (h : TK K av H a xs) : TK K av' H' a xs := h.imp (fun ⟨⟨o, q, d⟩, n⟩ => ⟨⟨o, e a _ n q, d⟩, fun z => (g a z).elim n fun y => by rw [q] at y; cases y⟩) id
end
/-- what H says of a kept error: its one object -/
def kepO (a : Addr) (oe : Obj) : HO := .ext fun h => h.get? a = some oe
/-- a kept error of the own class named c, without a dict -/
def isiTs : List String := ["int", "bool", "tuple", "str", "list"]
/-- what the own class at D must say, so that isinstance asks its errors rightly -/
structure ExcK (K : PySem.W.Frag) (D : Addr) : Prop where
  c : ExcC K D
  no : ∀ T ∈ isiTs, PySem.W.kitOne K (.ref D) (.type T) = some false
def ExcAt (K : PySem.W.Frag) (H : Hp) (a : Addr) (c : Str) : Prop := ∃ (oe : Obj) (D : Addr), H a = some (kepO a oe) ∧ PySem.W.nsIn K mainGlobals c = some (some (.ref D)) ∧ L2N.Zn (.ref D) none oe ∧ (∃ vs, oe.data = .fields vs) ∧ ExcK K D
/-- an error of the own class named c that keeps a number -/
def ExfAt (K : PySem.W.Frag) (H : Hp) (a : Addr) (c f : Str) (i : Int) (dd : Addr) : Prop := ∃ (oe : Obj) (D : Addr), H a = some (kepO a oe) ∧ PySem.W.nsIn K mainGlobals c = some (some (.ref D)) ∧ L2N.Zn (.ref D) (some dd) oe ∧ (∃ vs, oe.data = .fields vs) ∧ ExcK K D ∧ H dd = some (.xd [(f, .int i)])
mutual
/-- a nested key's data -/
def nkD : NestedKey → PyData
  | .none => .none
  | .num i => .int i
  | .text x => .str x
  | .tup ks => .tuple (nkDs ks)
def nkDs : List NestedKey → List PyData
  | [] => []
  | k :: ks => nkD k :: nkDs ks
end
/-- what H says of a dict whose keys are tuples: its one object -/
def dtO (w : World) (a : Addr) (ks : List (NestedKey × Addr × V)) : HO := .ext fun h => (a == sysModules) = false ∧ ks.length ≤ sizeLine ∧ ∃ (xs : List (NestedKey × Addr × Value)) (o : Obj) (es : Array DictEntry) (ep : Nat),
  Paired (fun (p : NestedKey × Addr × V) (q : NestedKey × Addr × Value) => p.1 = q.1 ∧ p.2.1 = q.2.1 ∧ RelV p.2.2 q.2.2) ks xs ∧ h.get? a = some o ∧ o.ExactDict ∧ o.data = .dict es ep ∧ (∀ prog : Program, es.toList = xs.map (entryOfKey (nestedKind prog w))) ∧ (xs.map (·.1)).Nodup
mutual
/-- the value v stands for the data d; its lists and tuples are owned by nobody -/
inductive RD (K : PySem.W.Frag) (av : Av) (H : Hp) : V → PyData → Prop
  | non : RD K av H .non .none
  | bl (b : Bool) : RD K av H (.bl b) (.bool b)
  | int (i : Int) : RD K av H (.int i) (.int i)
  | str (x : Str) : RD K av H (.str x) (.str x)
  | lst {a : Addr} {xs : List V} {ds : List PyData} : LK K av H a xs → RDs K av H xs ds → RD K av H (.ref a) (.list ds)
  | tup {a : Addr} {xs : List V} {ds : List PyData} : TK K av H a xs → RDs K av H xs ds → RD K av H (.ref a) (.tuple ds)
  | dic {a : Addr} : H a = some (.dK []) → ¬ av a → RD K av H (.ref a) (.dict [])
  | exc {a : Addr} {c : Str} : ExcAt K H a c → ¬ av a → RD K av H (.ref a) (.dict [(.none, .str c)])
  | exf {a dd : Addr} {c f : Str} {i : Int} : ExfAt K H a c f i dd → ¬ av a → ¬ av dd → RD K av H (.ref a) (.dict [(.none, .str c), (.str f, .int i)])
  | scr {a : Addr} {ns : List Int} : SK K av H a (ns.map V.int) → RD K av H (.ref a) (scrD ns)
  /-- a dict whose keys are tuples, never empty -/
  | dct {a : Addr} {o : Obj} {ks : List (NestedKey × Addr × V)} {t0 : List PyData} {d0 : PyData} {kvs : List (PyData × PyData)} : H a = some (.frz o (dtO av.w a ks)) → ¬ av a → ks.map (fun p => nkD p.1) = ((.tuple t0, d0) :: kvs).map Prod.fst → (∀ p ∈ ks, ∃ l, p.1 = .tup l ∧ p.1.depth ≤ 8) → RDs K av H (ks.map fun p => .ref p.2.1) (((.tuple t0, d0) :: kvs).map Prod.fst) → RDs K av H (ks.map (·.2.2)) (((.tuple t0, d0) :: kvs).map Prod.snd) → RD K av H (.ref a) (.dict ((.tuple t0, d0) :: kvs))
inductive RDs (K : PySem.W.Frag) (av : Av) (H : Hp) : List V → List PyData → Prop
  | nil : RDs K av H [] []
  | cons {v : V} {vs : List V} {d : PyData} {ds : List PyData} : RD K av H v d → RDs K av H vs ds → RDs K av H (v :: vs) (d :: ds)
end
/-- the dict of a kept error, if it has one -/
def keptD (H : Hp) (dx : Option Addr) : Prop := ∀ dd, dx = some dd → ∃ fs, H dd = some (.xd fs)
theorem keptD0 {H : Hp} : keptD H none := fun _ z => by cases z
def ExcAny (K : PySem.W.Frag) (H : Hp) (a : Addr) (c : Str) : Prop := ∃ (oe : Obj) (D : Addr) (dx : Option Addr), H a = some (kepO a oe) ∧ PySem.W.nsIn K mainGlobals c = some (some (.ref D)) ∧ L2N.Zn (.ref D) dx oe ∧ keptD H dx ∧ (∃ vs, oe.data = .fields vs) ∧ ExcK K D
theorem rd_exc {K : PySem.W.Frag} {av : Av} {H : Hp} {v : V} {c : Str} {fs : List (PyData × PyData)} (h : RD K av H v (.dict ((.none, .str c) :: fs))) : ∃ a, v = .ref a ∧ ExcAny K H a c := by
  cases h with
  | exc x h2 =>
    obtain ⟨oe, D, g1, g2, g3, g4, g5⟩ := x
    exact ⟨_, rfl, oe, D, none, g1, g2, g3, keptD0, g4, g5⟩
  | exf x h2 h3 =>
    obtain ⟨oe, D, g1, g2, g3, g4, g5, g6⟩ := x
    exact ⟨_, rfl, oe, D, _, g1, g2, g3, fun dd z => by cases z; exact ⟨_, g6⟩, g4, g5⟩
section
variable {K : PySem.W.Frag} {av av' : Av} {H H' : Hp}
mutual
theorem RD.mono1 (e : Ext av H H') (g : Grow av av' H) (hw : av'.w = av.w) : ∀ {v : V} {d : PyData}, RD K av H v d → RD K av' H' v d
  | _, _, .non => .non
  | _, _, .bl b => .bl b
  | _, _, .int i => .int i
  | _, _, .str x => .str x
  | _, _, .lst h1 h2 => .lst (h1.mono e g) (RDs.mono1 e g hw h2)
  | _, _, .tup h1 h2 => .tup (h1.mono e g) (RDs.mono1 e g hw h2)
  | _, _, .dic h1 h2 => .dic (e _ _ h2 h1) fun z => (g _ z).elim h2 fun q => by rw [h1] at q; cases q
  | _, _, .exc ⟨oe, D, a1, a2⟩ h2 => .exc ⟨oe, D, e _ _ h2 a1, a2⟩ fun z => (g _ z).elim h2 fun q => by rw [a1] at q; cases q
  | _, _, .exf ⟨oe, D, a1, a2, a3, a4, a5, a6⟩ h2 h3 => .exf ⟨oe, D, e _ _ h2 a1, a2, a3, a4, a5, e _ _ h3 a6⟩ (fun z => (g _ z).elim h2 fun q => by rw [a1] at q; cases q) fun z => (g _ z).elim h3 fun q => by rw [a6] at q; cases q
  | _, _, .scr h1 => .scr (h1.mono e g)
  | _, _, .dct h1 h2 h4 h5 h6 h7 => .dct (by rw [hw]; exact e _ _ h2 h1) (fun z => (g _ z).elim h2 fun q => by rw [h1] at q; cases q) h4 h5 (RDs.mono1 e g hw h6) (RDs.mono1 e g hw h7)
theorem RDs.mono1 (e : Ext av H H') (g : Grow av av' H) (hw : av'.w = av.w) : ∀ {vs : List V} {ds : List PyData}, RDs K av H vs ds → RDs K av' H' vs ds
  | _, _, .nil => .nil
  | _, _, .cons h1 h2 => .cons (RD.mono1 e g hw h1) (RDs.mono1 e g hw h2)
end
theorem RD.mono0 (e : Ext av H H') (g : Grow av av' H) (hw : av'.w = av.w) (d : PyData) (v : V) (h : RD K av H v d) : RD K av' H' v d := RD.mono1 e g hw h
theorem RDs.mono0 (e : Ext av H H') (g : Grow av av' H) (hw : av'.w = av.w) (ds : List PyData) (vs : List V) (h : RDs K av H vs ds) : RDs K av' H' vs ds := RDs.mono1 e g hw h
theorem RD.mono (e : Ext av H H') (g : Grow av av' H) (d : PyData) (v : V) (h : RD K av H v d) (hw : av'.w = av.w := by first | rfl | assumption) : RD K av' H' v d := RD.mono0 e g hw d v h
theorem RDs.mono (e : Ext av H H') (g : Grow av av' H) (ds : List PyData) (vs : List V) (h : RDs K av H vs ds) (hw : av'.w = av.w := by first | rfl | assumption) : RDs K av' H' vs ds := RDs.mono0 e g hw ds vs h
mutual
theorem RD.dp : ∀ (d : PyData) (v : V), RD K av H v d → d ≠ .dict [] → PyData.hasDict d = false → Dp K H v d
  | .none, _, h, _, _ => by cases h; exact .non
  | .bool b, _, h, _, _ => by cases h; exact .bl b
  | .int i, _, h, _, _ => by cases h; exact .int i
  | .str x, _, h, _, _ => by cases h; exact .str x
  | .list ds, _, h, _, hd => by
    cases h with
    | lst h1 h2 => exact .lst h1.sq (RDs.dp ds _ h2 (by simpa [PyData.hasDict] using hd))
  | .tuple ds, _, h, _, hd => by
    cases h with
    | tup h1 h2 => exact .tup h1.sq (RDs.dp ds _ h2 (by simpa [PyData.hasDict] using hd))
  | .dict kvs, _, h, n, hd => by
    cases h with
    | dic h1 h2 => exact absurd rfl n
    | exc h1 h2 => exact absurd hd (by simp [PyData.hasDict])
    | exf h1 h2 h3 => exact absurd hd (by simp [PyData.hasDict])
    | scr h1 => exact absurd hd (by simp [PyData.hasDict])
    | dct h1 h2 h4 h5 h6 h7 => exact absurd hd (by simp [PyData.hasDict])
theorem RDs.dp : ∀ (ds : List PyData) (vs : List V), RDs K av H vs ds → PyData.hasDictAll ds = false → DpAll K H vs ds
  | [], _, h, _ => by cases h; exact .nil
  | d :: ds, _, h, hd => by
    cases h with
    | cons h1 h2 =>
      have hd' : d.hasDict = false ∧ PyData.hasDictAll ds = false := by simpa [PyData.hasDictAll] using hd
      exact .cons (RD.dp d _ h1 (fun z => by rw [z] at hd'; simp [PyData.hasDict] at hd') hd'.1) (RDs.dp ds _ h2 hd'.2)
end
theorem RDs.len : ∀ {vs : List V} {ds : List PyData}, RDs K av H vs ds → vs.length = ds.length
  | _, _, .nil => rfl
  | _, _, .cons _ h => congrArg (· + 1) h.len
theorem RDs.get : ∀ {vs : List V} {ds : List PyData} {i : Nat} {d : PyData}, RDs K av H vs ds → ds[i]? = some d → ∃ v, vs[i]? = some v ∧ RD K av H v d
  | _, _, _, _, .nil, e => by simp at e
  | _, _, 0, _, .cons h _, e => by simp at e; subst e; exact ⟨_, rfl, h⟩
  | _, _, i + 1, _, .cons _ h, e => by
    obtain ⟨v, h1, h2⟩ := RDs.get (i := i) h (by simpa using e)
    exact ⟨v, by simpa using h1, h2⟩
theorem RDs.append : ∀ {vs ws : List V} {ds es : List PyData}, RDs K av H vs ds → RDs K av H ws es → RDs K av H (vs ++ ws) (ds ++ es)
  | _, _, _, _, .nil, s => s
  | _, _, _, _, .cons r t, s => .cons r (RDs.append t s)
theorem RDs.take : ∀ {vs : List V} {ds : List PyData} (n : Nat), RDs K av H vs ds → RDs K av H (vs.take n) (ds.take n)
  | _, _, 0, _ => .nil
  | _, _, _ + 1, .nil => .nil
  | _, _, n + 1, .cons r t => .cons r (RDs.take n t)
theorem RDs.drop : ∀ {vs : List V} {ds : List PyData} (n : Nat), RDs K av H vs ds → RDs K av H (vs.drop n) (ds.drop n)
  | _, _, 0, r => r
  | _, _, _ + 1, .nil => .nil
  | _, _, n + 1, .cons _ t => RDs.drop n t
theorem RDs.set {x : V} {d : PyData} (r : RD K av H x d) : ∀ {vs : List V} {ds : List PyData} (i : Nat), RDs K av H vs ds → RDs K av H (vs.set i x) (ds.set i d)
  | _, _, _, .nil => .nil
  | _, _, 0, .cons _ t => .cons r t
  | _, _, i + 1, .cons q t => .cons q (RDs.set r i t)
theorem RDs.erase : ∀ {vs : List V} {ds : List PyData} (i : Nat), RDs K av H vs ds → RDs K av H (vs.eraseIdx i) (ds.eraseIdx i)
  | _, _, _, .nil => .nil
  | _, _, 0, .cons _ t => t
  | _, _, i + 1, .cons q t => .cons q (RDs.erase i t)
theorem RDs.reverse : ∀ {vs : List V} {ds : List PyData}, RDs K av H vs ds → RDs K av H vs.reverse ds.reverse
  | _, _, .nil => .nil
  | _, _, .cons q t => by rw [List.reverse_cons, List.reverse_cons]; exact t.reverse.append (.cons q .nil)
theorem RDs.ints : ∀ {vs : List V} {ns : List Int}, RDs K av H vs (ns.map PyData.int) → vs = ns.map V.int
  | _, [], h => by cases h; rfl
  | _, n :: ns, h => by
    cases h with
    | cons h1 h2 => cases h1; rw [List.map_cons, h2.ints]
theorem RDs.bls : ∀ {vs : List V} {ns : List Bool}, RDs K av H vs (ns.map PyData.bool) → vs = ns.map V.bl
  | _, [], h => by cases h; rfl
  | _, n :: ns, h => by
    cases h with
    | cons h1 h2 => cases h1; rw [List.map_cons, h2.bls]
theorem RDs.mkInts : ∀ ns : List Int, RDs K av H (ns.map V.int) (ns.map PyData.int)
  | [] => .nil
  | n :: ns => .cons (.int n) (RDs.mkInts ns)
end
/-- what one slot alone knows: a list of lists, a dict -/
inductive Nst where
  | ls (dss : List (List PyData))
  | dc (kvs : List (Key × PyData))
  | dt (kvs : List (NestedKey × PyData))
inductive Sl where
  | nil
  | val (d : PyData)
  /-- a list that this slot alone knows -/
  | own (ds : List PyData)
  /-- a list that the caller handed in, to be changed -/
  | io (ds : List PyData)
  /-- a list of lists, a dict that this slot alone knows -/
  | nst (x : Nst)
  /-- a tuple of a value and of a list that nobody else knows: only returned -/
  | pair (d : PyData) (ds : List PyData)
abbrev En := List Sl
abbrev Ow := Nat → Option Addr
structure Cn where
  A0 : Addr → Prop
  H0 : Hp
  io : Ow
  w : World
def av (C : Cn) (ow : Ow) : Av := ⟨fun a => C.A0 a ∨ ∃ i, ow i = some a, C.w⟩
/-- a frame in the same world -/
abbrev CnW (C : Cn) := {C' : Cn // C'.w = C.w}
def own? : Option Sl → Option (List PyData)
  | some (.own ds) => some ds
  | some (.io ds) => some ds
  | _ => none
/-- the inner lists of slot i are owned by these indices -/
def nx (i k : Nat) : Nat := (k + 1) * 4096 + i
def NstAt (S : En) (j : Nat) : Prop := (∃ dss, S[j]? = some (Sl.nst dss)) ∨ ∃ (i k : Nat) (dss : List (List PyData)), j = nx i k ∧ S[i]? = some (Sl.nst (.ls dss)) ∧ k < dss.length
/-- a key's data -/
def kD (k : Key) : PyData := match k with
  | .inl i => .int i
  | .inr s => .str s
/-- what a dict holds -/
structure DkR (K : PySem.W.Frag) (av : Av) (H : Hp) (ks : List (Key × V)) (kvs : List (Key × PyData)) : Prop where
  key : ks.map (·.1) = kvs.map (·.1)
  val : RDs K av H (ks.map (·.2)) (kvs.map (·.2))
structure DtR (K : PySem.W.Frag) (av : Av) (H : Hp) (ks : List (NestedKey × Addr × V)) (kvs : List (NestedKey × PyData)) : Prop where
  key : ks.map (·.1) = kvs.map (·.1)
  tup : RDs K av H (ks.map fun p => .ref p.2.1) (kvs.map fun p => nkD p.1)
  isT : ∀ p ∈ ks, ∃ l, p.1 = .tup l ∧ p.1.depth ≤ 8
  val : RDs K av H (ks.map (·.2.2)) (kvs.map (·.2))
structure Ns (K : PySem.W.Frag) (C : Cn) (ow : Ow) (S : En) (σ : St) (H : Hp) : Prop where
  big : S.length ≤ 4096
  nst : ∀ (i : Nat) dss, S[i]? = some (Sl.nst (.ls dss)) → ∃ (a : Addr) (bs : List Addr), ow i = some a ∧ σ[i]? = some (some (.ref a)) ∧ H a = some (.lst (bs.map V.ref)) ∧ bs.length = dss.length ∧ ∀ (k : Nat) b ds, bs[k]? = some b → dss[k]? = some ds → ow (nx i k) = some b ∧ ∃ ws, H b = some (.lst ws) ∧ RDs K (av C ow) H ws ds
  dct : ∀ (i : Nat) kvs, S[i]? = some (Sl.nst (.dc kvs)) → ∃ (a : Addr) (ks : List (Key × V)), ow i = some a ∧ σ[i]? = some (some (.ref a)) ∧ H a = some (.dK ks) ∧ DkR K (av C ow) H ks kvs
  dtt : ∀ (i : Nat) kvs, S[i]? = some (Sl.nst (.dt kvs)) → ∃ (a : Addr) (ks : List (NestedKey × Addr × V)), ow i = some a ∧ σ[i]? = some (some (.ref a)) ∧ H a = some (dtO C.w a ks) ∧ DtR K (av C ow) H ks kvs
  frn : ∀ i a, NstAt S i → ow i = some a → C.H0 a = none ∧ ¬ C.A0 a
theorem DtR.mono {K : PySem.W.Frag} {av av' : Av} {H H' : Hp} {ks : List (NestedKey × Addr × V)} {kvs : List (NestedKey × PyData)} (h : DtR K av H ks kvs) (f : ∀ ws ds, RDs K av H ws ds → RDs K av' H' ws ds) : DtR K av' H' ks kvs := ⟨h.key, f _ _ h.tup, h.isT, f _ _ h.val⟩
def nn (o : Option Sl) : Bool := match o with
  | some (Sl.nst _) => false
  | _ => true
section
variable {K : PySem.W.Frag} {C C' : Cn} {ow ow' : Ow} {S S' : En} {σ σ' : St} {H H' : Hp}
theorem NstAt.of {j : Nat} (h : NstAt S j) (hS : ∀ (i : Nat) (dss : Nst), S[i]? = some (Sl.nst dss) → S'[i]? = some (Sl.nst dss)) : NstAt S' j := by
  rcases h with ⟨d, h⟩ | ⟨i, k, d, e, h, l⟩
  · exact .inl ⟨d, hS j d h⟩
  · exact .inr ⟨i, k, d, e, hS i _ h, l⟩
theorem NstAt.ne {i j : Nat} (h : NstAt S j) (hi : nn S[i]? = true) (hl : i < 4096) : j ≠ i := by
  rcases h with ⟨d, h⟩ | ⟨m, k, d, e, h, l⟩
  · exact fun z => by rw [← z, h] at hi; cases hi
  · unfold nx at e
    have : 4096 ≤ (k + 1) * 4096 := Nat.le_mul_of_pos_left _ (Nat.succ_pos k)
    omega
theorem nst_set {i j : Nat} {x : Sl} {dss : Nst} (h0 : nn S[i]? = true) (hx : nn (some x) = true) : (S.set i x)[j]? = some (Sl.nst dss) ↔ S[j]? = some (Sl.nst dss) := by
  by_cases e : i = j
  · subst e
    by_cases hl : i < S.length
    · rw [List.getElem?_set_self hl]
      constructor
      · intro z; cases z; cases hx
      · intro z; rw [z] at h0; cases h0
    · rw [List.getElem?_eq_none (by rw [List.length_set]; omega), List.getElem?_eq_none (by omega)]
  · rw [List.getElem?_set_ne e]
theorem Ns.move (n : Ns K C ow S σ H) (hl : S'.length ≤ 4096) (hS : ∀ (j : Nat) (dss : Nst), S'[j]? = some (Sl.nst dss) → S[j]? = some (Sl.nst dss)) (how : ∀ j, NstAt S j → ow' j = ow j) (hσ : ∀ (j : Nat) (dss : Nst), S[j]? = some (Sl.nst dss) → σ[j]? ≠ none → σ'[j]? = σ[j]?)
    (hH : ∀ j a o, NstAt S j → ow j = some a → H a = some o → H' a = some o) (hrd : ∀ ws ds, RDs K (av C ow) H ws ds → RDs K (av C' ow') H' ws ds) (hf : ∀ j a, NstAt S j → ow j = some a → C.H0 a = none ∧ ¬ C.A0 a → C'.H0 a = none ∧ ¬ C'.A0 a) (hw : C'.w = C.w := by rfl) : Ns K C' ow' S' σ' H' := by
  refine ⟨hl, fun i dss e => ?_, fun i kvs e => ?_, fun i kvs e => ?_, fun i a h e => ?_⟩
  · have e' := hS i _ e
    obtain ⟨a, bs, h1, h2, h3, h4, h5⟩ := n.nst i dss e'
    have hi : NstAt S i := .inl ⟨_, e'⟩
    refine ⟨a, bs, (how i hi).trans h1, (hσ i _ e' (by rw [h2]; simp)).trans h2, hH i a _ hi h1 h3, h4, fun k b ds q1 q2 => ?_⟩
    obtain ⟨g1, ws, g2, g3⟩ := h5 k b ds q1 q2
    have hk : NstAt S (nx i k) := .inr ⟨i, k, dss, rfl, e', (List.getElem?_eq_some_iff.mp q2).1⟩
    exact ⟨(how _ hk).trans g1, ws, hH _ b _ hk g1 g2, hrd ws ds g3⟩
  · have e' := hS i _ e
    obtain ⟨a, ks, h1, h2, h3, h4⟩ := n.dct i kvs e'
    have hi : NstAt S i := .inl ⟨_, e'⟩
    exact ⟨a, ks, (how i hi).trans h1, (hσ i _ e' (by rw [h2]; simp)).trans h2, hH i a _ hi h1 h3, h4.key, hrd _ _ h4.val⟩
  · have e' := hS i _ e
    obtain ⟨a, ks, h1, h2, h3, h4⟩ := n.dtt i kvs e'
    have hi : NstAt S i := .inl ⟨_, e'⟩
    exact ⟨a, ks, (how i hi).trans h1, (hσ i _ e' (by rw [h2]; simp)).trans h2, by rw [hw]; exact hH i a _ hi h1 h3, h4.key, hrd _ _ h4.tup, h4.isT, hrd _ _ h4.val⟩
  · have h' : NstAt S i := h.of hS
    rw [how i h'] at e
    exact hf i a h' e (n.frn i a h' e)
theorem Ns.slot (n : Ns K C ow S σ H) {i : Nat} {x : Nst} (h : S[i]? = some (Sl.nst x)) : ∃ a, ow i = some a ∧ σ[i]? = some (some (.ref a)) := by
  cases x with
  | ls d => obtain ⟨a, _, h1, h2, _⟩ := n.nst i d h; exact ⟨a, h1, h2⟩
  | dc d => obtain ⟨a, _, h1, h2, _⟩ := n.dct i d h; exact ⟨a, h1, h2⟩
  | dt d => obtain ⟨a, _, h1, h2, _⟩ := n.dtt i d h; exact ⟨a, h1, h2⟩
theorem Ns.live (n : Ns K C ow S σ H) {i : Nat} {a : Addr} (h : NstAt S i) (e : ow i = some a) : ∃ o, H a = some o := by
  rcases h with ⟨d, h⟩ | ⟨m, k, d, e2, h, l⟩
  · cases d with
    | ls d =>
      obtain ⟨b, bs, h1, h2, h3, _⟩ := n.nst i d h
      rw [h1] at e; cases e
      exact ⟨_, h3⟩
    | dc d =>
      obtain ⟨b, ks, h1, h2, h3, _⟩ := n.dct i d h
      rw [h1] at e; cases e
      exact ⟨_, h3⟩
    | dt d =>
      obtain ⟨b, ks, h1, h2, h3, _⟩ := n.dtt i d h
      rw [h1] at e; cases e
      exact ⟨_, h3⟩
  · obtain ⟨b, bs, h1, h2, h3, h4, h5⟩ := n.nst m d h
    have l' : k < bs.length := by omega
    obtain ⟨g1, ws, g2, _⟩ := h5 k _ _ (List.getElem?_eq_getElem l') (List.getElem?_eq_getElem l)
    rw [← e2, e] at g1; cases g1
    exact ⟨_, g2⟩
end
structure Rl (K : PySem.W.Frag) (C : Cn) (ow : Ow) (S : En) (σ : St) (H : Hp) : Prop where
  len : S.length = σ.length
  val : ∀ (i : Nat) d, S[i]? = some (.val d) → ∃ v, σ[i]? = some (some v) ∧ RD K (av C ow) H v d
  own : ∀ (i : Nat) ds, own? S[i]? = some ds → ∃ a vs, ow i = some a ∧ σ[i]? = some (some (.ref a)) ∧ H a = some (.lst vs) ∧ RDs K (av C ow) H vs ds
  ows : ∀ i a, ow i = some a → (∃ ds, own? S[i]? = some ds) ∨ NstAt S i
  inj : ∀ i j a, ow i = some a → ow j = some a → i = j
  frs : ∀ (i : Nat) ds a, S[i]? = some (.own ds) → ow i = some a → C.H0 a = none ∧ ¬ C.A0 a
  ios : ∀ (i : Nat) ds, S[i]? = some (.io ds) → C.io i = ow i
  iok : ∀ i a, C.io i = some a → C.A0 a ∧ ∃ ds, S[i]? = some (.io ds)
  trk : ∀ a, C.A0 a → ∃ o, H a = some o
  ext : ∀ a o, C.H0 a = some o → (∀ i, C.io i ≠ some a) → H a = some o
  ns : Ns K C ow S σ H
section
variable {K : PySem.W.Frag} {C : Cn} {ow : Ow} {S : En} {σ : St} {H H' : Hp}
theorem Rl.tracked (r : Rl K C ow S σ H) : ∀ a, av C ow a → ∃ o, H a = some o := fun a h => by
  rcases h with h | ⟨i, h⟩
  · exact r.trk a h
  · rcases r.ows i a h with ⟨ds, e⟩ | e
    · obtain ⟨b, vs, e1, _, e2, _⟩ := r.own i ds e
      rw [h] at e1; cases e1
      exact ⟨_, e2⟩
    · obtain ⟨vs, e2⟩ := r.ns.live e h
      exact ⟨_, e2⟩
/-- an exception's dict is owned by no slot -/
theorem Rl.xd (r : Rl K C ow S σ H) {dd : Addr} {fs : List (Str × V)} (h : H dd = some (.xd fs)) (n : ¬ C.A0 dd) : ¬ av C ow dd := fun z => by
  rcases z with z | ⟨i, z⟩
  · exact n z
  · rcases r.ows i dd z with ⟨ds, e⟩ | e
    · obtain ⟨b, vs, e1, _, e2, _⟩ := r.own i ds e
      rw [z] at e1; cases e1
      rw [h] at e2; cases e2
    · rcases e with ⟨d, e⟩ | ⟨m, k, d, e2, e, l⟩
      · cases d with
        | ls d =>
          obtain ⟨b, bs, h1, h2, h3, _⟩ := r.ns.nst i d e
          rw [h1] at z; cases z
          rw [h] at h3; cases h3
        | dc d =>
          obtain ⟨b, ks, h1, h2, h3, _⟩ := r.ns.dct i d e
          rw [h1] at z; cases z
          rw [h] at h3; cases h3
        | dt d =>
          obtain ⟨b, ks, h1, h2, h3, _⟩ := r.ns.dtt i d e
          rw [h1] at z; cases z
          rw [h] at h3
          have h4 : HO.xd fs = HO.ext _ := Option.some.inj h3
          cases h4
      · obtain ⟨b, bs, h1, h2, h3, h4, h5⟩ := r.ns.nst m d e
        have l' : k < bs.length := by omega
        obtain ⟨g1, ws, g2, _⟩ := h5 k _ _ (List.getElem?_eq_getElem l') (List.getElem?_eq_getElem l)
        rw [← e2, z] at g1; cases g1
        rw [h] at g2; cases g2
theorem Rl.fresh (r : Rl K C ow S σ H) {p : Addr} (h : H p = none) : ¬ av C ow p := fun z => by
  obtain ⟨o, e⟩ := r.tracked p z
  rw [h] at e; cases e
/-- all that was tracked stays -/
theorem Rl.same (r : Rl K C ow S σ H) (h : Same H H') : Rl K C ow S σ H' where
  len := r.len
  val := fun i d e => let ⟨v, e1, e2⟩ := r.val i d e; ⟨v, e1, RD.mono (Ext.same h) (Grow.refl _ _) d v e2⟩
  own := fun i ds e => let ⟨a, vs, e1, e2, e3, e4⟩ := r.own i ds e; ⟨a, vs, e1, e2, h a _ e3, RDs.mono (Ext.same h) (Grow.refl _ _) ds vs e4⟩
  ows := r.ows
  inj := r.inj
  frs := r.frs
  ios := r.ios
  iok := r.iok
  trk := fun a z => let ⟨o, e⟩ := r.trk a z; ⟨o, h a o e⟩
  ext := fun a o e z => h a o (r.ext a o e z)
  ns := r.ns.move r.ns.big (fun _ _ e => e) (fun _ _ => rfl) (fun _ _ _ _ => rfl) (fun _ a o _ _ e => h a o e) (fun ws ds q => RDs.mono (Ext.same h) (Grow.refl _ _) ds ws q) (fun _ _ _ _ z => z)
end
/-- an error: its class's name, the number that it keeps -/
structure Ec where
  n : Str
  f : Option (Str × Int)
instance : Coe Str Ec := ⟨fun c => ⟨c, none⟩⟩
/-- its dict -/
def ExD (A0 : Addr → Prop) (H : Hp) (c : Ec) (d : Option Addr) : Prop := match c.f with
  | none => d = none
  | some (f, i) => ∃ dd, d = some dd ∧ H dd = some (.xd [(f, .int i)]) ∧ ¬ A0 dd
theorem ExD.less {A A' : Addr → Prop} {H : Hp} {c : Ec} {d : Option Addr} (h : ExD A H c d) (l : ∀ a, A' a → A a) : ExD A' H c d := by
  obtain ⟨n, f⟩ := c
  cases f with
  | none => exact h
  | some p =>
    obtain ⟨dd, h1, h2, h3⟩ := h
    exact ⟨dd, h1, h2, fun z => h3 (l dd z)⟩
inductive R (α : Type) where
  | ok (a : α) (S : En)
  | ex (c : Ec) (S : En)
  | no
abbrev SE := En → R PyData
abbrev SN := En → R (List PyData)
abbrev STt := En → R Bool
def R.bind {α β : Type} (x : R α) (f : α → En → R β) : R β := match x with
  | .ok a S => f a S
  | .ex c S => .ex c S
  | .no => .no
@[simp] theorem bind_ok {α β : Type} (a : α) (S : En) (f : α → En → R β) : (R.ok a S).bind f = f a S := rfl
@[simp] theorem bind_ex {α β : Type} (c : Ec) (S : En) (f : α → En → R β) : (R.ex c S : R α).bind f = .ex c S := rfl
@[simp] theorem bind_no {α β : Type} (f : α → En → R β) : (R.no : R α).bind f = .no := rfl
def clOf (mg : Str → Option Value) (c : Str) : Value := (mg c).getD .none
/-- the reading of a computed thing: wish W of exceptions -/
abbrev Rel (β α : Type) := Cn → Ow → St → En → Hp → Hp → β → α → Prop
def xG {α β : Type} (K : PySem.W.Frag) (mg : Str → Option Value) (W : WX) (C : Cn) (rel : Rel β α) (s : En → R α) : St → Hp → (β → Hp → Prop) → Prop := fun σ H Q =>
  ∃ ow S, Rl K C ow S σ H ∧ match s S with
    | .ok d S' => ∀ v H', Rl K C ow S' σ H' → Ext (av C ow) H H' → rel C ow σ S' H H' v d → Q v H'
    | .ex c S' => ∀ H', Rl K C ow S' σ H' → Ext (av C ow) H H' → ∀ d, ExD C.A0 H' c d → W (clOf mg c.n) d σ H'
    | .no => False
abbrev relE (K : PySem.W.Frag) : Rel V PyData := fun C ow _ _ _ H' v d => RD K (av C ow) H' v d
/-- a new list: all the rest stands without it -/
abbrev relN (K : PySem.W.Frag) : Rel V (List PyData) := fun C ow σ S' H H' v ds => ∃ a vs Hm, v = .ref a ∧ Hm a = none ∧ H' = upd Hm a (.lst vs) ∧ Ext (av C ow) H Hm ∧ Rl K C ow S' σ Hm ∧ RDs K (av C ow) Hm vs ds
/-- some list, for a reader -/
abbrev relL (K : PySem.W.Frag) : Rel V (List PyData) := fun C ow _ _ _ H' v ds => ∃ a vs, v = .ref a ∧ SqL K H' a vs ∧ RDs K (av C ow) H' vs ds
abbrev relB : Rel Bool Bool := fun _ _ _ _ _ _ b c => b = c
abbrev relA (K : PySem.W.Frag) : Rel (List V) (List PyData) := fun C ow _ _ _ H' vs ds => RDs K (av C ow) H' vs ds
abbrev xE (K : PySem.W.Frag) (mg : Str → Option Value) (W : WX) (C : Cn) (s : SE) : TE := xG K mg W C (relE K) s
abbrev xN (K : PySem.W.Frag) (mg : Str → Option Value) (W : WX) (C : Cn) (s : SN) : TE := xG K mg W C (relN K) s
abbrev xL (K : PySem.W.Frag) (mg : Str → Option Value) (W : WX) (C : Cn) (s : SN) : TE := xG K mg W C (relL K) s
abbrev xB (K : PySem.W.Frag) (mg : Str → Option Value) (W : WX) (C : Cn) (s : STt) : TT := xG K mg W C relB s
abbrev xA (K : PySem.W.Frag) (mg : Str → Option Value) (W : WX) (C : Cn) (s : SN) : TA := xG K mg W C (relA K) s
end Ds
end
section
set_option Elab.async false
set_option linter.all false
set_option maxRecDepth 100000
set_option maxHeartbeats 4000000
namespace Ds
open PySem PySem.Spec PyProof.Rows L2
def R.opt {α : Type} (o : Option α) (S : En) : R α := match o with
  | some a => .ok a S
  | none => .no
@[simp] theorem opt_some {α : Type} (a : α) (S : En) : R.opt (some a) S = .ok a S := rfl
@[simp] theorem opt_none {α : Type} (S : En) : (R.opt none S : R α) = .no := rfl
/-- what is left to be shown of a computed thing -/
def pst {α β : Type} (K : PySem.W.Frag) (mg : Str → Option Value) (W : WX) (C : Cn) (rel : Rel β α) (ow : Ow) (σ : St) (H : Hp) (Q : β → Hp → Prop) (r : R α) : Prop := match r with
    | .ok d S' => ∀ v H', Rl K C ow S' σ H' → Ext (av C ow) H H' → rel C ow σ S' H H' v d → Q v H'
    | .ex c S' => ∀ H', Rl K C ow S' σ H' → Ext (av C ow) H H' → ∀ d, ExD C.A0 H' c d → W (clOf mg c.n) d σ H'
    | .no => False
section
variable {K : PySem.W.Frag} {mg : Str → Option Value} {W : WX} {C : Cn} {ow : Ow} {σ : St} {H H' : Hp} {α β γ δ : Type}
/-- the relation does not mind an earlier beginning -/
def Early (K : PySem.W.Frag) (rel : Rel β α) : Prop := ∀ (C : Cn) (ow : Ow) (S S' : En) (σ : St) (T : En) (H H' H2 : Hp) v d, Rl K C ow S σ H → Rl K C ow S' σ H' → Ext (av C ow) H H' → rel C ow σ T H' H2 v d → rel C ow σ T H H2 v d
theorem early_E : Early K (relE K) := fun _ _ _ _ _ _ _ _ _ _ _ _ _ _ h => h
theorem early_A : Early K (relA K) := fun _ _ _ _ _ _ _ _ _ _ _ _ _ _ h => h
theorem early_B : Early K (relB) := fun _ _ _ _ _ _ _ _ _ _ _ _ _ _ h => h
theorem early_N : Early K (relN K) := fun _ _ _ _ _ _ _ _ _ _ _ r r' e ⟨a, vs, Hm, h1, h2, h3, h4, h5, h6⟩ => ⟨a, vs, Hm, h1, h2, h3, e.trans (Grow.refl _ _) h4, h5, h6⟩
theorem pst_from {rel : Rel β α} (er : Early K rel) {Q : β → Hp → Prop} {S S' : En} {r : R α} (r1 : Rl K C ow S σ H) (r2 : Rl K C ow S' σ H') (e : Ext (av C ow) H H') (h : pst K mg W C rel ow σ H Q r) : pst K mg W C rel ow σ H' Q r := by
  cases r with
  | ok d T => exact fun v H2 q1 q2 q3 => h v H2 q1 (e.trans (Grow.refl _ _) q2) (er C ow S S' σ T H H' H2 v d r1 r2 e q3)
  | ex c T => exact fun H2 q1 q2 => h H2 q1 (e.trans (Grow.refl _ _) q2)
  | no => exact h
theorem pst_imp {rel : Rel β α} {Q Q' : β → Hp → Prop} {r : R α} (h : pst K mg W C rel ow σ H Q r) (f : ∀ v H', Q v H' → Q' v H') : pst K mg W C rel ow σ H Q' r := by
  cases r with
  | ok d T => exact fun v H2 q1 q2 q3 => f _ _ (h v H2 q1 q2 q3)
  | ex c T => exact h
  | no => exact h
/-- one thing, then another -/
theorem seq {rel : Rel β α} {rel3 : Rel δ γ} (er : Early K rel3) {s : En → R α} {k : α → En → R γ} {Q : δ → Hp → Prop} {P : β → Hp → Prop} {S : En} (r : Rl K C ow S σ H)
    (h : pst K mg W C rel3 ow σ H Q ((s S).bind k)) (f : ∀ S' d v H', Rl K C ow S' σ H' → Ext (av C ow) H H' → rel C ow σ S' H H' v d → pst K mg W C rel3 ow σ H' Q (k d S') → P v H') : xG K mg W C rel s σ H P := by
  refine ⟨ow, S, r, ?_⟩
  show pst K mg W C rel ow σ H P (s S)
  cases e : s S with
  | ok d S' =>
    rw [e] at h
    exact fun v H' r' x q => f S' d v H' r' x q (pst_from er r r' x h)
  | ex c S' =>
    rw [e] at h
    exact h
  | no =>
    rw [e] at h
    exact h
/-- the end: nothing more happens -/
theorem pst_ok {rel : Rel β α} {Q : β → Hp → Prop} {d : α} {S : En} {v : β} (r : Rl K C ow S σ H) (h : pst K mg W C rel ow σ H Q (.ok d S)) (q : rel C ow σ S H H v d) : Q v H := h v H r (Ext.refl _ _) q
theorem pst_same {rel : Rel β α} {Q : β → Hp → Prop} {d : α} {S : En} {v : β} (r : Rl K C ow S σ H) (h : pst K mg W C rel ow σ H Q (.ok d S)) (e : Same H H') (q : rel C ow σ S H H' v d) : Q v H' := h v H' (r.same e) (Ext.same e) q
end
theorem same_new {H : Hp} {p : Addr} {o : HO} (h : H p = none) : Same H (upd H p o) := fun b x e => by
  rw [upd_ne (ne_of_none e h)]
  exact e
theorem rds_same {K : PySem.W.Frag} {av : Av} {H H' : Hp} {vs : List V} {ds : List PyData} (h : RDs K av H vs ds) (s : Same H H') : RDs K av H' vs ds := RDs.mono (Ext.same s) (Grow.refl _ _) ds vs h
theorem rd_same {K : PySem.W.Frag} {av : Av} {H H' : Hp} {vs : V} {ds : PyData} (h : RD K av H vs ds) (s : Same H H') : RD K av H' vs ds := RD.mono (Ext.same s) (Grow.refl _ _) ds vs h
theorem fr_of {av : Av} {H : Hp} (t : ∀ a, av a → ∃ o, H a = some o) {p : Addr} (h : H p = none) : ¬ av p := fun z => by
  obtain ⟨o, e⟩ := t p z
  rw [h] at e; cases e
/-- a new tuple: all that is known of its object -/
def NT (H : Hp) (xs : List V) (Q : VK) : Prop := ∀ (p : Addr) (o : Obj), H p = none → o.dict = none → o.cls = .type "tuple" → Q (.ref p) (upd H p (.frz o (.tup xs)))
theorem rd_newT {K : PySem.W.Frag} {av : Av} {H : Hp} {vs : List V} {ds : List PyData} (t : ∀ a, av a → ∃ o, H a = some o) (h : RDs K av H vs ds) {p : Addr} {o : Obj} (n : H p = none) (d : o.dict = none) (c : o.cls = .type "tuple") : RD K av (upd H p (.frz o (.tup vs))) (.ref p) (.tuple ds) :=
  .tup (.inl ⟨⟨o, upd_same, d, c⟩, fr_of t n⟩) (rds_same h (same_new n))
theorem NT.run {X : Cx} {pins : List (Addr × Obj)} {σ : St} {H : Hp} {s : Shared} {xs : List V} {Q : VK} {its : List Value} {tk : Nat} (I : Inv X pins σ H s) (q : NT H xs Q) (r : Vals xs its) (z : xs.length ≤ sizeLine) :
    ∃ v H', Inv X pins σ H' { s with heap := s.heap.push { cls := .type "tuple", data := .seq its.toArray }, toks := tk } ∧ RelV v (.ref s.heap.objs.size) ∧ Q v H' :=
  ⟨.ref s.heap.objs.size, _, I.laid (t' := tk) (o := .frz { cls := .type "tuple", data := .seq its.toArray } (.tup xs)) (fun b u e => Heap.get?_push_of_some _ e) (Nat.le_refl _) ⟨Heap.get?_push_size _ rfl, z, its, r, IsTup.new _ _⟩, rfl, q _ _ (I.hok.fresh (Nat.le_refl _)) rfl rfl⟩
theorem rd_newL {K : PySem.W.Frag} {av : Av} {H : Hp} {vs : List V} {ds : List PyData} (t : ∀ a, av a → ∃ o, H a = some o) (h : RDs K av H vs ds) {p : Addr} (n : H p = none) : RD K av (upd H p (.lst vs)) (.ref p) (.list ds) :=
  .lst (.inl ⟨.inl upd_same, fr_of t n⟩) (rds_same h (same_new n))
section
variable {X : Cx} {W : WX} {C : Cn}
theorem pe_imp {e : Expr} {t t' : TE} (h : PE X e t) (f : ∀ σ H Q, t' σ H Q → t σ H Q) : PE X e t' := ⟨fun pins s σ H Q I q => h.run pins s σ H Q I (f σ H Q q)⟩
theorem pt_imp {e : Expr} {t t' : TT} (h : PT X e t) (f : ∀ σ H Q, t' σ H Q → t σ H Q) : PT X e t' := ⟨fun pins s σ H Q I q => h.run pins s σ H Q I (f σ H Q q)⟩
theorem pa_imp {e : List Expr} {t t' : TA} (h : PA X e t) (f : ∀ σ H Q, t' σ H Q → t σ H Q) : PA X e t' := ⟨fun pos pins s σ H Q I q => h.run pos pins s σ H Q I (f σ H Q q)⟩
theorem ps_imp {e : Stmt} {t t' : TS} (h : PS X e t) (f : ∀ D σ H, t' D σ H → t D σ H) : PS X e t' := ⟨fun pins s σ H Q I q => h.run pins s σ H Q I (f Q σ H q)⟩
theorem pss_imp {e : List Stmt} {t t' : TS} (h : PSs X e t) (f : ∀ D σ H, t' D σ H → t D σ H) : PSs X e t' := ⟨fun pins s σ H Q I q => h.run pins s σ H Q I (f Q σ H q)⟩
def val? : Option Sl → Option PyData
  | some (.val d) => some d
  | _ => none
theorem val?_some {o : Option Sl} {d : PyData} (h : val? o = some d) : o = some (.val d) := by
  match o, h with
  | some (.val d), h => cases h; rfl
def sVar (i : Nat) : SE := fun S => R.opt (val? S[i]?) S
theorem e_var {i : Nat} {e : Expr} (h : PE X e (tVar i)) : PE X e (xE X.K X.mg W C (sVar i)) := pe_imp h fun σ H Q ⟨ow, S, r, q⟩ => by
  change pst X.K X.mg W C (relE X.K) ow σ H Q (R.opt (val? S[i]?) S) at q
  cases e : val? S[i]? with
  | none =>
    rw [e] at q
    exact q.elim
  | some d =>
    rw [e] at q
    obtain ⟨v, e1, e2⟩ := r.val i d (val?_some e)
    exact ⟨v, e1, pst_ok r q e2⟩
/-- the list in slot i, for a reader -/
def lst? : Option Sl → Option (List PyData)
  | some (.own ds) => some ds
  | some (.io ds) => some ds
  | some (.val (.list ds)) => some ds
  | _ => none
def sLVar (i : Nat) : SN := fun S => R.opt (lst? S[i]?) S
theorem Rl.list {K : PySem.W.Frag} {ow : Ow} {S : En} {σ : St} {H : Hp} (r : Rl K C ow S σ H) {i : Nat} {ds : List PyData} (h : lst? S[i]? = some ds) : ∃ a vs, σ[i]? = some (some (.ref a)) ∧ SqL K H a vs ∧ RDs K (av C ow) H vs ds := by
  cases e : S[i]? with
  | none => rw [e] at h; cases h
  | some x =>
    rw [e] at h
    match x, h with
    | .own es, h =>
      cases h
      obtain ⟨a, vs, _, h1, h2, h3⟩ := r.own i ds (by rw [e]; rfl)
      exact ⟨a, vs, h1, SqL.of h2, h3⟩
    | .io es, h =>
      cases h
      obtain ⟨a, vs, _, h1, h2, h3⟩ := r.own i ds (by rw [e]; rfl)
      exact ⟨a, vs, h1, SqL.of h2, h3⟩
    | .val (.list es), h =>
      cases h
      obtain ⟨v, h1, h2⟩ := r.val i _ e
      cases h2 with
      | lst h2 h3 => exact ⟨_, _, h1, h2.sq, h3⟩
theorem l_var {i : Nat} {e : Expr} (h : PE X e (tVar i)) : PE X e (xL X.K X.mg W C (sLVar i)) := pe_imp h fun σ H Q ⟨ow, S, r, q⟩ => by
  change pst X.K X.mg W C (relL X.K) ow σ H Q (R.opt (lst? S[i]?) S) at q
  cases e : lst? S[i]? with
  | none =>
    rw [e] at q
    exact q.elim
  | some ds =>
    rw [e] at q
    obtain ⟨a, vs, h1, h2, h3⟩ := r.list e
    exact ⟨.ref a, h1, pst_ok r q ⟨a, vs, rfl, h2, h3⟩⟩
def sK (d : PyData) : SE := fun S => .ok d S
theorem e_con {e : Expr} {v : V} {d : PyData} (h : PE X e (tC v)) (hd : ∀ av H, RD X.K av H v d) : PE X e (xE X.K X.mg W C (sK d)) := pe_imp h fun σ H Q ⟨ow, S, r, q⟩ => pst_ok (mg := X.mg) (W := W) (d := d) (rel := relE X.K) r q (hd _ _)
theorem e_int {i j pos} : PE X (.Constant (.int i) j pos) (xE X.K X.mg W C (sK (.int i))) := e_con pe_int fun _ _ => .int i
theorem e_bl {b j pos} : PE X (.Constant (.bool b) j pos) (xE X.K X.mg W C (sK (.bool b))) := e_con pe_bl fun _ _ => .bl b
theorem e_str {x j pos} : PE X (.Constant (.str x) j pos) (xE X.K X.mg W C (sK (.str x))) := e_con pe_str fun _ _ => .str x
def asL (d : PyData) : Option (List PyData) := match d with
  | .list ds => some ds
  | _ => none
theorem asL_some {d : PyData} {ds : List PyData} (h : asL d = some ds) : d = .list ds := by
  match d, h with
  | .list _, h => cases h; rfl
def sEL (s : SE) : SN := fun S => (s S).bind fun d S' => R.opt (asL d) S'
/-- a new list -/
theorem l_of_n {e : Expr} {s : SN} (h : PE X e (xN X.K X.mg W C s)) : PE X e (xL X.K X.mg W C s) := pe_imp h fun σ H Q ⟨ow, S, r, q⟩ => ⟨ow, S, r, by
  show pst X.K X.mg W C (relN X.K) ow σ H Q (s S)
  change pst X.K X.mg W C (relL X.K) ow σ H Q (s S) at q
  cases e : s S with
  | ok d S' =>
    rw [e] at q
    exact fun v H' r' x ⟨a, vs, Hm, h1, h2, h3, h4, h5, h6⟩ => q v H' r' x ⟨a, vs, h1, SqL.of (by rw [h3]; exact upd_same), by rw [h3]; exact rds_same h6 (same_new h2)⟩
  | ex c S' =>
    rw [e] at q
    exact q
  | no => rw [e] at q; exact q⟩
def sNE (s : SN) : SE := fun S => (s S).bind fun ds S' => .ok (.list ds) S'
/-- a new list as a value -/
theorem e_of_n {e : Expr} {s : SN} (h : PE X e (xN X.K X.mg W C s)) : PE X e (xE X.K X.mg W C (sNE s)) := pe_imp h fun σ H Q ⟨ow, S, r, q⟩ =>
  seq early_E r q fun S' d v H' r' _ ⟨a, vs, Hm, h1, h2, h3, h4, h5, h6⟩ k => by
    subst h1
    subst h3
    exact pst_ok r' k (rd_newL h5.tracked h6 h2)
def OpD (K : PySem.W.Frag) (r : R2) (g : PyData → PyData → Option PyData) : Prop :=
  ∀ (av : Av) (H : Hp) (x y : V) (d e z : PyData) (Q : VK), (∀ a, av a → ∃ o, H a = some o) → RD K av H x d → RD K av H y e → g d e = some z → (∀ v H', Same H H' → RD K av H' v z → Q v H') → r x y H Q
def sBin (g : PyData → PyData → Option PyData) (sa sb : SE) : SE := fun S => (sa S).bind fun d S1 => (sb S1).bind fun e S2 => R.opt (g d e) S2
variable {a b c : Expr} {sa sb sc : SE} {pos : Pos} {r : R2} {g : PyData → PyData → Option PyData}
theorem fin_opt {σ : St} {H H' : Hp} {ow : Ow} {S : En} {o : Option PyData} {Q : VK} {P : Prop} (rl : Rl X.K C ow S σ H) (k : pst X.K X.mg W C (relE X.K) ow σ H Q (R.opt o S)) (f : ∀ z, o = some z → (∀ v H', Same H H' → RD X.K (av C ow) H' v z → Q v H') → P) : P := by
  cases e : o with
  | none => rw [e] at k; exact k.elim
  | some z =>
    rw [e] at k
    exact f z e fun v H' sm rd => pst_same rl k sm rd
theorem bin_tOp (hd : OpD X.K r g) {σ : St} {H : Hp} {Q : VK} (h : xE X.K X.mg W C (sBin g sa sb) σ H Q) : tOp r (xE X.K X.mg W C sa) (xE X.K X.mg W C sb) σ H Q := by
  obtain ⟨ow, S, rl, q⟩ := h
  refine seq early_E rl q fun S1 d x H1 r1 x1 rd k1 => ?_
  refine seq early_E r1 k1 fun S2 e y H2 r2 x2 re k2 => ?_
  refine fin_opt (H' := H2) r2 k2 fun z ez f => ?_
  exact hd (av C ow) H2 x y d e z Q r2.tracked (RD.mono x2 (Grow.refl _ _) d x rd) re ez f
theorem e_bin {op : Operator} (ho : OpR X (binaryOp op) r) (hd : OpD X.K r g) (ha : PE X a (xE X.K X.mg W C sa)) (hb : PE X b (xE X.K X.mg W C sb)) : PE X (.BinOp a op b pos) (xE X.K X.mg W C (sBin g sa sb)) :=
  pe_imp (pe_op ho ha hb) fun _ _ _ h => bin_tOp hd h
theorem e_cmp {op : CmpOp} (ho : OpR X (compareOp op) r) (hd : OpD X.K r g) (ha : PE X a (xE X.K X.mg W C sa)) (hb : PE X b (xE X.K X.mg W C sb)) (hm : behindInMarks op b = false) : PE X (.Compare a [op] [b] pos) (xE X.K X.mg W C (sBin g sa sb)) :=
  pe_imp (pe_cmpR ho ha hb hm) fun _ _ _ h => bin_tOp hd h
theorem e_ix (ho : IxR X r) (hd : OpD X.K r g) (ha : PE X a (xE X.K X.mg W C sa)) (hb : PE X b (xE X.K X.mg W C sb)) (hs : PlainIx b) : PE X (.Subscript a b pos) (xE X.K X.mg W C (sBin g sa sb)) :=
  pe_imp (pe_ix ho ha hb hs) fun _ _ _ h => bin_tOp hd h
def asB (d : PyData) : Option Bool := match d with
  | .bool b => some b
  | _ => none
theorem asB_some {d : PyData} {b : Bool} (h : asB d = some b) : d = .bool b := by
  match d, h with
  | .bool _, h => cases h; rfl
def sTst (s : SE) : STt := fun S => (s S).bind fun d S' => R.opt (asB d) S'
theorem tst_tB {t : TE} {σ : St} {H : Hp} {Q : Bool → Hp → Prop} {s : SE} (h : xB X.K X.mg W C (sTst s) σ H Q) (f : ∀ Q, xE X.K X.mg W C s σ H Q → t σ H Q) : t σ H fun x H1 => ∃ k, x = .bl k ∧ Q k H1 := by
  obtain ⟨ow, S, rl, q⟩ := h
  refine f _ (seq early_B rl q fun S1 d x H1 r1 x1 rd k1 => ?_)
  cases e : asB d with
  | none => rw [e] at k1; exact k1.elim
  | some b =>
    rw [e] at k1
    have ed := asB_some e
    subst ed
    cases rd
    exact ⟨b, rfl, pst_ok r1 k1 rfl⟩
theorem t_cmp {op : CmpOp} (ho : OpR X (compareOp op) r) (hd : OpD X.K r g) (ha : PE X a (xE X.K X.mg W C sa)) (hb : PE X b (xE X.K X.mg W C sb)) (hm : behindInMarks op b = false) : PT X (.Compare a [op] [b] pos) (xB X.K X.mg W C (sTst (sBin g sa sb))) :=
  pt_imp (pt_cmpR ho ha hb hm) fun _ _ _ h => tst_tB h fun _ q => bin_tOp hd q
theorem t_val {e : Expr} {s : SE} (h : PE X e (xE X.K X.mg W C s)) (he : ∀ whole, isTrue e X.env whole = (do let v ← whole; standAt e.pos; holding [v] (truthy v)) := by intro _; rfl) : PT X e (xB X.K X.mg W C (sTst s)) :=
  pt_imp (pt_val h he) fun _ _ _ q => tst_tB q fun _ z => z
variable {ta tb : STt} {rest : List Expr}
def sAnd (ta tb : STt) : STt := fun S => (ta S).bind fun c S1 => if c = true then tb S1 else .ok false S1
def sOr (ta tb : STt) : STt := fun S => (ta S).bind fun c S1 => if c = true then .ok true S1 else tb S1
def sNot (ta : STt) : STt := fun S => (ta S).bind fun c S1 => .ok (!c) S1
theorem pw_imp {e : Expr} {t t' : TT} (h : PW X e t) (f : ∀ σ H Q, t' σ H Q → t σ H Q) : PW X e t' := ⟨fun wh pins s σ H Q I q => h.run wh pins s σ H Q I (f σ H Q q)⟩
theorem w_and (ha : PT X a (xB X.K X.mg W C ta)) (hb : PW X (.BoolOp .And (b :: rest) pos) (xB X.K X.mg W C tb)) : PW X (.BoolOp .And (a :: b :: rest) pos) (xB X.K X.mg W C (sAnd ta tb)) :=
  pw_imp (pw_and ha hb) fun σ H Q ⟨ow, S, rl, q⟩ => seq early_B rl q fun S1 d x H1 r1 x1 rd k1 => by
    cases rd
    cases d with
    | true => exact ⟨ow, S1, r1, k1⟩
    | false => exact pst_ok r1 k1 rfl
theorem w_or (ha : PT X a (xB X.K X.mg W C ta)) (hb : PW X (.BoolOp .Or (b :: rest) pos) (xB X.K X.mg W C tb)) : PW X (.BoolOp .Or (a :: b :: rest) pos) (xB X.K X.mg W C (sOr ta tb)) :=
  pw_imp (pw_or ha hb) fun σ H Q ⟨ow, S, rl, q⟩ => seq early_B rl q fun S1 d x H1 r1 x1 rd k1 => by
    cases rd
    cases d with
    | true => exact pst_ok r1 k1 rfl
    | false => exact ⟨ow, S1, r1, k1⟩
theorem t_not (ha : PT X a (xB X.K X.mg W C ta)) : PT X (.UnaryOp .Not a pos) (xB X.K X.mg W C (sNot ta)) :=
  pt_imp (pt_not ha) fun σ H Q ⟨ow, S, rl, q⟩ => seq early_B rl q fun S1 d x H1 r1 x1 rd k1 => by
    cases rd
    exact pst_ok r1 k1 rfl
def sAndV (sa sb : SE) : SE := fun S => (sa S).bind fun d S1 => match d with
  | .bool true => sb S1
  | .bool false => .ok (.bool false) S1
  | _ => .no
def sOrV (sa sb : SE) : SE := fun S => (sa S).bind fun d S1 => match d with
  | .bool false => sb S1
  | .bool true => .ok (.bool true) S1
  | _ => .no
def sNotV (sa : SE) : SE := fun S => (sa S).bind fun d S1 => match d with
  | .bool b => .ok (.bool (!b)) S1
  | _ => .no
theorem e_and (ha : PE X a (xE X.K X.mg W C sa)) (hb : PE X (.BoolOp .And (b :: rest) pos) (xE X.K X.mg W C sb)) : PE X (.BoolOp .And (a :: b :: rest) pos) (xE X.K X.mg W C (sAndV sa sb)) :=
  pe_imp (pe_and ha hb) fun σ H Q ⟨ow, S, rl, q⟩ => seq early_E rl q fun S1 d x H1 r1 x1 rd k1 => by
    cases rd with
    | bl c =>
      refine ⟨c, rfl, ?_⟩
      cases c with
      | true => exact ⟨ow, S1, r1, k1⟩
      | false => exact pst_ok r1 k1 (.bl false)
    | _ => exact k1.elim
theorem e_not (ha : PE X a (xE X.K X.mg W C sa)) : PE X (.UnaryOp .Not a pos) (xE X.K X.mg W C (sNotV sa)) :=
  pe_imp (pe_not ha) fun σ H Q ⟨ow, S, rl, q⟩ => seq early_E rl q fun S1 d x H1 r1 x1 rd k1 => by
    cases rd with
    | bl c => exact ⟨c, rfl, pst_ok r1 k1 (.bl (!c))⟩
    | _ => exact k1.elim
def sIfE (t : STt) (sa sb : SE) : SE := fun S => (t S).bind fun c S1 => if c = true then sa S1 else sb S1
theorem e_if (ht : PT X c (xB X.K X.mg W C ta)) (ha : PE X a (xE X.K X.mg W C sa)) (hb : PE X b (xE X.K X.mg W C sb)) : PE X (.IfExp c a b pos) (xE X.K X.mg W C (sIfE ta sa sb)) :=
  pe_imp (pe_ifExp ht ha hb) fun σ H Q ⟨ow, S, rl, q⟩ => seq early_E rl q fun S1 d x H1 r1 x1 rd k1 => by
    cases rd
    cases d with
    | true => exact ⟨ow, S1, r1, k1⟩
    | false => exact ⟨ow, S1, r1, k1⟩
variable {es : List Expr} {sr : SN}
def sNil : SN := fun S => .ok [] S
def sCons (s : SE) (sr : SN) : SN := fun S => (s S).bind fun d S1 => (sr S1).bind fun ds S2 => .ok (d :: ds) S2
theorem a_nil : PA X [] (xA X.K X.mg W C sNil) := pa_imp pa_nil fun σ H Q ⟨ow, S, rl, q⟩ => pst_ok (mg := X.mg) (W := W) (rel := relA X.K) (d := []) rl q .nil
theorem a_cons (ha : PE X a (xE X.K X.mg W C sa)) (hr : PA X es (xA X.K X.mg W C sr)) (hs : starEach (a :: es) X.env = (false, eval a X.env) :: starEach es X.env := by rfl) : PA X (a :: es) (xA X.K X.mg W C (sCons sa sr)) :=
  pa_imp (pa_cons ha hr hs) fun σ H Q ⟨ow, S, rl, q⟩ => seq early_A rl q fun S1 d x H1 r1 x1 rd k1 => seq early_A r1 k1 fun S2 ds vs H2 r2 x2 rds k2 => pst_ok r2 k2 (.cons (RD.mono x2 (Grow.refl _ _) d x rd) rds)
def sTup (s : SN) : SE := fun S => (s S).bind fun ds S1 => if ds.length ≤ sizeLine then .ok (.tuple ds) S1 else .no
def tTupF (t : TA) : TE := fun σ H Q => t σ H fun xs H1 => xs.length ≤ sizeLine ∧ NT H1 xs Q
theorem pe_tupF {es : List Expr} {t : TA} {x1} (h : PA X es t) : PE X (.Tuple es x1 pos) (tTupF t) := by
  refine ⟨fun pins s σ H Q I hq => wpAny_Tuple_spliced (thn (h.run pos pins s σ H _ I hq) fun us s1 ⟨xs, H1, I1, r, z, q⟩ => ⟨by rw [← r.length]; exact z, ?_⟩)⟩
  exact q.run (tk := s1.toks) I1 r z
theorem e_tup {x1} (h : PA X es (xA X.K X.mg W C sr)) : PE X (.Tuple es x1 pos) (xE X.K X.mg W C (sTup sr)) :=
  pe_imp (pe_tupF h) fun σ H Q ⟨ow, S, rl, q⟩ => seq early_E rl q fun S1 ds vs H1 r1 x1 rds k1 => by
    by_cases z : ds.length ≤ sizeLine
    · rw [if_pos z] at k1
      exact ⟨by rw [rds.len]; exact z, fun p o np d c => pst_same r1 k1 (same_new np) (rd_newT r1.tracked rds np d c)⟩
    · rw [if_neg z] at k1
      exact k1.elim
def sLst (s : SN) : SN := fun S => (s S).bind fun ds S1 => if ds.length ≤ sizeLine then .ok ds S1 else .no
theorem n_lst (h : PA X es (xA X.K X.mg W C sr)) : PE X (.List es pos) (xN X.K X.mg W C (sLst sr)) :=
  pe_imp (pe_lst h) fun σ H Q ⟨ow, S, rl, q⟩ => seq early_N rl q fun S1 ds vs H1 r1 x1 rds k1 => by
    by_cases z : ds.length ≤ sizeLine
    · rw [if_pos z] at k1
      exact ⟨by rw [rds.len]; exact z, fun p np => pst_same r1 k1 (same_new np) ⟨p, vs, H1, rfl, np, rfl, Ext.refl _ _, r1, rds⟩⟩
    · rw [if_neg z] at k1
      exact k1.elim
/-- a built-in function, a type, by values -/
def CallD (K : PySem.W.Frag) (r : List V → Hp → VK → Prop) (g : List PyData → Option PyData) : Prop :=
  ∀ (av : Av) (H : Hp) (xs : List V) (ds : List PyData) (z : PyData) (Q : VK), (∀ a, av a → ∃ o, H a = some o) → RDs K av H xs ds → g ds = some z → (∀ v H', Same H H' → RD K av H' v z → Q v H') → r xs H Q
def sCallB (g : List PyData → Option PyData) (s : SN) : SE := fun S => (s S).bind fun ds S1 => R.opt (g ds) S1
theorem callB_tCB {rr : List V → Hp → VK → Prop} {gg : List PyData → Option PyData} (hd : CallD X.K rr gg) {σ : St} {H : Hp} {Q : VK} (h : xE X.K X.mg W C (sCallB gg sr) σ H Q) : tCB rr (xA X.K X.mg W C sr) σ H Q := by
  obtain ⟨ow, S, rl, q⟩ := h
  refine seq early_E rl q fun S1 ds vs H1 r1 x1 rds k1 => ?_
  refine fin_opt (H' := H1) r1 k1 fun z ez f => ?_
  exact hd (av C ow) H1 vs ds z Q r1.tracked rds ez f
theorem e_callB {id : String} {x : Str} {p : Pos} {rr : List V → Hp → VK → Prop} {gg : List PyData → Option PyData} (hc : CallR X (.builtin id) rr) (hd : CallD X.K rr gg) (hg : Gl X x) (hm : X.mg x = none) (hv : bootBuiltins x = some (.builtin id)) (ha : PA X (a :: es) (xA X.K X.mg W C sr)) (hn : x ≠ "__name__" := by decide) (hdb : (x == ("__debug__" : Str)) = false := by decide)
    (he : starEach (a :: es) X.env = (false, eval a X.env) :: starEach es X.env := by rfl) (hpl : (backTo pos (starEach es X.env)).any (·.1) = false := by rfl) : PE X (.Call (.Name x p) (a :: es) [] pos) (xE X.K X.mg W C (sCallB gg sr)) :=
  pe_imp (pe_callB hc hg hm hv ha hn hdb he hpl) fun _ _ _ h => callB_tCB hd h
theorem e_callTy {id : String} {x : Str} {p : Pos} {rr : List V → Hp → VK → Prop} {gg : List PyData → Option PyData} (hc : CallR X (.type id) rr) (hd : CallD X.K rr gg) (hg : Gl X x) (hm : X.mg x = none) (hv : bootBuiltins x = some (.type id)) (ha : PA X (a :: es) (xA X.K X.mg W C sr)) (hn : x ≠ "__name__" := by decide) (hdb : (x == ("__debug__" : Str)) = false := by decide)
    (he : starEach (a :: es) X.env = (false, eval a X.env) :: starEach es X.env := by rfl) (hpl : (backTo pos (starEach es X.env)).any (·.1) = false := by rfl) : PE X (.Call (.Name x p) (a :: es) [] pos) (xE X.K X.mg W C (sCallB gg sr)) :=
  pe_imp (pe_callTy hc hg hm hv ha hn hdb he hpl) fun _ _ _ h => callB_tCB hd h
end
end Ds
end
section
set_option Elab.async false
set_option linter.all false
set_option maxRecDepth 100000
set_option maxHeartbeats 4000000
namespace Ds
open PySem PySem.Spec PyProof.Rows L2
inductive RS where
  | nx (S : En)
  | rt (r : Sl) (S : En)
  | bk (S : En)
  | ct (S : En)
  | ex (c : Ec) (S : En)
  | no
abbrev SS := En → RS
/-- what a def hands back -/
def rres (K : PySem.W.Frag) (C : Cn) (ow : Ow) (σ : St) (S : En) (H : Hp) (v : V) : Sl → Prop
  | .val d => RD K (av C ow) H v d
  | .own ds => ∃ p vs Hm ow2 S2, v = .ref p ∧ C.H0 p = none ∧ ¬ C.A0 p ∧ Hm p = none ∧ H = upd Hm p (.lst vs) ∧ RDs K (av C ow2) Hm vs ds ∧ Rl K C ow2 S2 σ Hm ∧ ∀ (j : Nat) es, S[j]? = some (.io es) → S2[j]? = some (.io es)
  | .pair d ds => ∃ q p x vs o Hm ow2 S2, v = .ref q ∧ C.H0 p = none ∧ ¬ C.A0 p ∧ Hm p = none ∧ Hm q = none ∧ p ≠ q ∧ H = upd (upd Hm p (.lst vs)) q (.frz o (.tup [x, .ref p])) ∧ RD K (av C ow2) Hm x d ∧ RDs K (av C ow2) Hm vs ds ∧ Rl K C ow2 S2 σ Hm ∧ ∀ (j : Nat) es, S[j]? = some (.io es) → S2[j]? = some (.io es)
  | _ => False
def sst (K : PySem.W.Frag) (mg : Str → Option Value) (W : WX) (C : Cn) (ow : Ow) (H : Hp) (D : Ends) : RS → Prop
  | .nx S' => ∀ ow' σ' H', Rl K C ow' S' σ' H' → Ext (av C ow) H H' → Grow (av C ow) (av C ow') H → D.nx σ' H'
  | .bk S' => ∀ ow' σ' H', Rl K C ow' S' σ' H' → Ext (av C ow) H H' → Grow (av C ow) (av C ow') H → D.bk σ' H'
  | .ct S' => ∀ ow' σ' H', Rl K C ow' S' σ' H' → Ext (av C ow) H H' → Grow (av C ow) (av C ow') H → D.ct σ' H'
  | .rt r S' => ∀ ow' σ' v H', Rl K C ow' S' σ' H' → Ext (av C ow) H H' → Grow (av C ow) (av C ow') H → rres K C ow' σ' S' H' v r → D.rt v H'
  | .ex c S' => ∀ ow' σ' H', Rl K C ow' S' σ' H' → Ext (av C ow) H H' → Grow (av C ow) (av C ow') H → ∀ d, ExD C.A0 H' c d → W (clOf mg c.n) d σ' H'
  | .no => False
def xS (K : PySem.W.Frag) (mg : Str → Option Value) (W : WX) (C : Cn) (s : SS) : TS := fun D σ H => ∃ ow S, Rl K C ow S σ H ∧ sst K mg W C ow H D (s S)
section
variable {K : PySem.W.Frag} {mg : Str → Option Value} {W : WX} {C : Cn} {ow ow' : Ow} {σ σ' : St} {H H' : Hp} {D D' : Ends}
theorem sst_from {r : RS} (e : Ext (av C ow) H H') (g : Grow (av C ow) (av C ow') H) (h : sst K mg W C ow H D r) : sst K mg W C ow' H' D r := by
  cases r with
  | nx S => exact fun o2 s2 H2 q1 q2 q3 => h o2 s2 H2 q1 (e.trans g q2) (g.trans e q3)
  | bk S => exact fun o2 s2 H2 q1 q2 q3 => h o2 s2 H2 q1 (e.trans g q2) (g.trans e q3)
  | ct S => exact fun o2 s2 H2 q1 q2 q3 => h o2 s2 H2 q1 (e.trans g q2) (g.trans e q3)
  | rt r S => exact fun o2 s2 v H2 q1 q2 q3 => h o2 s2 v H2 q1 (e.trans g q2) (g.trans e q3)
  | ex c S => exact fun o2 s2 H2 q1 q2 q3 => h o2 s2 H2 q1 (e.trans g q2) (g.trans e q3)
  | no => exact h
def R.st {α : Type} (x : R α) (k : α → En → RS) : RS := match x with
  | .ok a S => k a S
  | .ex c S => .ex c S
  | .no => .no
@[simp] theorem st_ok {α : Type} (a : α) (S : En) (k : α → En → RS) : (R.ok a S).st k = k a S := rfl
@[simp] theorem st_ex {α : Type} (c : Ec) (S : En) (k : α → En → RS) : (R.ex c S : R α).st k = .ex c S := rfl
@[simp] theorem st_no {α : Type} (k : α → En → RS) : (R.no : R α).st k = .no := rfl
/-- a thing is computed, then the statement goes on -/
theorem seqS {α β : Type} {rel : Rel β α} {s : En → R α} {k : α → En → RS} {P : β → Hp → Prop} {S : En} (r : Rl K C ow S σ H)
    (h : sst K mg W C ow H D ((s S).st k)) (f : ∀ S' d v H', Rl K C ow S' σ H' → Ext (av C ow) H H' → rel C ow σ S' H H' v d → sst K mg W C ow H' D (k d S') → P v H') : xG K mg W C rel s σ H P := by
  refine ⟨ow, S, r, ?_⟩
  show pst K mg W C rel ow σ H P (s S)
  cases e : s S with
  | ok d S' =>
    rw [e] at h
    exact fun v H' r' x q => f S' d v H' r' x q (sst_from x (Grow.refl _ _) h)
  | ex c S' =>
    rw [e] at h
    exact fun H' r' x => h ow σ H' r' x (Grow.refl _ _)
  | no =>
    rw [e] at h
    exact h
end
def sSeq (s t : SS) : SS := fun S => match s S with
  | .nx S' => t S'
  | r => r
def sNx : SS := fun S => .nx S
section
variable {X : Cx} {W : WX} {C : Cn} {st : Stmt} {rest : List Stmt} {s t : SS} {pos : Pos} {e c : Expr} {se : SE} {sn : SN} {sb : STt}
theorem s_nil : PSs X [] (xS X.K X.mg W C sNx) := pss_imp pss_nil fun D σ H ⟨ow, S, r, q⟩ => q ow σ H r (Ext.refl _ _) (Grow.refl _ _)
theorem s_cons (h1 : PS X st (xS X.K X.mg W C s)) (h2 : PSs X rest (xS X.K X.mg W C t)) : PSs X (st :: rest) (xS X.K X.mg W C (sSeq s t)) :=
  pss_imp (pss_cons h1 h2) fun D σ H ⟨ow, S, r, q⟩ => ⟨ow, S, r, by
    change sst X.K X.mg W C ow H D (sSeq s t S) at q
    unfold sSeq at q
    cases e : s S with
    | nx S' =>
      rw [e] at q
      exact fun ow' σ' H' r' x g => ⟨ow', S', r', sst_from x g q⟩
    | rt v S' => rw [e] at q; exact q
    | bk S' => rw [e] at q; exact q
    | ct S' => rw [e] at q; exact q
    | ex c S' => rw [e] at q; exact q
    | no => rw [e] at q; exact q⟩
theorem s_one (h1 : PS X st (xS X.K X.mg W C s)) : PSs X [st] (xS X.K X.mg W C s) := pss_one h1
/-- a statement that is never reached -/
def sStop : SS := fun _ => .no
theorem s_never : PS X st (xS X.K X.mg W C sStop) := ps_imp ps_never fun D σ H ⟨ow, S, r, q⟩ => q
def sDrop (se : SE) : SS := fun S => (se S).st fun _ S' => .nx S'
theorem s_expr (he : PE X e (xE X.K X.mg W C se)) (hs : swapsWith e none pos.line X.env = pure false := by rfl) : PS X (.Expr e pos) (xS X.K X.mg W C (sDrop se)) :=
  ps_imp (ps_expr he hs) fun D σ H ⟨ow, S, r, q⟩ => seqS r q fun S' d v H' r' x rd k => k ow σ H' r' (Ext.refl _ _) (Grow.refl _ _)
def sRet (se : SE) : SS := fun S => (se S).st fun d S' => .rt (.val d) S'
theorem s_ret (he : PE X e (xE X.K X.mg W C se)) : PS X (.Return (some e) pos) (xS X.K X.mg W C (sRet se)) :=
  ps_imp (ps_ret he) fun D σ H ⟨ow, S, r, q⟩ => seqS r q fun S' d v H' r' x rd k => k ow σ v H' r' (Ext.refl _ _) (Grow.refl _ _) rd
def sRetN : SS := fun S => .rt (.val .none) S
section
variable {K : PySem.W.Frag} {ow : Ow} {S : En} {σ : St} {H : Hp}
theorem Rl.fresh0 (r : Rl K C ow S σ H) {p : Addr} (h : H p = none) : C.H0 p = none ∧ ¬ C.A0 p := by
  have n : ¬ C.A0 p := fun z => r.fresh h (.inl z)
  refine ⟨?_, n⟩
  cases q : C.H0 p with
  | none => rfl
  | some o =>
    rw [r.ext p o q fun i z => n (r.iok i p z).1] at h
    cases h
theorem rds_less {av av' : Av} {vs : List V} {ds : List PyData} (h : RDs K av H vs ds) (g : ∀ a, av' a → av a) (hw : av'.w = av.w := by first | rfl | assumption) : RDs K av' H vs ds := RDs.mono (Ext.refl _ _) (fun a z => .inl (g a z)) ds vs h hw
theorem rd_less {av av' : Av} {vs : V} {ds : PyData} (h : RD K av H vs ds) (g : ∀ a, av' a → av a) (hw : av'.w = av.w := by first | rfl | assumption) : RD K av' H vs ds := RD.mono (Ext.refl _ _) (fun a z => .inl (g a z)) ds vs h hw
end
/-- a new list is handed back, to be owned -/
def sRetNew (sn : SN) : SS := fun S => (sn S).st fun ds S' => .rt (.own ds) S'
theorem s_retNew (he : PE X e (xN X.K X.mg W C sn)) : PS X (.Return (some e) pos) (xS X.K X.mg W C (sRetNew sn)) :=
  ps_imp (ps_ret he) fun D σ H ⟨ow, S, r, q⟩ => seqS r q fun S' ds v H' r' x ⟨a, vs, Hm, h1, h2, h3, h4, h5, h6⟩ k =>
    k ow σ v H' r' (Ext.refl _ _) (Grow.refl _ _) ⟨a, vs, Hm, ow, S', h1, (h5.fresh0 h2).1, (h5.fresh0 h2).2, h2, h3, h6, h5, fun _ _ z => z⟩
/-- the list in slot i is handed back -/
def own1? : Option Sl → Option (List PyData)
  | some (.own ds) => some ds
  | _ => none
theorem own1?_some {o : Option Sl} {ds : List PyData} (h : own1? o = some ds) : o = some (.own ds) := by
  match o, h with
  | some (.own d), h => cases h; rfl
def del (H : Hp) (p : Addr) : Hp := fun b => if b = p then none else H b
theorem del_same {H : Hp} {p : Addr} : del H p p = none := if_pos rfl
theorem del_ne {H : Hp} {p b : Addr} (h : b ≠ p) : del H p b = H b := if_neg h
theorem upd_del {H : Hp} {p : Addr} {o : HO} (h : H p = some o) : upd (del H p) p o = H := by
  funext b
  by_cases e : b = p
  · rw [e, upd_same, h]
  · rw [upd_ne e, del_ne e]
def owSet (ow : Ow) (i : Nat) (o : Option Addr) : Ow := fun j => if j = i then o else ow j
section
variable {K : PySem.W.Frag} {ow : Ow} {S : En} {σ : St} {H : Hp}
theorem av_set {i : Nat} {o : Option Addr} {a : Addr} (h : av C (owSet ow i o) a) : av C ow a ∨ o = some a := by
  rcases h with h | ⟨j, h⟩
  · exact .inl (.inl h)
  · unfold owSet at h
    by_cases e : j = i
    · rw [if_pos e] at h; exact .inr h
    · rw [if_neg e] at h; exact .inl (.inr ⟨j, h⟩)
theorem ext_del {av : Av} {p : Addr} (h : av p) : Ext av H (del H p) := fun a o n e => by
  rw [del_ne (show a ≠ p from fun z => n (by rw [z]; exact h))]
  exact e
/-- the list of slot i is given up, and leaves the heap -/
theorem Rl.drop (r : Rl K C ow S σ H) {i : Nat} {ds : List PyData} {p : Addr} (hi : S[i]? = some (.own ds)) (hp : ow i = some p) : Rl K C (owSet ow i none) (S.set i .nil) σ (del H p) := by
  have hl : i < S.length := (List.getElem?_eq_some_iff.mp hi).1
  have gs : ∀ j, j ≠ i → (S.set i .nil)[j]? = S[j]? := fun j e => List.getElem?_set_ne (Ne.symm e)
  have gi : (S.set i .nil)[i]? = some .nil := List.getElem?_set_self hl
  have oj : ∀ j, j ≠ i → owSet ow i none j = ow j := fun j e => if_neg e
  have oi : owSet ow i none i = none := if_pos rfl
  have n := r.frs i ds p hi hp
  have ap : av C ow p := .inr ⟨i, hp⟩
  have lt : ∀ a, av C (owSet ow i none) a → av C ow a := fun a z => (av_set z).elim id fun z => by cases z
  have hn : nn S[i]? = true := by rw [hi]; rfl
  have h4 : i < 4096 := Nat.lt_of_lt_of_le hl r.ns.big
  refine ⟨by rw [List.length_set]; exact r.len, fun j d e => ?_, fun j es e => ?_, fun j a e => ?_, fun j k a e1 e2 => ?_, fun j es a e1 e2 => ?_, fun j es e => ?_, fun j a e => ?_, fun a z => ?_, fun a o z h => ?_, ?_⟩
  · by_cases hj : j = i
    · subst hj; rw [gi] at e; cases e
    · rw [gs j hj] at e
      obtain ⟨w, e1, e2⟩ := r.val j d e
      exact ⟨w, e1, RD.mono (ext_del ap) (fun a z => .inl (lt a z)) d w e2⟩
  · by_cases hj : j = i
    · subst hj; rw [gi] at e; cases e
    · rw [gs j hj] at e
      obtain ⟨a, ws, e1, e2, e3, e4⟩ := r.own j es e
      refine ⟨a, ws, by rw [oj j hj]; exact e1, e2, ?_, RDs.mono (ext_del ap) (fun a z => .inl (lt a z)) es ws e4⟩
      rw [del_ne (show a ≠ p from fun z => hj (r.inj j i a e1 (by rw [z]; exact hp)))]
      exact e3
  · by_cases hj : j = i
    · subst hj; rw [oi] at e; cases e
    · rw [oj j hj] at e
      rw [gs j hj]
      exact (r.ows j a e).imp id fun z => z.of fun _ _ q => (nst_set hn rfl).mpr q
  · by_cases hj : j = i
    · subst hj; rw [oi] at e1; cases e1
    · by_cases hk : k = i
      · subst hk; rw [oi] at e2; cases e2
      · rw [oj j hj] at e1
        rw [oj k hk] at e2
        exact r.inj j k a e1 e2
  · by_cases hj : j = i
    · subst hj; rw [gi] at e1; cases e1
    · rw [gs j hj] at e1
      rw [oj j hj] at e2
      exact r.frs j es a e1 e2
  · by_cases hj : j = i
    · subst hj; rw [gi] at e; cases e
    · rw [gs j hj] at e
      rw [oj j hj]
      exact r.ios j es e
  · obtain ⟨h1, es, h2⟩ := r.iok j a e
    refine ⟨h1, es, ?_⟩
    rw [gs j fun z => ?_]
    · exact h2
    · rw [z, hi] at h2; cases h2
  · rw [del_ne (show a ≠ p from fun q => n.2 (by rw [← q]; exact z))]
    exact r.trk a z
  · rw [del_ne (show a ≠ p from fun q => by rw [q, n.1] at z; cases z)]
    exact r.ext a o z h
  · refine r.ns.move (by rw [List.length_set]; exact r.ns.big) (fun _ _ q => (nst_set hn rfl).mp q) (fun j q => oj j (q.ne hn h4)) (fun _ _ _ _ => rfl) (fun j a o q e1 e2 => ?_) (fun ws ds q => RDs.mono (ext_del ap) (fun a z => .inl (lt a z)) ds ws q) (fun _ _ _ _ z => z)
    rw [del_ne (show a ≠ p from fun z => q.ne hn h4 (r.inj j i a e1 (by rw [z]; exact hp)))]
    exact e2
end
def sRetOwn (i : Nat) : SS := fun S => match own1? S[i]? with
  | some ds => .rt (.own ds) S
  | none => .no
theorem s_retOwn {i : Nat} (he : PE X e (tVar i)) : PS X (.Return (some e) pos) (xS X.K X.mg W C (sRetOwn i)) :=
  ps_imp (ps_ret he) fun D σ H ⟨ow, S, r, q⟩ => by
    change sst X.K X.mg W C ow H D (sRetOwn i S) at q
    unfold sRetOwn at q
    cases e : own1? S[i]? with
    | none => rw [e] at q; exact q.elim
    | some ds =>
      rw [e] at q
      have e' := own1?_some e
      obtain ⟨a, vs, h0, h1, h2, h3⟩ := r.own i ds (by rw [e']; rfl)
      obtain ⟨f1, f2⟩ := r.frs i ds a e' h0
      refine ⟨.ref a, h1, q ow σ _ H r (Ext.refl _ _) (Grow.refl _ _) ⟨a, vs, del H a, owSet ow i none, S.set i .nil, rfl, f1, f2, del_same, (upd_del h2).symm, ?_, r.drop e' h0, fun j es z => ?_⟩⟩
      · exact RDs.mono (ext_del (av := av C ow) (Or.inr ⟨i, h0⟩)) (fun b z => .inl ((av_set z).elim id fun z => by cases z)) ds vs h3
      · rw [List.getElem?_set_ne fun w => by rw [← w, e'] at z; cases z]
        exact z
def sIf (sb : STt) (s t : SS) : SS := fun S => (sb S).st fun b S' => if b = true then s S' else t S'
theorem s_if {a b : List Stmt} (hc : PT X c (xB X.K X.mg W C sb)) (ha : PSs X a (xS X.K X.mg W C s)) (hb : PSs X b (xS X.K X.mg W C t)) : PS X (.If c a b pos) (xS X.K X.mg W C (sIf sb s t)) :=
  ps_imp (ps_if hc ha hb) fun D σ H ⟨ow, S, r, q⟩ => seqS r q fun S' d v H' r' x rd k => by
    cases rd
    cases d with
    | true => exact ⟨ow, S', r', k⟩
    | false => exact ⟨ow, S', r', k⟩
def noio : Option Sl → Bool
  | some (.io _) => false
  | some (.nst _) => false
  | none => false
  | _ => true
def put (i : Nat) (x : Sl) (S : En) : RS := if noio S[i]? = true then .nx (S.set i x) else .no
section
variable {K : PySem.W.Frag} {mg : Str → Option Value} {ow : Ow} {S : En} {σ : St} {H H' : Hp}
theorem noio_lt {i : Nat} (h : noio S[i]? = true) : i < S.length := by
  cases e : S[i]? with
  | none => rw [e] at h; cases h
  | some x => exact (List.getElem?_eq_some_iff.mp e).1
theorem noio_nn {o : Option Sl} (h : noio o = true) : nn o = true := by
  match o, h with
  | some .nil, _ => rfl
  | some (.val _), _ => rfl
  | some (.own _), _ => rfl
  | some (.pair _ _), _ => rfl
theorem noio_io {i : Nat} (h : noio S[i]? = true) (ds : List PyData) : S[i]? ≠ some (.io ds) := fun z => by rw [z] at h; cases h
/-- a value is stored in slot i -/
theorem Rl.putV (r : Rl K C ow S σ H) {i : Nat} (hi : noio S[i]? = true) {d : PyData} {v : V} (q : RD K (av C ow) H v d) : Rl K C (owSet ow i none) (S.set i (.val d)) (σ.set i (some v)) H := by
  have hl := noio_lt hi
  have hlσ : i < σ.length := by rw [← r.len]; exact hl
  have gs : ∀ j, j ≠ i → (S.set i (.val d))[j]? = S[j]? := fun j e => List.getElem?_set_ne (Ne.symm e)
  have gσ : ∀ j, j ≠ i → (σ.set i (some v))[j]? = σ[j]? := fun j e => List.getElem?_set_ne (Ne.symm e)
  have gi : (S.set i (.val d))[i]? = some (.val d) := List.getElem?_set_self hl
  have gσi : (σ.set i (some v))[i]? = some (some v) := List.getElem?_set_self hlσ
  have oj : ∀ j, j ≠ i → owSet ow i none j = ow j := fun j e => if_neg e
  have oi : owSet ow i none i = none := if_pos rfl
  have lt : ∀ a, av C (owSet ow i none) a → av C ow a := fun a z => (av_set z).elim id fun z => by cases z
  have hn := noio_nn hi
  have h4 : i < 4096 := Nat.lt_of_lt_of_le hl r.ns.big
  refine ⟨by rw [List.length_set, List.length_set]; exact r.len, fun j d e => ?_, fun j ds e => ?_, fun j a e => ?_, fun j k a e1 e2 => ?_, fun j ds a e1 e2 => ?_, fun j ds e => ?_, fun j a e => ?_, r.trk, r.ext, r.ns.move (by rw [List.length_set]; exact r.ns.big) (fun _ _ q => (nst_set hn rfl).mp q) (fun j q => oj j (q.ne hn h4)) (fun j _ q _ => gσ j (NstAt.ne (.inl ⟨_, q⟩) hn h4)) (fun _ _ _ _ _ q => q) (fun _ _ q => rds_less q lt) (fun _ _ _ _ z => z)⟩
  · by_cases hj : j = i
    · subst hj
      rw [gi] at e
      cases e
      exact ⟨v, gσi, rd_less q lt⟩
    · rw [gs j hj] at e
      obtain ⟨w, e1, e2⟩ := r.val j d e
      exact ⟨w, by rw [gσ j hj]; exact e1, rd_less e2 lt⟩
  · by_cases hj : j = i
    · subst hj; rw [gi] at e; cases e
    · rw [gs j hj] at e
      obtain ⟨a, ws, e1, e2, e3, e4⟩ := r.own j ds e
      exact ⟨a, ws, by rw [oj j hj]; exact e1, by rw [gσ j hj]; exact e2, e3, rds_less e4 lt⟩
  · by_cases hj : j = i
    · subst hj; rw [oi] at e; cases e
    · rw [oj j hj] at e
      rw [gs j hj]
      exact (r.ows j a e).imp id fun z => z.of fun _ _ q => (nst_set hn rfl).mpr q
  · by_cases hj : j = i
    · subst hj; rw [oi] at e1; cases e1
    · by_cases hk : k = i
      · subst hk; rw [oi] at e2; cases e2
      · rw [oj j hj] at e1
        rw [oj k hk] at e2
        exact r.inj j k a e1 e2
  · by_cases hj : j = i
    · subst hj; rw [gi] at e1; cases e1
    · rw [gs j hj] at e1
      rw [oj j hj] at e2
      exact r.frs j ds a e1 e2
  · by_cases hj : j = i
    · subst hj; rw [gi] at e; cases e
    · rw [gs j hj] at e
      rw [oj j hj]
      exact r.ios j ds e
  · obtain ⟨h1, ds, h2⟩ := r.iok j a e
    refine ⟨h1, ds, ?_⟩
    rw [gs j fun z => ?_]
    · exact h2
    · rw [z] at h2
      exact absurd h2 (noio_io hi ds)
/-- a new list is stored in slot i: H is the heap without it -/
theorem Rl.putN (r : Rl K C ow S σ H) {i : Nat} (hi : noio S[i]? = true) {ds : List PyData} {p : Addr} {vs : List V} (np : H p = none) (q : RDs K (av C ow) H vs ds) :
    Rl K C (owSet ow i (some p)) (S.set i (.own ds)) (σ.set i (some (.ref p))) (upd H p (.lst vs)) := by
  have hl := noio_lt hi
  have hlσ : i < σ.length := by rw [← r.len]; exact hl
  have gs : ∀ j, j ≠ i → (S.set i (.own ds))[j]? = S[j]? := fun j e => List.getElem?_set_ne (Ne.symm e)
  have gσ : ∀ j, j ≠ i → (σ.set i (some (.ref p)))[j]? = σ[j]? := fun j e => List.getElem?_set_ne (Ne.symm e)
  have gi : (S.set i (.own ds))[i]? = some (.own ds) := List.getElem?_set_self hl
  have gσi : (σ.set i (some (.ref p)))[i]? = some (some (.ref p)) := List.getElem?_set_self hlσ
  have oj : ∀ j, j ≠ i → owSet ow i (some p) j = ow j := fun j e => if_neg e
  have oi : owSet ow i (some p) i = some p := if_pos rfl
  have n := r.fresh np
  have f0 := r.fresh0 np
  have sm : Same H (upd H p (.lst vs)) := same_new np
  have gr : Grow (av C ow) (av C (owSet ow i (some p))) H := fun a z => (av_set z).imp id fun z => by cases z; exact np
  have nj : ∀ j, ow j ≠ some p := fun j z => n (.inr ⟨j, z⟩)
  have hn := noio_nn hi
  have h4 : i < 4096 := Nat.lt_of_lt_of_le hl r.ns.big
  refine ⟨by rw [List.length_set, List.length_set]; exact r.len, fun j d e => ?_, fun j es e => ?_, fun j a e => ?_, fun j k a e1 e2 => ?_, fun j es a e1 e2 => ?_, fun j es e => ?_, fun j a e => ?_, fun a z => ?_, fun a o z h => sm a o (r.ext a o z h), r.ns.move (by rw [List.length_set]; exact r.ns.big) (fun _ _ q => (nst_set hn rfl).mp q) (fun j q => oj j (q.ne hn h4)) (fun j _ q _ => gσ j (NstAt.ne (.inl ⟨_, q⟩) hn h4)) (fun _ a o _ _ q => sm a o q) (fun ws ds q => RDs.mono (Ext.same sm) gr ds ws q) (fun _ _ _ _ z => z)⟩
  · by_cases hj : j = i
    · subst hj; rw [gi] at e; cases e
    · rw [gs j hj] at e
      obtain ⟨w, e1, e2⟩ := r.val j d e
      exact ⟨w, by rw [gσ j hj]; exact e1, RD.mono (Ext.same sm) gr d w e2⟩
  · by_cases hj : j = i
    · subst hj
      rw [gi] at e
      obtain rfl : ds = es := Option.some.inj e
      exact ⟨p, vs, oi, gσi, upd_same, RDs.mono (Ext.same sm) gr ds vs q⟩
    · rw [gs j hj] at e
      obtain ⟨a, ws, e1, e2, e3, e4⟩ := r.own j es e
      exact ⟨a, ws, by rw [oj j hj]; exact e1, by rw [gσ j hj]; exact e2, sm a _ e3, RDs.mono (Ext.same sm) gr es ws e4⟩
  · by_cases hj : j = i
    · subst hj
      exact .inl ⟨ds, by rw [gi]; rfl⟩
    · rw [oj j hj] at e
      rw [gs j hj]
      exact (r.ows j a e).imp id fun z => z.of fun _ _ q => (nst_set hn rfl).mpr q
  · by_cases hj : j = i
    · subst hj
      by_cases hk : k = j
      · exact hk.symm
      · rw [oj k hk] at e2
        rw [oi] at e1; cases e1
        exact absurd e2 (nj k)
    · rw [oj j hj] at e1
      by_cases hk : k = i
      · subst hk
        rw [oi] at e2; cases e2
        exact absurd e1 (nj j)
      · rw [oj k hk] at e2
        exact r.inj j k a e1 e2
  · by_cases hj : j = i
    · subst hj
      rw [oi] at e2; cases e2
      exact f0
    · rw [gs j hj] at e1
      rw [oj j hj] at e2
      exact r.frs j es a e1 e2
  · by_cases hj : j = i
    · subst hj; rw [gi] at e; cases e
    · rw [gs j hj] at e
      rw [oj j hj]
      exact r.ios j es e
  · obtain ⟨h1, es, h2⟩ := r.iok j a e
    refine ⟨h1, es, ?_⟩
    rw [gs j fun z => ?_]
    · exact h2
    · rw [z] at h2
      exact absurd h2 (noio_io hi es)
  · obtain ⟨o, e⟩ := r.trk a z
    exact ⟨o, sm a o e⟩
theorem grow_set {i : Nat} {o : Option Addr} {H0 : Hp} (h : ∀ a, o = some a → H0 a = none) : Grow (av C ow) (av C (owSet ow i o)) H0 := fun a z => (av_set z).imp id (h a)
end
variable {i : Nat} {x : Str}
def sSet (i : Nat) (se : SE) : SS := fun S => (se S).st fun d S' => put i (.val d) S'
/-- what follows a store of a value -/
theorem put_val {ow : Ow} {S : En} {σ : St} {H : Hp} {D : Ends} {d : PyData} {v : V} (r : Rl X.K C ow S σ H) (rd : RD X.K (av C ow) H v d) (k : sst X.K X.mg W C ow H D (put i (.val d) S)) : D.nx (σ.set i (some v)) H := by
  unfold put at k
  by_cases hi : noio S[i]? = true
  · rw [if_pos hi] at k
    exact k _ _ H (r.putV hi rd) (Ext.refl _ _) (grow_set fun a z => by cases z)
  · rw [if_neg hi] at k
    exact k.elim
theorem s_set {tg : Expr} (he : PE X e (xE X.K X.mg W C se)) (hp : ∀ {t : TE}, PE X e t → PS X (.Assign [tg] e pos) (tAsg t (gName i))) : PS X (.Assign [tg] e pos) (xS X.K X.mg W C (sSet i se)) :=
  ps_imp (hp he) fun D σ H ⟨ow, S, r, q⟩ => seqS r q fun S' d v H' r' x rd k => put_val r' rd k
def sSetNew (i : Nat) (sn : SN) : SS := fun S => (sn S).st fun ds S' => put i (.own ds) S'
theorem put_new {ow : Ow} {S : En} {σ : St} {H H' : Hp} {D : Ends} {ds : List PyData} {v : V} (rd : relN X.K C ow σ S H H' v ds) (k : sst X.K X.mg W C ow H D (put i (.own ds) S)) : D.nx (σ.set i (some v)) H' := by
  obtain ⟨p, vs, Hm, h1, h2, h3, h4, h5, h6⟩ := rd
  unfold put at k
  by_cases hi : noio S[i]? = true
  · rw [if_pos hi] at k
    subst h1
    subst h3
    exact k _ _ _ (h5.putN hi h2 h6) (h4.trans (Grow.refl _ _) (Ext.same (same_new h2))) (Grow.trans (Grow.refl _ _) h4 (grow_set fun a z => by cases z; exact h2))
  · rw [if_neg hi] at k
    exact k.elim
theorem s_setNew {tg : Expr} (he : PE X e (xN X.K X.mg W C sn)) (hp : ∀ {t : TE}, PE X e t → PS X (.Assign [tg] e pos) (tAsg t (gName i))) : PS X (.Assign [tg] e pos) (xS X.K X.mg W C (sSetNew i sn)) :=
  ps_imp (hp he) fun D σ H ⟨ow, S, r, q⟩ => by
    change sst X.K X.mg W C ow H D ((sn S).st fun ds S' => put i (.own ds) S') at q
    refine ⟨ow, S, r, ?_⟩
    show pst X.K X.mg W C (relN X.K) ow σ H _ (sn S)
    cases e : sn S with
    | no => rw [e] at q; exact q
    | ex c S' => rw [e] at q; exact fun H' r' x => q ow σ H' r' x (Grow.refl _ _)
    | ok ds S' =>
      rw [e] at q
      exact fun v H' r' x rd => put_new rd q
end
end Ds
end
section
set_option Elab.async false
set_option linter.all false
set_option maxRecDepth 100000
set_option maxHeartbeats 4000000
namespace Ds
open PySem PySem.Spec PyProof.Rows L2
section
variable {K : PySem.W.Frag} {mg : Str → Option Value} {C : Cn} {ow : Ow} {S S' : En} {σ : St} {H H' : Hp}
/-- behind a change of the lists that the slots in P own -/
theorem Rl.after (P : Nat → Prop) (r : Rl K C ow S σ H) (hlen : S'.length = S.length) (sh : ∀ i, ¬ P i → S'[i]? = S[i]?)
    (shP : ∀ i, P i → (∃ ds es, S[i]? = some (.own ds) ∧ S'[i]? = some (.own es)) ∨ (∃ ds es, S[i]? = some (.io ds) ∧ S'[i]? = some (.io es)))
    (e : ∀ a o, H a = some o → (∀ i, P i → ow i ≠ some a) → H' a = some o)
    (nw : ∀ i es a, P i → own? S'[i]? = some es → ow i = some a → ∃ vs, H' a = some (.lst vs) ∧ RDs K (av C ow) H' vs es) : Rl K C ow S' σ H' ∧ Ext (av C ow) H H' := by
  have x : Ext (av C ow) H H' := fun a o n h => e a o h fun i _ z => n (.inr ⟨i, z⟩)
  have tr : ∀ i, P i → ∀ a, ow i = some a → ∃ o, H' a = some o := fun i hi a h => by
    rcases shP i hi with ⟨ds, es, _, h2⟩ | ⟨ds, es, _, h2⟩
    · obtain ⟨vs, h3, _⟩ := nw i es a hi (by rw [h2]; rfl) h
      exact ⟨_, h3⟩
    · obtain ⟨vs, h3, _⟩ := nw i es a hi (by rw [h2]; rfl) h
      exact ⟨_, h3⟩
  have nP : ∀ i, P i → nn S[i]? = true ∧ nn S'[i]? = true := fun i hi => by
    rcases shP i hi with ⟨ds, es, h1, h2⟩ | ⟨ds, es, h1, h2⟩ <;> rw [h1, h2] <;> exact ⟨rfl, rfl⟩
  have nE : ∀ (i : Nat) dss, S'[i]? = some (.nst dss) ↔ S[i]? = some (.nst dss) := fun i dss => by
    by_cases hi : P i
    · obtain ⟨h1, h2⟩ := nP i hi
      constructor
      · intro z; rw [z] at h2; cases h2
      · intro z; rw [z] at h1; cases h1
    · rw [sh i hi]
  have nA : ∀ i j, P i → NstAt S j → j ≠ i := fun i j hi q => q.ne (nP i hi).1 (by
    have : i < S.length := by
      rcases shP i hi with ⟨ds, es, h1, h2⟩ | ⟨ds, es, h1, h2⟩ <;> exact (List.getElem?_eq_some_iff.mp h1).1
    have := r.ns.big
    omega)
  refine ⟨⟨hlen.trans r.len, fun i d h => ?_, fun i ds h => ?_, fun i a h => ?_, r.inj, fun i ds a h1 h2 => ?_, fun i ds h => ?_, fun i a h => ?_, fun a h => ?_, fun a o h1 h2 => ?_, r.ns.move (by rw [hlen]; exact r.ns.big) (fun j d q => (nE j d).mp q) (fun _ _ => rfl) (fun _ _ _ _ => rfl) (fun j a o q e1 e2 => e a o e2 fun i hi z => nA i j hi q (r.inj j i a e1 z)) (fun ws ds q => RDs.mono x (Grow.refl _ _) ds ws q) (fun _ _ _ _ z => z)⟩, x⟩
  · by_cases hi : P i
    · rcases shP i hi with ⟨ds, es, _, h2⟩ | ⟨ds, es, _, h2⟩ <;> rw [h2] at h <;> cases h
    · rw [sh i hi] at h
      obtain ⟨v, h1, h2⟩ := r.val i d h
      exact ⟨v, h1, RD.mono x (Grow.refl _ _) d v h2⟩
  · by_cases hi : P i
    · have : ∃ es, own? S[i]? = some es := by
        rcases shP i hi with ⟨ds, es, h1, _⟩ | ⟨ds, es, h1, _⟩ <;> exact ⟨ds, by rw [h1]; rfl⟩
      obtain ⟨es, h1⟩ := this
      obtain ⟨a, vs, h2, h3, h4, h5⟩ := r.own i es h1
      obtain ⟨ws, h6, h7⟩ := nw i ds a hi h h2
      exact ⟨a, ws, h2, h3, h6, h7⟩
    · rw [sh i hi] at h
      obtain ⟨a, vs, h2, h3, h4, h5⟩ := r.own i ds h
      refine ⟨a, vs, h2, h3, e a _ h4 fun j hj z => hi ?_, RDs.mono x (Grow.refl _ _) ds vs h5⟩
      rw [r.inj i j a h2 z]
      exact hj
  · by_cases hi : P i
    · rcases shP i hi with ⟨ds, es, _, h2⟩ | ⟨ds, es, _, h2⟩ <;> exact .inl ⟨es, by rw [h2]; rfl⟩
    · rw [sh i hi]
      exact (r.ows i a h).imp id fun z => z.of fun j d q => (nE j d).mpr q
  · by_cases hi : P i
    · rcases shP i hi with ⟨es, fs, h3, h4⟩ | ⟨es, fs, h3, h4⟩
      · exact r.frs i es a h3 h2
      · rw [h4] at h1; cases h1
    · rw [sh i hi] at h1
      exact r.frs i ds a h1 h2
  · by_cases hi : P i
    · rcases shP i hi with ⟨es, fs, h3, h4⟩ | ⟨es, fs, h3, h4⟩
      · rw [h4] at h; cases h
      · exact r.ios i es h3
    · rw [sh i hi] at h
      exact r.ios i ds h
  · obtain ⟨h1, ds, h2⟩ := r.iok i a h
    refine ⟨h1, ?_⟩
    by_cases hi : P i
    · rcases shP i hi with ⟨es, fs, h3, h4⟩ | ⟨es, fs, h3, h4⟩
      · rw [h3] at h2; cases h2
      · exact ⟨fs, h4⟩
    · exact ⟨ds, by rw [sh i hi]; exact h2⟩
  · obtain ⟨o, h1⟩ := r.trk a h
    by_cases hp : ∃ i, P i ∧ ow i = some a
    · obtain ⟨i, hi, z⟩ := hp
      exact tr i hi a z
    · exact ⟨o, e a o h1 fun i hi z => hp ⟨i, hi, z⟩⟩
  · refine e a o (r.ext a o h1 h2) fun i hi z => ?_
    rcases shP i hi with ⟨es, fs, h3, h4⟩ | ⟨es, fs, h3, h4⟩
    · rw [(r.frs i es a h3 z).1] at h1; cases h1
    · exact h2 i ((r.ios i es h3).trans z)
end
def upL (i : Nat) (es : List PyData) (S : En) : En := match S[i]? with
  | some (.own _) => S.set i (.own es)
  | some (.io _) => S.set i (.io es)
  | _ => S
section
variable {K : PySem.W.Frag} {C : Cn} {ow : Ow} {S S' : En} {σ : St} {H H' : Hp}
theorem upL_len {i : Nat} {es : List PyData} : (upL i es S).length = S.length := by
  unfold upL
  split
  · exact List.length_set
  · exact List.length_set
  · rfl
theorem upL_ne {i j : Nat} {es : List PyData} (h : j ≠ i) : (upL i es S)[j]? = S[j]? := by
  unfold upL
  split
  · exact List.getElem?_set_ne (Ne.symm h)
  · exact List.getElem?_set_ne (Ne.symm h)
  · rfl
theorem upL_at {i : Nat} {ds es : List PyData} (h : own? S[i]? = some ds) : (∃ ds es', S[i]? = some (.own ds) ∧ (upL i es S)[i]? = some (.own es') ∧ es' = es) ∨ (∃ ds es', S[i]? = some (.io ds) ∧ (upL i es S)[i]? = some (.io es') ∧ es' = es) := by
  unfold upL
  cases e : S[i]? with
  | none => rw [e] at h; cases h
  | some x =>
    have hl : i < S.length := (List.getElem?_eq_some_iff.mp e).1
    cases x with
    | nil => rw [e] at h; cases h
    | val d => rw [e] at h; cases h
    | own d => exact .inl ⟨d, es, rfl, List.getElem?_set_self hl, rfl⟩
    | io d => exact .inr ⟨d, es, rfl, List.getElem?_set_self hl, rfl⟩
    | nst d => rw [e] at h; cases h
    | pair d ds => rw [e] at h; cases h
/-- the list of slot i becomes another -/
theorem Rl.up (r : Rl K C ow S σ H) {i : Nat} {ds es : List PyData} {a : Addr} {vs : List V} (h : own? S[i]? = some ds) (ha : ow i = some a) (rd : RDs K (av C ow) H vs es) :
    Rl K C ow (upL i es S) σ (upd H a (.lst vs)) ∧ Ext (av C ow) H (upd H a (.lst vs)) := by
  have x : Ext (av C ow) H (upd H a (.lst vs)) := fun b o n e => by
    rw [upd_ne (show b ≠ a from fun z => n (by rw [z]; exact .inr ⟨i, ha⟩))]
    exact e
  refine r.after (fun j => j = i) upL_len (fun j hj => upL_ne hj) (fun j hj => ?_) (fun b o e n => ?_) fun j fs b hj e1 e2 => ?_
  · subst hj
    rcases upL_at (es := es) h with ⟨d, e', h1, h2, _⟩ | ⟨d, e', h1, h2, _⟩
    · exact .inl ⟨d, e', h1, h2⟩
    · exact .inr ⟨d, e', h1, h2⟩
  · rw [upd_ne (show b ≠ a from fun z => n i rfl (by rw [z]; exact ha))]
    exact e
  · subst hj
    rw [ha] at e2; cases e2
    refine ⟨vs, upd_same, ?_⟩
    have : fs = es := by
      rcases upL_at (es := es) h with ⟨d, e', h1, h2, h3⟩ | ⟨d, e', h1, h2, h3⟩ <;> rw [h2] at e1 <;> cases e1 <;> exact h3
    rw [this]
    exact RDs.mono x (Grow.refl _ _) es vs rd
end
section
variable {X : Cx} {W : WX} {C : Cn} {pos : Pos} {e c : Expr} {se : SE} {i : Nat}
/-- l.append(e) -/
def sApp (i : Nat) (se : SE) : SE := fun S => (se S).bind fun d S1 => match own? S1[i]? with
  | some ds => if ds.length < sizeLine then .ok .none (upL i (ds ++ [d]) S1) else .no
  | none => .no
theorem t_app {σ : St} {H : Hp} {Q : VK} (h : xE X.K X.mg W C (fun S => if (own? S[i]?).isSome = true then sApp i se S else .no) σ H Q) : tBM X.K "list" rAppend (tVar i) (tCons (xE X.K X.mg W C se) tNil) σ H Q := by
  obtain ⟨ow, S, r, q⟩ := h
  change pst X.K X.mg W C (relE X.K) ow σ H Q (if (own? S[i]?).isSome = true then sApp i se S else .no) at q
  cases e : own? S[i]? with
  | none => rw [e] at q; exact q.elim
  | some ds =>
    rw [e] at q
    obtain ⟨a, vs, h0, h1, h2, h3⟩ := r.own i ds e
    refine ⟨.ref a, h1, .inl ⟨rfl, vs, SqL.of h2⟩, seq early_E r q fun S1 d x H1 r1 x1 rd k1 => ?_⟩
    cases e1 : own? S1[i]? with
    | none => rw [e1] at k1; exact k1.elim
    | some es =>
      rw [e1] at k1
      obtain ⟨b, ws, g0, g1, g2, g3⟩ := r1.own i es e1
      rw [h0] at g0; cases g0
      by_cases z : es.length < sizeLine
      · simp only [if_pos z] at k1
        obtain ⟨r2, x2⟩ := r1.up (es := es ++ [d]) (vs := ws ++ [x]) e1 h0 (g3.append (.cons rd .nil))
        exact ⟨a, ws, x, rfl, rfl, g2, by rw [g3.len]; exact z, k1 _ _ r2 x2 .non⟩
      · simp only [if_neg z] at k1
        exact k1.elim
def sAppend (i : Nat) (se : SE) : SE := fun S => if (own? S[i]?).isSome = true then sApp i se S else .no
theorem e_app (hp : ∀ {t : TE}, PE X e t → PE X c (tBM X.K "list" rAppend (tVar i) (tCons t tNil))) (he : PE X e (xE X.K X.mg W C se)) : PE X c (xE X.K X.mg W C (sAppend i se)) :=
  pe_imp (hp he) fun _ _ _ h => t_app h
/-- l.clear() -/
def sClear (i : Nat) : SE := fun S => match own? S[i]? with
  | some _ => .ok .none (upL i [] S)
  | none => .no
/-- l.pop(e) -/
def popI (ds : List PyData) (d : PyData) : Option (PyData × List PyData) := match d with
  | .int k => if 0 ≤ k ∧ k < ds.length ∧ k < 2 ^ 63 then (ds[k.toNat]?).map fun x => (x, ds.eraseIdx k.toNat) else none
  | _ => none
def sPop (i : Nat) (se : SE) : SE := fun S => if (own? S[i]?).isSome = true then (se S).bind fun d S1 => match own? S1[i]? with
  | some ds => match popI ds d with
    | some (x, es) => .ok x (upL i es S1)
    | none => .no
  | none => .no
  else .no
theorem e_pop (hp : ∀ {t : TE}, PE X e t → PE X c (tBM X.K "list" rPopAt (tVar i) (tCons t tNil))) (he : PE X e (xE X.K X.mg W C se)) : PE X c (xE X.K X.mg W C (sPop i se)) :=
  pe_imp (hp he) fun σ H Q ⟨ow, S, r, q⟩ => by
    change pst X.K X.mg W C (relE X.K) ow σ H Q (sPop i se S) at q
    unfold sPop at q
    cases e : own? S[i]? with
    | none => rw [e] at q; exact q.elim
    | some ds =>
      rw [e] at q
      obtain ⟨a, vs, h0, h1, h2, h3⟩ := r.own i ds e
      refine ⟨.ref a, h1, .inl ⟨rfl, vs, SqL.of h2⟩, seq early_E r q fun S1 d x H1 r1 x1 rd k1 => ?_⟩
      cases e1 : own? S1[i]? with
      | none => rw [e1] at k1; exact k1.elim
      | some es =>
        rw [e1] at k1
        obtain ⟨b, ws, g0, g1, g2, g3⟩ := r1.own i es e1
        rw [h0] at g0; cases g0
        cases rd with
        | int j =>
          change pst X.K X.mg W C (relE X.K) ow σ H1 Q (match popI es (.int j) with | some (x, es) => .ok x (upL i es S1) | none => .no) at k1
          unfold popI at k1
          by_cases z : 0 ≤ j ∧ j < es.length ∧ j < 2 ^ 63
          · simp only [if_pos z] at k1
            have lt : j.toNat < es.length := by omega
            rw [List.getElem?_eq_getElem lt] at k1
            obtain ⟨y, hy, ry⟩ := g3.get (List.getElem?_eq_getElem lt)
            obtain ⟨r2, x2⟩ := r1.up (es := es.eraseIdx j.toNat) (vs := ws.eraseIdx j.toNat) e1 h0 (g3.erase _)
            have hw : ws.length = es.length := g3.len
            exact ⟨a, ws, j, j.toNat, y, rfl, rfl, g2, by omega, z.2.2, (ixN_seq (show ixN ws.length j = some j.toNat by unfold ixN; rw [if_pos z.1, if_pos (by omega)])).1, hy, k1 _ _ r2 x2 (RD.mono x2 (Grow.refl _ _) _ _ ry)⟩
          · simp only [if_neg z] at k1
            exact k1.elim
        | _ => exact k1.elim
end
end Ds
end
section
set_option Elab.async false
set_option linter.all false
set_option maxRecDepth 100000
set_option maxHeartbeats 4000000
namespace Ds
open PySem PySem.Spec PyProof.Rows L2
def argOk (K : PySem.W.Frag) (av : Av) (H : Hp) (v : V) : Sl → Prop
  | .val d => RD K av H v d
  | .io ds => ∃ a vs, v = .ref a ∧ av a ∧ H a = some (.lst vs) ∧ RDs K av H vs ds
  | _ => False
structure Pre (K : PySem.W.Frag) (av : Av) (H : Hp) (vs : List V) (S0 : En) : Prop where
  len : S0.length = vs.length
  arg : ∀ (i : Nat) x, S0[i]? = some x → ∃ v, vs[i]? = some v ∧ argOk K av H v x
  dis : ∀ (i j : Nat) ds es a, S0[i]? = some (.io ds) → S0[j]? = some (.io es) → vs[i]? = some (.ref a) → vs[j]? = some (.ref a) → i = j
  trk : ∀ a, av a → ∃ o, H a = some o
structure Post (K : PySem.W.Frag) (av : Av) (H : Hp) (vs : List V) (S0 S1 : En) (H' : Hp) : Prop where
  ext : ∀ a o, H a = some o → (∀ (i : Nat) ds, S0[i]? = some (.io ds) → vs[i]? ≠ some (.ref a)) → H' a = some o
  io : ∀ (i : Nat) ds, S0[i]? = some (.io ds) → ∃ es, S1[i]? = some (.io es) ∧ ∀ a, vs[i]? = some (.ref a) → ∃ ws, H' a = some (.lst ws) ∧ RDs K av H' ws es
abbrev Mf := En → R Sl
def spG (g : World → Prop) (K : PySem.W.Frag) (mg : Str → Option Value) (m : Mf) (n : Nat) : Sp := fun vs H Q E => vs.length = n ∧ ∃ (av : Av) (S0 : En), g av.w ∧ Pre K av H vs S0 ∧ match m S0 with
  | .ok (.val d) S1 => ∀ v H', Post K av H vs S0 S1 H' → RD K av H' v d → Q v H'
  | .ok (.own ds) S1 => ∀ p ws Hm, Post K av H vs S0 S1 Hm → Hm p = none → RDs K av Hm ws ds → Q (.ref p) (upd Hm p (.lst ws))
  | .ok (.pair d ds) S1 => ∀ q p x ws o Hm, Post K av H vs S0 S1 Hm → Hm p = none → Hm q = none → p ≠ q → RD K av Hm x d → RDs K av Hm ws ds → Q (.ref q) (upd (upd Hm p (.lst ws)) q (.frz o (.tup [x, .ref p])))
  | .ex c S1 => ∀ H', Post K av H vs S0 S1 H' → ∀ d, ExD av.p H' c d → E (clOf mg c.n) d H'
  | _ => False
/-- it does so in every world -/
abbrev spM (K : PySem.W.Frag) (mg : Str → Option Value) (m : Mf) (n : Nat) : Sp := spG (fun _ => True) K mg m n
/-- it does so in the world w -/
abbrev spW (w : World) (K : PySem.W.Frag) (mg : Str → Option Value) (m : Mf) (n : Nat) : Sp := spG (fun v => v = w) K mg m n
/-- a body's def -/
def mB (N : Nat) (s : SS) : Mf := fun S0 => match s (S0 ++ List.replicate (N - S0.length) .nil) with
  | .rt r S => .ok r S
  | .nx S => .ok (.val .none) S
  | .ex c S => .ex c S
  | _ => .no
section
variable {P : Program} {w : World} {K : PySem.W.Frag} {mg : Str → Option Value} {base : Heap}
def ioOf (S0 : En) (vs : List V) : Ow := fun i => match S0[i]?, vs[i]? with
  | some (.io _), some (.ref a) => some a
  | _, _ => none
theorem ioOf_some {S0 : En} {vs : List V} {i : Nat} {a : Addr} (h : ioOf S0 vs i = some a) : ∃ ds, S0[i]? = some (.io ds) ∧ vs[i]? = some (.ref a) := by
  unfold ioOf at h
  split at h
  · rename_i ds b e1 e2
    cases h
    exact ⟨ds, e1, e2⟩
  · cases h
theorem ioOf_mk {S0 : En} {vs : List V} {i : Nat} {a : Addr} {ds : List PyData} (h : S0[i]? = some (.io ds)) (h2 : vs[i]? = some (.ref a)) : ioOf S0 vs i = some a := by
  unfold ioOf
  rw [h, h2]
theorem start_get {N : List Str} {vs : List V} {i : Nat} {v : V} (h : vs[i]? = some v) : (L2.start N vs)[i]? = some (some v) := by
  have hl := (List.getElem?_eq_some_iff.mp h).1
  unfold L2.start
  rw [List.getElem?_append_left (by rw [List.length_map]; exact hl), List.getElem?_map, h]
  rfl
/-- the state at a def's entry -/
theorem Pre.start {av' : Av} {H : Hp} {vs : List V} {S0 : En} {N : List Str} (p : Pre K av' H vs S0) (hN : vs.length ≤ N.length) (hb : N.length ≤ 4096) :
    Rl K ⟨av'.p, H, ioOf S0 vs, av'.w⟩ (ioOf S0 vs) (S0 ++ List.replicate (N.length - S0.length) .nil) (L2.start N vs) H := by
  have hl := p.len
  have ga : ∀ {i : Nat} {x : Sl}, (S0 ++ List.replicate (N.length - S0.length) .nil)[i]? = some x → x = .nil ∨ S0[i]? = some x := fun {i x} h => by
    by_cases hi : i < S0.length
    · rw [List.getElem?_append_left hi] at h
      exact .inr h
    · rw [List.getElem?_append_right (Nat.le_of_not_lt hi)] at h
      exact .inl (List.eq_of_mem_replicate (List.mem_of_getElem? h))
  have gb : ∀ {i : Nat} {x : Sl}, S0[i]? = some x → (S0 ++ List.replicate (N.length - S0.length) .nil)[i]? = some x := fun {i x} h => by
    rw [List.getElem?_append_left (List.getElem?_eq_some_iff.mp h).1]
    exact h
  have lt : ∀ a, av ⟨av'.p, H, ioOf S0 vs, av'.w⟩ (ioOf S0 vs) a → av' a := fun a z => by
    rcases z with z | ⟨i, z⟩
    · exact z
    · obtain ⟨ds, h1, h2⟩ := ioOf_some z
      obtain ⟨v, h3, b, ws, h4, h5, _⟩ := p.arg i _ h1
      rw [h2] at h3; cases h3; cases h4
      exact h5
  have nn0 : ∀ (i : Nat) (dss : Nst), (S0 ++ List.replicate (N.length - S0.length) .nil)[i]? ≠ some (.nst dss) := fun i dss h => by
    rcases ga h with z | z
    · cases z
    · obtain ⟨v, _, h2⟩ := p.arg i _ z
      exact h2.elim
  refine ⟨?_, fun i d h => ?_, fun i ds h => ?_, fun i a h => ?_, fun i j a h1 h2 => ?_, fun i ds a h1 _ => ?_, fun i ds h => rfl, fun i a h => ?_, p.trk, fun a o h _ => h, ⟨by rw [List.length_append, List.length_replicate]; omega, fun i dss h => absurd h (nn0 i _), fun i kvs h => absurd h (nn0 i _), fun i kvs h => absurd h (nn0 i _), fun i a h => ?_⟩⟩
  · unfold L2.start
    rw [List.length_append, List.length_append, List.length_replicate, List.length_map, List.length_replicate]
    omega
  · rcases ga h with z | z
    · cases z
    · obtain ⟨v, h1, h2⟩ := p.arg i _ z
      exact ⟨v, start_get h1, rd_less h2 lt⟩
  · have : ∃ es, (S0 ++ List.replicate (N.length - S0.length) .nil)[i]? = some (.io es) ∧ es = ds := by
      cases e : (S0 ++ List.replicate (N.length - S0.length) .nil)[i]? with
      | none => rw [e] at h; cases h
      | some x =>
        rw [e] at h
        cases x with
        | nil => cases h
        | val d => cases h
        | own d =>
          rcases ga e with z | z
          · cases z
          · obtain ⟨v, _, h2⟩ := p.arg i _ z
            exact h2.elim
        | io d => exact ⟨d, rfl, by cases h; rfl⟩
        | nst d => cases h
        | pair d ds => cases h
    obtain ⟨es, e, z⟩ := this
    subst z
    rcases ga e with z | z
    · cases z
    · obtain ⟨v, h1, b, ws, h4, h5, h6, h7⟩ := p.arg i _ z
      subst h4
      exact ⟨b, ws, ioOf_mk z h1, start_get h1, h6, rds_less h7 lt⟩
  · obtain ⟨ds, h1, h2⟩ := ioOf_some h
    exact .inl ⟨ds, by rw [gb h1]; rfl⟩
  · obtain ⟨ds, e1, e2⟩ := ioOf_some h1
    obtain ⟨es, e3, e4⟩ := ioOf_some h2
    exact p.dis i j ds es a e1 e3 e2 e4
  · rcases ga h1 with z | z
    · cases z
    · obtain ⟨v, _, h2⟩ := p.arg i _ z
      exact h2.elim
  · obtain ⟨ds, h1, h2⟩ := ioOf_some h
    refine ⟨?_, ds, gb h1⟩
    obtain ⟨v, h3, b, ws, h4, h5, _⟩ := p.arg i _ h1
    rw [h2] at h3; cases h3; cases h4
    exact h5
  · rcases h with ⟨d, h⟩ | ⟨m, k, d, _, h, _⟩
    · exact absurd h (nn0 i d)
    · exact absurd h (nn0 m _)
/-- what is true behind the body -/
theorem Pre.post {av' : Av} {H H' : Hp} {vs : List V} {S0 S' : En} {σ' : St} {ow' : Ow} (p : Pre K av' H vs S0) (r : Rl K ⟨av'.p, H, ioOf S0 vs, av'.w⟩ ow' S' σ' H') : Post K av' H vs S0 S' H' := by
  refine ⟨fun a o h n => r.ext a o h fun i z => ?_, fun i ds h => ?_⟩
  · obtain ⟨ds, h1, h2⟩ := ioOf_some z
    exact n i ds h1 h2
  · obtain ⟨v, h3, b, ws, h4, h5, _⟩ := p.arg i _ h
    subst h4
    have hio := ioOf_mk h h3
    obtain ⟨_, es, h6⟩ := r.iok i b hio
    refine ⟨es, h6, fun a ha => ?_⟩
    rw [h3] at ha; cases ha
    obtain ⟨c, us, g1, g2, g3, g4⟩ := r.own i es (by rw [h6]; rfl)
    have e : c = b := by
      have z := r.ios i es h6
      rw [g1] at z
      exact Option.some.inj (z.symm.trans hio)
    subst e
    exact ⟨us, g3, rds_less g4 fun a z => .inl z⟩
/-- the promise of a def, where nothing is being shown around it -/
structure FnG (P : Program) (w : World) (K : PySem.W.Frag) (mg : Str → Option Value) (base : Heap) (k : Nat) (f : Addr) (fd : FuncData) (ps : List Str) (sp : Sp) : Prop where
  len : ∀ vs H Q E, sp vs H Q E → vs.length = ps.length
  run : ∀ (A : Around) (outer : List Env) (s : Shared) (H : Hp) (args : Args) (us : List Value) (vs : List V) (Q : VK) (E : XK), A.guards = some [] → Room k A → Env0 P w K mg base A outer s H → BindsTo s fd args (ps.zip us) → Vals vs us → sp vs H Q E →
    codeAny (model P w) A (.call (.ref f) args) (CR (L2N.CX P w) outer P w H s Q E) s
theorem FnG.mono {j k : Nat} {f : Addr} {fd : FuncData} {ps : List Str} {sp : Sp} (F : FnG P w K mg base j f fd ps sp) (h : j ≤ k) : FnG P w K mg base k f fd ps sp :=
  ⟨F.len, fun A outer s H args us vs Q E g r => F.run A outer s H args us vs Q E g (r.mono h)⟩
/-- by its body -/
theorem fn_byBody {x qual : Str} {st : Stmt} {f : Addr} {fd : FuncData} {N ps : List Str} {k : Nat} {sp : Sp} (F : Fun K x qual st f fd) (S : FnScope N ps (defScope st)) (len : ∀ vs H Q E, sp vs H Q E → vs.length = ps.length)
    (hbody : ∀ (cdv : Value) (A : Around) (outer : List Env) (s : Shared) (H : Hp) (vs : List V) (Q : VK) (E : XK), A.guards = some [] → Room k (A.deeper (envOfC qual (defScope st) s.heap.objs.size f cdv)) → sp vs H Q E →
      ∃ t, PSs (cxOf (L2N.CX P w) P w K mg base N qual (defScope st) f cdv A outer s H E) (defBody st) t ∧ t { nx := fun _ H' => Q .non H', rt := Q } (L2.start N vs) H) : FnG P w K mg base (k + 1) f fd ps sp := by
  obtain ⟨oc, od, kV, doc, pm, an, cdv, ct, osl, rfl, lk, hcd⟩ := F.ex
  refine ⟨len, fun A outer s H args us vs Q E gd hr e0 hbt rv hsp => ?_⟩
  have hl := len _ _ _ _ hsp
  have up : ∀ b o, base.get? b = some o → s.heap.get? b = some o := fun b o e => (e0.bs b o e).1
  have KX : K.In s.heap := e0.mod.kin.keeps up
  have lim : s.heap.NoLimit := e0.mod.nolimit.keeps up
  refine codeAny_call_function hr.depth (KX _ _ lk) rfl S.co S.gen rfl (PySem.W.codeRec_of KX hcd) (hbt _ _ _ _ ?_)
  refine wpAny_newFunctionEnv_cells S.kind (fun ⟨n, v⟩ hy => (S.par n (List.of_mem_zip hy).1).imp id fun q => ⟨q, PySem.W.cellsFrom_some _ _ _ (.inl q)⟩) fun env he s1 xs => ?_
  subst he
  refine ⟨lim.keeps xs.toInCall.keep, codeAny_func ?_⟩
  obtain ⟨t, ht, hq⟩ := hbody cdv A outer s H vs Q E gd (hr.deeper _) hsp
  have I := inv_start (CX := L2N.CX P w) (E := E) S hr.hd e0 hl rv xs
  refine wpAny_mono (ht.run [] s1 (L2.start N vs) H _ I hq) (fun fl s' hs => ?_) fun e s' hs => hs
  cases fl with
  | ret u => exact let ⟨v, σ', H', J, rr, q⟩ := hs; ⟨v, H', J.os, J.bare, J.base, J.hok, rr, q⟩
  | next => exact let ⟨σ', H', J, q⟩ := hs; ⟨V.non, H', J.os, J.bare, J.base, J.hok, rfl, q⟩
  | brk => exact let ⟨_, _, _, q⟩ := hs; q.elim
  | cont => exact let ⟨_, _, _, q⟩ := hs; q.elim
theorem fn_okG {gw : World → Prop} {x qual : Str} {st : Stmt} {f : Addr} {fd : FuncData} {N ps : List Str} {k : Nat} {s : SS} (F : Fun K x qual st f fd) (S : FnScope N ps (defScope st))
    (hb : ∀ (cdv : Value) (A : Around) (outer : List Env) (sh : Shared) (H : Hp) (E : XK) (C : Cn), gw C.w → A.guards = some [] → Room k (A.deeper (envOfC qual (defScope st) sh.heap.objs.size f cdv)) →
      PSs (cxOf (L2N.CX P w) P w K mg base N qual (defScope st) f cdv A outer sh H E) (defBody st) (xS K mg (fun cls d _ H => E cls d H) C s)) (hbig : N.length ≤ 4096 := by decide) :
    FnG P w K mg base (k + 1) f fd ps (spG gw K mg (mB N.length s) ps.length) := by
  have hN : ps.length ≤ N.length := by
    have := S.pre
    rw [← this, List.length_take]
    exact Nat.min_le_right _ _
  refine fn_byBody F S (fun vs H Q E h => h.1) fun cdv A outer sh H vs Q E gd hr h => ?_
  obtain ⟨hl, av', S0, hgw, p, h⟩ := h
  refine ⟨_, hb cdv A outer sh H E ⟨av'.p, H, ioOf S0 vs, av'.w⟩ hgw gd hr, ioOf S0 vs, _, p.start (by rw [hl]; exact hN) hbig, ?_⟩
  unfold mB at h
  cases e : s (S0 ++ List.replicate (N.length - S0.length) .nil) with
  | nx S' =>
    rw [e] at h
    exact fun ow' σ' H' r _ _ => h .non H' (p.post r) .non
  | rt d S' =>
    rw [e] at h
    cases d with
    | val d => exact fun ow' σ' v H' r _ _ rd => h v H' (p.post r) (rd_less rd fun a z => .inl z)
    | own ds =>
      intro ow' σ' v H' r _ _ rd
      obtain ⟨q, ws, Hm, ow2, S2, h1, h2, h3, h4, h5, h6, h7, h8⟩ := rd
      subst h1
      subst h5
      refine h q ws Hm ⟨(p.post h7).ext, fun i ds' hi => ?_⟩ h4 (rds_less h6 fun a z => .inl z)
      obtain ⟨es, g1, g2⟩ := (p.post h7).io i ds' hi
      obtain ⟨fs, g3, _⟩ := (p.post r).io i ds' hi
      have := h8 i fs g3
      rw [g1] at this
      cases this
      exact ⟨es, g3, g2⟩
    | pair d ds =>
      intro ow' σ' v H' r _ _ rd
      obtain ⟨q, b, x, ws, o, Hm, ow2, S2, h1, h2, h3, h4, h4b, h4c, h5, h6a, h6, h7, h8⟩ := rd
      subst h1
      subst h5
      refine h q b x ws o Hm ⟨(p.post h7).ext, fun i ds' hi => ?_⟩ h4 h4b h4c (rd_less h6a fun a z => .inl z) (rds_less h6 fun a z => .inl z)
      obtain ⟨es, g1, g2⟩ := (p.post h7).io i ds' hi
      obtain ⟨fs, g3, _⟩ := (p.post r).io i ds' hi
      have := h8 i fs g3
      rw [g1] at this
      cases this
      exact ⟨es, g3, g2⟩
    | nil => exact h.elim
    | io ds => exact h.elim
    | nst ds => exact h.elim
  | bk S' => rw [e] at h; exact h.elim
  | ct S' => rw [e] at h; exact h.elim
  | ex c S' =>
    rw [e] at h
    exact fun ow' σ' H' r _ _ => h H' (p.post r)
  | no => rw [e] at h; exact h.elim
theorem fn_ok {x qual : Str} {st : Stmt} {f : Addr} {fd : FuncData} {N ps : List Str} {k : Nat} {s : SS} (F : Fun K x qual st f fd) (S : FnScope N ps (defScope st))
    (hb : ∀ (cdv : Value) (A : Around) (outer : List Env) (sh : Shared) (H : Hp) (E : XK) (C : Cn), A.guards = some [] → Room k (A.deeper (envOfC qual (defScope st) sh.heap.objs.size f cdv)) →
      PSs (cxOf (L2N.CX P w) P w K mg base N qual (defScope st) f cdv A outer sh H E) (defBody st) (xS K mg (fun cls d _ H => E cls d H) C s)) (hbig : N.length ≤ 4096 := by decide) :
    FnG P w K mg base (k + 1) f fd ps (spM K mg (mB N.length s) ps.length) := fn_okG F S (fun cdv A outer sh H E C _ => hb cdv A outer sh H E C) hbig
theorem fn_okW {x qual : Str} {st : Stmt} {f : Addr} {fd : FuncData} {N ps : List Str} {k : Nat} {s : SS} (F : Fun K x qual st f fd) (S : FnScope N ps (defScope st))
    (hb : ∀ (cdv : Value) (A : Around) (outer : List Env) (sh : Shared) (H : Hp) (E : XK) (C : Cn), C.w = w → A.guards = some [] → Room k (A.deeper (envOfC qual (defScope st) sh.heap.objs.size f cdv)) →
      PSs (cxOf (L2N.CX P w) P w K mg base N qual (defScope st) f cdv A outer sh H E) (defBody st) (xS K mg (fun cls d _ H => E cls d H) C s)) (hbig : N.length ≤ 4096 := by decide) :
    FnG P w K mg base (k + 1) f fd ps (spW w K mg (mB N.length s) ps.length) := fn_okG F S hb hbig
end
inductive Ag where
  | v (d : PyData)
  /-- the list of this slot, to be changed -/
  | r (i : Nat)
abbrev SG := En → R (List Ag)
def relG (K : PySem.W.Frag) : Rel (List V) (List Ag) := fun C ow σ S' H H' vs gs => vs.length = gs.length ∧ ∀ (i : Nat) g, gs[i]? = some g → ∃ v, vs[i]? = some v ∧ match g with
  | .v d => RD K (av C ow) H' v d
  | .r j => ∃ a, v = .ref a ∧ ow j = some a
theorem early_G {K : PySem.W.Frag} : Early K (relG K) := fun _ _ _ _ _ _ _ _ _ _ _ _ _ _ h => h
abbrev xAg (K : PySem.W.Frag) (mg : Str → Option Value) (W : WX) (C : Cn) (s : SG) : TA := xG K mg W C (relG K) s
section
variable {X : Cx} {W : WX} {C : Cn} {pos : Pos} {e : Expr} {es : List Expr} {se : SE} {sg : SG} {i : Nat}
def sG0 : SG := fun S => .ok [] S
def sGv (se : SE) (sg : SG) : SG := fun S => (se S).bind fun d S1 => (sg S1).bind fun gs S2 => .ok (.v d :: gs) S2
def sGr (i : Nat) (sg : SG) : SG := fun S => if (own? S[i]?).isSome = true then (sg S).bind fun gs S2 => .ok (.r i :: gs) S2 else .no
theorem g_nil : PA X [] (xAg X.K X.mg W C sG0) := pa_imp pa_nil fun σ H Q ⟨ow, S, rl, q⟩ => pst_ok (mg := X.mg) (W := W) (rel := relG X.K) (d := []) rl q ⟨rfl, fun i g h => by simp at h⟩
theorem g_val (ha : PE X e (xE X.K X.mg W C se)) (hr : PA X es (xAg X.K X.mg W C sg)) (hs : starEach (e :: es) X.env = (false, eval e X.env) :: starEach es X.env := by rfl) : PA X (e :: es) (xAg X.K X.mg W C (sGv se sg)) :=
  pa_imp (pa_cons ha hr hs) fun σ H Q ⟨ow, S, rl, q⟩ => seq early_G rl q fun S1 d x H1 r1 x1 rd k1 => seq early_G r1 k1 fun S2 gs vs H2 r2 x2 rg k2 => pst_ok r2 k2 (by
    refine ⟨by rw [List.length_cons, List.length_cons, rg.1], fun i g h => ?_⟩
    cases i with
    | zero =>
      obtain rfl : Ag.v d = g := by simpa using h
      exact ⟨x, rfl, RD.mono x2 (Grow.refl _ _) d x rd⟩
    | succ i => exact rg.2 i g (by simpa using h))
theorem g_ref (ha : PE X e (tVar i)) (hr : PA X es (xAg X.K X.mg W C sg)) (hs : starEach (e :: es) X.env = (false, eval e X.env) :: starEach es X.env := by rfl) : PA X (e :: es) (xAg X.K X.mg W C (sGr i sg)) :=
  pa_imp (pa_cons ha hr hs) fun σ H Q ⟨ow, S, rl, q⟩ => by
    change pst X.K X.mg W C (relG X.K) ow σ H Q (sGr i sg S) at q
    unfold sGr at q
    cases e : own? S[i]? with
    | none => rw [e] at q; exact q.elim
    | some ds =>
      rw [e] at q
      obtain ⟨a, vs, h0, h1, h2, h3⟩ := rl.own i ds e
      refine ⟨.ref a, h1, seq early_G rl q fun S2 gs vs H2 r2 x2 rg k2 => pst_ok r2 k2 ?_⟩
      refine ⟨by rw [List.length_cons, List.length_cons, rg.1], fun j g h => ?_⟩
      cases j with
      | zero =>
        obtain rfl : Ag.r i = g := by simpa using h
        exact ⟨.ref a, rfl, a, rfl, h0⟩
      | succ j => exact rg.2 j g (by simpa using h)
/-- the callee's slots -/
def toSl (S : En) : Ag → Option Sl
  | .v d => some (.val d)
  | .r i => (own? S[i]?).map .io
def refs (gs : List Ag) : List Nat := gs.filterMap fun g => match g with
  | .r i => some i
  | _ => none
def toSls (S : En) : List Ag → Option En
  | [] => some []
  | g :: gs => match toSl S g, toSls S gs with
    | some x, some r => some (x :: r)
    | _, _ => none
def argS (S : En) (gs : List Ag) : Option En := if (refs gs).Nodup then toSls S gs else none
theorem toSls_get {S : En} : ∀ {gs : List Ag} {S0 : En}, toSls S gs = some S0 → S0.length = gs.length ∧ ∀ (k : Nat) x, S0[k]? = some x → ∃ g, gs[k]? = some g ∧ toSl S g = some x
  | [], S0, h => by
    cases h
    exact ⟨rfl, fun k x e => by simp at e⟩
  | g :: gs, S0, h => by
    unfold toSls at h
    split at h
    · rename_i x r e1 e2
      cases h
      obtain ⟨h1, h2⟩ := toSls_get e2
      refine ⟨by rw [List.length_cons, List.length_cons, h1], fun k y e => ?_⟩
      cases k with
      | zero =>
        obtain rfl : x = y := by simpa using e
        exact ⟨g, rfl, e1⟩
      | succ k =>
        obtain ⟨g', h3, h4⟩ := h2 k y (by simpa using e)
        exact ⟨g', by simpa using h3, h4⟩
    · cases h
theorem mem_refs {gs : List Ag} {i : Nat} : i ∈ refs gs ↔ Ag.r i ∈ gs := by
  unfold refs
  rw [List.mem_filterMap]
  constructor
  · rintro ⟨g, h1, h2⟩
    cases g with
    | v d => cases h2
    | r j => cases h2; exact h1
  · exact fun h => ⟨.r i, h, rfl⟩
theorem refs_at {gs : List Ag} {i : Nat} (hn : (refs gs).Nodup) : ∀ (j k : Nat), gs[j]? = some (.r i) → gs[k]? = some (.r i) → j = k := by
  induction gs with
  | nil => intro j k h; simp at h
  | cons g gs ih =>
    intro j k h1 h2
    have tail : (refs gs).Nodup := by
      cases g with
      | v d => exact hn
      | r m => exact (List.nodup_cons.mp (show (m :: refs gs).Nodup from hn)).2
    have head : g = .r i → Ag.r i ∉ gs := fun e z => by
      subst e
      exact (List.nodup_cons.mp (show (i :: refs gs).Nodup from hn)).1 (mem_refs.mpr z)
    cases j with
    | zero =>
      cases k with
      | zero => rfl
      | succ k => exact absurd (List.mem_of_getElem? (by simpa using h2)) (head (by simpa using h1))
    | succ j =>
      cases k with
      | zero => exact absurd (List.mem_of_getElem? (by simpa using h1)) (head (by simpa using h2))
      | succ k => rw [ih tail j k (by simpa using h1) (by simpa using h2)]
/-- the lists come back -/
def back : List Ag → En → En → En
  | .r i :: gs, .io es :: T, S => back gs T (upL i es S)
  | _ :: gs, _ :: T, S => back gs T S
  | _, _, S => S
theorem back_spec : ∀ (gs : List Ag) (T S : En), (refs gs).Nodup → (back gs T S).length = S.length ∧ (∀ j, j ∉ refs gs → (back gs T S)[j]? = S[j]?) ∧
    ∀ (k i : Nat) es, gs[k]? = some (.r i) → T[k]? = some (.io es) → (∃ ds, own? S[i]? = some ds) → (∃ ds, S[i]? = some (.own ds) ∧ (back gs T S)[i]? = some (.own es)) ∨ (∃ ds, S[i]? = some (.io ds) ∧ (back gs T S)[i]? = some (.io es))
  | [], T, S, _ => ⟨rfl, fun _ _ => rfl, fun k i es h => by simp at h⟩
  | g :: gs, [], S, _ => by
    have e : back (g :: gs) [] S = S := by cases g <;> rfl
    rw [e]
    exact ⟨rfl, fun _ _ => rfl, fun k i es _ h => by simp at h⟩
  | .v d :: gs, x :: T, S, hn => by
    obtain ⟨h1, h2, h3⟩ := back_spec gs T S hn
    have e : back (.v d :: gs) (x :: T) S = back gs T S := by cases x <;> rfl
    rw [e]
    refine ⟨h1, h2, fun k i es e1 e2 => ?_⟩
    cases k with
    | zero => simp at e1
    | succ k => exact h3 k i es (by simpa using e1) (by simpa using e2)
  | .r j :: gs, x :: T, S, hn => by
    have hn' := List.nodup_cons.mp (show (j :: refs gs).Nodup from hn)
    by_cases hx : ∃ fs, x = .io fs
    · obtain ⟨fs, rfl⟩ := hx
      obtain ⟨h1, h2, h3⟩ := back_spec gs T (upL j fs S) hn'.2
      show (back gs T (upL j fs S)).length = S.length ∧ (∀ i, i ∉ j :: refs gs → (back gs T (upL j fs S))[i]? = S[i]?) ∧ _
      refine ⟨h1.trans upL_len, fun i hi => ?_, fun k i es e1 e2 e3 => ?_⟩
      · rw [h2 i fun z => hi (List.mem_cons_of_mem _ z), upL_ne fun z => hi (by rw [z]; exact List.mem_cons_self)]
      · cases k with
        | zero =>
          obtain rfl : j = i := by simpa using e1
          obtain rfl : fs = es := by simpa using e2
          obtain ⟨ds, e3⟩ := e3
          have e4 := h2 j hn'.1
          rcases upL_at (es := fs) e3 with ⟨d, f, g1, g2, g3⟩ | ⟨d, f, g1, g2, g3⟩
          · subst g3
            exact .inl ⟨d, g1, e4.trans g2⟩
          · subst g3
            exact .inr ⟨d, g1, e4.trans g2⟩
        | succ k =>
          have e1' : gs[k]? = some (.r i) := by simpa using e1
          have ne : i ≠ j := fun z => hn'.1 (by rw [← z]; exact mem_refs.mpr (List.mem_of_getElem? e1'))
          have := h3 k i es e1' (by simpa using e2) (by rw [upL_ne ne]; exact e3)
          rw [upL_ne ne] at this
          exact this
    · have e : back (.r j :: gs) (x :: T) S = back gs T S := by
        cases x with
        | io fs => exact absurd ⟨fs, rfl⟩ hx
        | _ => rfl
      obtain ⟨h1, h2, h3⟩ := back_spec gs T S hn'.2
      rw [e]
      refine ⟨h1, fun i hi => h2 i fun z => hi (List.mem_cons_of_mem _ z), fun k i es e1 e2 => ?_⟩
      cases k with
      | zero => exact absurd ⟨es, by simpa using e2⟩ hx
      | succ k => exact h3 k i es (by simpa using e1) (by simpa using e2)
def sCall (m : Mf) (sg : SG) (S : En) : R Sl := (sg S).bind fun gs S1 => match argS S1 gs with
  | none => .no
  | some S0 => match m S0 with
    | .ok d T => .ok d (back gs T S1)
    | .ex c T => .ex c (back gs T S1)
    | .no => .no
def asV (x : Sl) : Option PyData := match x with
  | .val d => some d
  | _ => none
def asN (x : Sl) : Option (List PyData) := match x with
  | .own ds => some ds
  | _ => none
theorem asV_some {x : Sl} {d : PyData} (h : asV x = some d) : x = .val d := by
  match x, h with
  | .val _, h => cases h; rfl
theorem asN_some {x : Sl} {d : List PyData} (h : asN x = some d) : x = .own d := by
  match x, h with
  | .own _, h => cases h; rfl
section
variable {K : PySem.W.Frag} {ow : Ow} {S S0 T : En} {σ : St} {H H' : Hp} {gs : List Ag} {vs : List V}
theorem toSl_io {g : Ag} {ds : List PyData} (h : toSl S g = some (.io ds)) : ∃ i, g = .r i ∧ own? S[i]? = some ds := by
  cases g with
  | v d => cases h
  | r i =>
    refine ⟨i, rfl, ?_⟩
    change (own? S[i]?).map Sl.io = some (.io ds) at h
    cases e : own? S[i]? with
    | none => rw [e] at h; cases h
    | some es => rw [e] at h; cases h; rfl
theorem Rl.pre (r : Rl K C ow S σ H) (rg : relG K C ow σ S H H vs gs) (h : argS S gs = some S0) : (refs gs).Nodup ∧ Pre K (av C ow) H vs S0 := by
  unfold argS at h
  by_cases hn : (refs gs).Nodup
  · rw [if_pos hn] at h
    obtain ⟨h1, h2⟩ := toSls_get h
    refine ⟨hn, h1.trans rg.1.symm, fun i x e => ?_, fun i j ds es a e1 e2 e3 e4 => ?_, r.tracked⟩
    · obtain ⟨g, e1, e2⟩ := h2 i x e
      obtain ⟨v, e3, e4⟩ := rg.2 i g e1
      refine ⟨v, e3, ?_⟩
      cases g with
      | v d => cases e2; exact e4
      | r j =>
        obtain ⟨a, e5, e6⟩ := e4
        subst e5
        change (own? S[j]?).map Sl.io = some x at e2
        cases e7 : own? S[j]? with
        | none => rw [e7] at e2; cases e2
        | some ds =>
          rw [e7] at e2
          cases e2
          obtain ⟨b, ws, f1, f2, f3, f4⟩ := r.own j ds e7
          rw [e6] at f1; cases f1
          exact ⟨a, ws, rfl, .inr ⟨j, e6⟩, f3, f4⟩
    · obtain ⟨g1, f1, f2⟩ := h2 i _ e1
      obtain ⟨g2, f3, f4⟩ := h2 j _ e2
      obtain ⟨m, rfl, _⟩ := toSl_io f2
      obtain ⟨n, rfl, _⟩ := toSl_io f4
      obtain ⟨v1, k1, b, k2, k3⟩ := rg.2 i _ f1
      obtain ⟨v2, k4, c, k5, k6⟩ := rg.2 j _ f3
      subst k2
      subst k5
      rw [e3] at k1
      rw [e4] at k4
      cases k1
      cases k4
      have emn := r.inj m n a k3 k6
      subst emn
      exact refs_at hn i j f1 f3
  · rw [if_neg hn] at h
    cases h
theorem Rl.back (r : Rl K C ow S σ H) (rg : relG K C ow σ S H H vs gs) (h : argS S gs = some S0) (p : Post K (av C ow) H vs S0 T H') : Rl K C ow (back gs T S) σ H' ∧ Ext (av C ow) H H' := by
  obtain ⟨hn, _⟩ := r.pre rg h
  unfold argS at h
  rw [if_pos hn] at h
  obtain ⟨g1, g2⟩ := toSls_get h
  obtain ⟨b1, b2, b3⟩ := back_spec gs T S hn
  -- a handed list: its place among the arguments, its slot, what came back
  have gown : ∀ (k i : Nat) {x : Sl}, toSl S (.r i) = some x → ∃ ds, own? S[i]? = some ds := fun k i x e => by
    change (own? S[i]?).map Sl.io = some x at e
    cases q : own? S[i]? with
    | none => rw [q] at e; cases e
    | some ds => exact ⟨ds, rfl⟩
  have look : ∀ i, i ∈ refs gs → ∃ (k : Nat) (ds : List PyData) (a : Addr) (es : List PyData) (ws : List V), gs[k]? = some (.r i) ∧ own? S[i]? = some ds ∧ ow i = some a ∧ vs[k]? = some (.ref a) ∧ S0[k]? = some (.io ds) ∧ T[k]? = some (.io es) ∧ H' a = some (.lst ws) ∧ RDs K (av C ow) H' ws es := fun i hi => by
    obtain ⟨k, hk⟩ := List.getElem?_of_mem (mem_refs.mp hi)
    have hk0 : k < S0.length := by rw [g1]; exact (List.getElem?_eq_some_iff.mp hk).1
    obtain ⟨g, e1, e2⟩ := g2 k _ (List.getElem?_eq_getElem hk0)
    rw [hk] at e1; cases e1
    obtain ⟨v, e3, a, e4, e5⟩ := rg.2 k _ hk
    subst e4
    obtain ⟨ds, e6⟩ := gown k i e2
    have e7 : S0[k]? = some (.io ds) := by
      rw [List.getElem?_eq_getElem hk0, ← e2]
      show (own? S[i]?).map Sl.io = some (.io ds)
      rw [e6]
      rfl
    obtain ⟨es, e8, e9⟩ := p.io k ds e7
    obtain ⟨ws, e10, e11⟩ := e9 a e3
    exact ⟨k, ds, a, es, ws, hk, e6, e5, e3, e7, e8, e10, e11⟩
  refine r.after (fun i => i ∈ refs gs) b1 (fun i hi => b2 i hi) (fun i hi => ?_) (fun a o e n => p.ext a o e fun k ds e1 e2 => ?_) fun i es a hi e1 e2 => ?_
  · obtain ⟨k, ds, a, es, ws, h1, h2, h3, h4, h5, h6, h7, h8⟩ := look i hi
    rcases b3 k i es h1 h6 ⟨ds, h2⟩ with ⟨d, z1, z2⟩ | ⟨d, z1, z2⟩
    · exact .inl ⟨d, es, z1, z2⟩
    · exact .inr ⟨d, es, z1, z2⟩
  · obtain ⟨g, e3, e4⟩ := g2 k _ e1
    obtain ⟨i, rfl, _⟩ := toSl_io e4
    obtain ⟨v, f1, b, f2, f3⟩ := rg.2 k _ e3
    subst f2
    rw [e2] at f1; cases f1
    exact n i (mem_refs.mpr (List.mem_of_getElem? e3)) f3
  · obtain ⟨k, ds, b, fs, ws, h1, h2, h3, h4, h5, h6, h7, h8⟩ := look i hi
    rw [h3] at e2; cases e2
    refine ⟨ws, h7, ?_⟩
    have : es = fs := by
      rcases b3 k i fs h1 h6 ⟨ds, h2⟩ with ⟨d, z1, z2⟩ | ⟨d, z1, z2⟩ <;> rw [z2] at e1 <;> cases e1 <;> rfl
    rw [this]
    exact h8
end
def sCallV (m : Mf) (sg : SG) : SE := fun S => (sCall m sg S).bind fun x S1 => R.opt (asV x) S1
def sCallN (m : Mf) (sg : SG) : SN := fun S => (sCall m sg S).bind fun x S1 => R.opt (asN x) S1
variable {x : Str} {p : Pos} {f : Addr} {fd : FuncData} {ps : List Str} {k n : Nat} {m : Mf}
theorem run_callV {gw : World → Prop} {σ : St} {H : Hp} {Q : VK} (h : xE X.K X.mg W C (sCallV m sg) σ H Q) (hn : ∀ S gs S1, sg S = .ok gs S1 → gs.length = n) (hgw : gw C.w) : tCallS (spG gw X.K X.mg m n) (WE W) (xAg X.K X.mg W C sg) σ H Q := by
  obtain ⟨ow, S, r, q⟩ := h
  change pst X.K X.mg W C (relE X.K) ow σ H Q ((sCall m sg S).bind fun x S1 => R.opt (asV x) S1) at q
  unfold sCall at q
  have hn' := hn S
  refine ⟨ow, S, r, ?_⟩
  show pst X.K X.mg W C (relG X.K) ow σ H _ (sg S)
  cases e : sg S with
  | no => rw [e] at q; exact q
  | ex c S' => rw [e] at q; exact q
  | ok gs S1 =>
    rw [e] at q
    intro vs H1 r1 x1 rg
    refine ⟨by rw [rg.1]; exact hn' gs S1 e, ?_⟩
    change pst X.K X.mg W C (relE X.K) ow σ H Q ((match argS S1 gs with
      | none => R.no
      | some S0 => match m S0 with
        | .ok d T => .ok d (back gs T S1)
        | .ex c T => .ex c (back gs T S1)
        | .no => .no).bind fun x S1 => R.opt (asV x) S1) at q
    cases ea : argS S1 gs with
    | none => rw [ea] at q; exact q.elim
    | some S0 =>
      simp only [ea] at q
      refine ⟨av C ow, S0, hgw, (r1.pre rg ea).2, ?_⟩
      cases em : m S0 with
      | no => simp only [em] at q; exact q.elim
      | ex c T =>
        simp only [em] at q
        intro H' p
        obtain ⟨r2, x2⟩ := r1.back rg ea p
        exact fun d hd => q H' r2 (x1.trans (Grow.refl _ _) x2) d (hd.less fun a z => .inl z)
      | ok d T =>
        simp only [em, bind_ok] at q
        cases ed : asV d with
        | none => rw [ed] at q; exact q.elim
        | some z =>
          rw [ed] at q
          have ed' := asV_some ed
          subst ed'
          intro v H' p rd
          obtain ⟨r2, x2⟩ := r1.back rg ea p
          exact q v H' r2 (x1.trans (Grow.refl _ _) x2) rd
theorem run_callN {gw : World → Prop} {σ : St} {H : Hp} {Q : VK} (h : xN X.K X.mg W C (sCallN m sg) σ H Q) (hn : ∀ S gs S1, sg S = .ok gs S1 → gs.length = n) (hgw : gw C.w) : tCallS (spG gw X.K X.mg m n) (WE W) (xAg X.K X.mg W C sg) σ H Q := by
  obtain ⟨ow, S, r, q⟩ := h
  change pst X.K X.mg W C (relN X.K) ow σ H Q ((sCall m sg S).bind fun x S1 => R.opt (asN x) S1) at q
  unfold sCall at q
  have hn' := hn S
  refine ⟨ow, S, r, ?_⟩
  show pst X.K X.mg W C (relG X.K) ow σ H _ (sg S)
  cases e : sg S with
  | no => rw [e] at q; exact q
  | ex c S' => rw [e] at q; exact q
  | ok gs S1 =>
    rw [e] at q
    intro vs H1 r1 x1 rg
    refine ⟨by rw [rg.1]; exact hn' gs S1 e, ?_⟩
    change pst X.K X.mg W C (relN X.K) ow σ H Q ((match argS S1 gs with
      | none => R.no
      | some S0 => match m S0 with
        | .ok d T => .ok d (back gs T S1)
        | .ex c T => .ex c (back gs T S1)
        | .no => .no).bind fun x S1 => R.opt (asN x) S1) at q
    cases ea : argS S1 gs with
    | none => rw [ea] at q; exact q.elim
    | some S0 =>
      simp only [ea] at q
      refine ⟨av C ow, S0, hgw, (r1.pre rg ea).2, ?_⟩
      cases em : m S0 with
      | no => simp only [em] at q; exact q.elim
      | ex c T =>
        simp only [em] at q
        intro H' p
        obtain ⟨r2, x2⟩ := r1.back rg ea p
        exact fun d hd => q H' r2 (x1.trans (Grow.refl _ _) x2) d (hd.less fun a z => .inl z)
      | ok d T =>
        simp only [em, bind_ok] at q
        cases ed : asN d with
        | none => rw [ed] at q; exact q.elim
        | some z =>
          rw [ed] at q
          have ed' := asN_some ed
          subst ed'
          intro a ws Hm p na rds
          obtain ⟨r2, x2⟩ := r1.back rg ea p
          exact q (.ref a) _ (r2.same (same_new na)) ((x1.trans (Grow.refl _ _) x2).trans (Grow.refl _ _) (Ext.same (same_new na))) ⟨a, ws, Hm, rfl, na, rfl, x1.trans (Grow.refl _ _) x2, r2, rds⟩
/-- the call itself -/
theorem pe_callG {sp : Sp} (F : FnG X.prog X.w X.K X.mg X.base k f fd ps sp) (gd : X.A.guards = some []) (hr : Room k X.A) (hg : Gl X x) (hm : X.mg x = some (.ref f)) (hk : PySem.W.keepIn X.K (.ref f) = true) (hb : Binds X.K fd ps []) (tk : Takes X W) {t : TA}
    (ha : PA X (e :: es) t) (hdb : (x == ("__debug__" : Str)) = false) (he : starEach (e :: es) X.env = (false, eval e X.env) :: starEach es X.env) (hpl : (backTo pos (starEach es X.env)).any (·.1) = false) : PE X (.Call (.Name x p) (e :: es) [] pos) (tCallS sp (WE W) t) := by
  refine ⟨fun pins s σ H Q I h => wpAny_Call_Name_kw (ld_glob I hg hm ?_ hdb)⟩
  refine PySem.W.callWith_K (h₀ := X.base) I.ok.mod.kin hk (thn (ha.run pos pins s σ H _ I h) fun us s1 ⟨vs, H1, I1, r, q⟩ => ⟨I1.kIn, ?_⟩) he hpl
  have hl : us.length = ps.length := r.length.symm.trans (F.len _ _ _ _ q)
  have b := hb s1 us I1.kIn (by rw [List.append_nil]; exact hl)
  rw [List.append_nil] at b
  refine wpAny_call (codeAny_mono (F.run X.A X.stack s1 H1 ⟨us, []⟩ us vs Q (WE W σ) gd hr I1.env0 b r q) fun o s' hq => ?_)
  match o, hq with
  | .error e, hq => exact passAt tk σ pins H1 s1 e s' I1 hq
  | .ok (.ret u), hq => exact I1.after hq
  | .ok .next, hq => exact hq.elim
  | .ok .brk, hq => exact hq.elim
  | .ok .cont, hq => exact hq.elim
theorem e_call {gw : World → Prop} (F : FnG X.prog X.w X.K X.mg X.base k f fd ps (spG gw X.K X.mg m n)) (gd : X.A.guards = some []) (hr : Room k X.A) (hg : Gl X x) (hm : X.mg x = some (.ref f)) (hk : PySem.W.keepIn X.K (.ref f) = true) (hb : Binds X.K fd ps []) (tk : Takes X W)
    (ha : PA X (e :: es) (xAg X.K X.mg W C sg)) (hn : ∀ S gs S1, sg S = .ok gs S1 → gs.length = n) (hdb : (x == ("__debug__" : Str)) = false := by decide) (he : starEach (e :: es) X.env = (false, eval e X.env) :: starEach es X.env := by rfl) (hpl : (backTo pos (starEach es X.env)).any (·.1) = false := by rfl) (hgw : gw C.w := by first | exact trivial | assumption) :
    PE X (.Call (.Name x p) (e :: es) [] pos) (xE X.K X.mg W C (sCallV m sg)) :=
  pe_imp (pe_callG F gd hr hg hm hk hb tk ha hdb he hpl) fun _ _ _ h => run_callV h hn hgw
theorem n_call {gw : World → Prop} (F : FnG X.prog X.w X.K X.mg X.base k f fd ps (spG gw X.K X.mg m n)) (gd : X.A.guards = some []) (hr : Room k X.A) (hg : Gl X x) (hm : X.mg x = some (.ref f)) (hk : PySem.W.keepIn X.K (.ref f) = true) (hb : Binds X.K fd ps []) (tk : Takes X W)
    (ha : PA X (e :: es) (xAg X.K X.mg W C sg)) (hn : ∀ S gs S1, sg S = .ok gs S1 → gs.length = n) (hdb : (x == ("__debug__" : Str)) = false := by decide) (he : starEach (e :: es) X.env = (false, eval e X.env) :: starEach es X.env := by rfl) (hpl : (backTo pos (starEach es X.env)).any (·.1) = false := by rfl) (hgw : gw C.w := by first | exact trivial | assumption) :
    PE X (.Call (.Name x p) (e :: es) [] pos) (xN X.K X.mg W C (sCallN m sg)) :=
  pe_imp (pe_callG F gd hr hg hm hk hb tk ha hdb he hpl) fun _ _ _ h => run_callN h hn hgw
/-- how many arguments -/
theorem ln0 : ∀ S gs S1, sG0 S = .ok gs S1 → gs.length = 0 := fun S gs S1 h => by cases h; rfl
theorem lnv {n : Nat} (h : ∀ S gs S1, sg S = .ok gs S1 → gs.length = n) : ∀ S gs S1, sGv se sg S = .ok gs S1 → gs.length = n + 1 := fun S gs S1 e => by
  unfold sGv at e
  cases e1 : se S with
  | no => rw [e1] at e; cases e
  | ex c T => rw [e1] at e; cases e
  | ok d T =>
    rw [e1, bind_ok] at e
    cases e2 : sg T with
    | no => rw [e2] at e; cases e
    | ex c T => rw [e2] at e; cases e
    | ok ds T2 =>
      rw [e2, bind_ok] at e
      cases e
      rw [List.length_cons, h T ds _ e2]
theorem lnr {n : Nat} (h : ∀ S gs S1, sg S = .ok gs S1 → gs.length = n) : ∀ S gs S1, sGr i sg S = .ok gs S1 → gs.length = n + 1 := fun S gs S1 e => by
  unfold sGr at e
  split at e
  · cases e2 : sg S with
    | no => rw [e2] at e; cases e
    | ex c T => rw [e2] at e; cases e
    | ok ds T2 =>
      rw [e2, bind_ok] at e
      cases e
      rw [List.length_cons, h S ds _ e2]
  · cases e
end
end Ds
end
section
set_option Elab.async false
set_option linter.all false
set_option maxRecDepth 100000
set_option maxHeartbeats 4000000
namespace Ds
open PySem PySem.Spec PyProof.Rows L2
/-- from H on the walk J gives the data ds -/
def ItD (K : PySem.W.Frag) (J : It) (av1 : Av) (H : Hp) (ds : List PyData) : Prop :=
  ∀ (av2 : Av) (H1 : Hp), Ext av1 H H1 → Grow av1 av2 H → av2.w = av1.w → (∀ a, av2 a → ∃ o, H1 a = some o) →
    (∀ i, i < ds.length → J.go i H1) ∧ J.stop ds.length H1 ∧ ∀ (i : Nat) d v H2, ds[i]? = some d → J.yld i H1 v H2 → Same H1 H2 ∧ RD K av2 H2 v d
def relI (K : PySem.W.Frag) : Rel It (List PyData) := fun C ow _ _ _ H' J ds => ItD K J (av C ow) H' ds
theorem early_I {K : PySem.W.Frag} : Early K (relI K) := fun _ _ _ _ _ _ _ _ _ _ _ _ _ _ h => h
abbrev xI (K : PySem.W.Frag) (mg : Str → Option Value) (W : WX) (C : Cn) (s : SN) : TI := xG K mg W C (relI K) s
section
variable {X : Cx} {W : WX} {C : Cn} {pos : Pos} {e tg iter : Expr} {se : SE} {sn : SN} {i : Nat}
theorem pi_imp {t t' : TI} (h : PI X tg iter t) (f : ∀ σ H R, t' σ H R → t σ H R) : PI X tg iter t' := ⟨fun pins s σ H Q I q => h.run pins s σ H Q I (f σ H Q q)⟩
theorem itd_list {K : PySem.W.Frag} {av1 : Av} {H : Hp} {a : Addr} {vs : List V} {ds : List PyData} (h : LK K av1 H a vs) (r : RDs K av1 H vs ds) : ItD K (Itl K a) av1 H ds := fun av2 H1 x g gw _ => by
  have q := (h.mono x g).sq
  have r' := RDs.mono x g ds vs r
  have hl := r.len
  refine ⟨fun i hi => ⟨vs, vs[i]'(by omega), q, List.getElem?_eq_getElem _⟩, ⟨vs, q, by omega⟩, fun i d v H2 e y => ?_⟩
  obtain ⟨y1, y2⟩ := y
  subst y1
  obtain ⟨w, e1, e2⟩ := r'.get e
  have := y2 vs q
  rw [e1] at this
  cases this
  exact ⟨Same.refl _, e2⟩
theorem itd_tup {K : PySem.W.Frag} {av1 : Av} {H : Hp} {a : Addr} {vs : List V} {ds : List PyData} (h : TK K av1 H a vs) (r : RDs K av1 H vs ds) : ItD K (Itt K a) av1 H ds := fun av2 H1 x g gw _ => by
  have q := (h.mono x g).sq
  have r' := RDs.mono x g ds vs r
  have hl := r.len
  refine ⟨fun i hi => ⟨vs, vs[i]'(by omega), q, List.getElem?_eq_getElem _⟩, ⟨vs, q, by omega⟩, fun i d v H2 e y => ?_⟩
  obtain ⟨y1, y2⟩ := y
  subst y1
  obtain ⟨w, e1, e2⟩ := r'.get e
  have := y2 vs q
  rw [e1] at this
  cases this
  exact ⟨Same.refl _, e2⟩
def sIL (se : SE) : SN := fun S => (se S).bind fun d S1 => R.opt (asL d) S1
def asT (d : PyData) : Option (List PyData) := match d with
  | .tuple ds => some ds
  | _ => none
theorem asT_some {d : PyData} {ds : List PyData} (h : asT d = some ds) : d = .tuple ds := by
  match d, h with
  | .tuple _, h => cases h; rfl
def sIT (se : SE) : SN := fun S => (se S).bind fun d S1 => R.opt (asT d) S1
/-- over a list, a tuple -/
theorem i_list (h : PE X e (xE X.K X.mg W C se)) : PI X tg e (xI X.K X.mg W C (sIL se)) := pi_imp (pi_list h) fun σ H R ⟨ow, S, r, q⟩ =>
  seq early_I r q fun S1 d v H1 r1 x1 rd k => by
    cases e : asL d with
    | none => rw [e] at k; exact k.elim
    | some ds =>
      rw [e] at k
      have ed := asL_some e
      subst ed
      cases rd with
      | lst h1 h2 => exact ⟨_, rfl, ⟨_, h1.sq⟩, pst_ok r1 k (itd_list h1 h2)⟩
theorem i_tup (h : PE X e (xE X.K X.mg W C se)) : PI X tg e (xI X.K X.mg W C (sIT se)) := pi_imp (pi_tup h) fun σ H R ⟨ow, S, r, q⟩ =>
  seq early_I r q fun S1 d v H1 r1 x1 rd k => by
    cases e : asT d with
    | none => rw [e] at k; exact k.elim
    | some ds =>
      rw [e] at k
      have ed := asT_some e
      subst ed
      cases rd with
      | tup h1 h2 => exact ⟨_, rfl, ⟨_, h1.sq⟩, pst_ok r1 k (itd_tup h1 h2)⟩
theorem itd_range {K : PySem.W.Frag} {av1 : Av} {H : Hp} {lo : Int} {n : Nat} : ItD K (Itr lo n) av1 H ((List.range n).map fun i => .int (lo + (i : Nat))) := fun av2 H1 x g gw _ => by
  refine ⟨fun i hi => by show i < n; simpa using hi, by show n ≤ _; simp, fun i d v H2 e y => ?_⟩
  obtain ⟨y1, y2⟩ := y
  subst y1
  subst y2
  rw [List.getElem?_map] at e
  cases q : (List.range n)[i]? with
  | none => rw [q] at e; cases e
  | some j =>
    rw [q] at e
    cases e
    have hi := (List.getElem?_eq_some_iff.mp q)
    obtain ⟨h1, h2⟩ := hi
    rw [List.getElem_range] at h2
    subst h2
    exact ⟨Same.refl _, .int _⟩
def rng (lo hi : Int) : List PyData := (List.range (hi - lo).toNat).map fun i => .int (lo + (i : Nat))
def smallI (i : Int) : Bool := decide (-(2 ^ 62) ≤ i) && decide (i < 2 ^ 62)
theorem smallI_of {i : Int} (h : smallI i = true) : -(2 ^ 62) ≤ i ∧ i < 2 ^ 62 := by
  unfold smallI at h
  rw [Bool.and_eq_true] at h
  exact ⟨of_decide_eq_true h.1, of_decide_eq_true h.2⟩
def rng1 (ds : List PyData) : Option (List PyData) := match ds with
  | [.int j] => if smallI j = true then some (rng 0 j) else none
  | _ => none
def rng2 (ds : List PyData) : Option (List PyData) := match ds with
  | [.int i, .int j] => if smallI i = true ∧ smallI j = true then some (rng i j) else none
  | _ => none
def sRng1 (sr : SN) : SN := fun S => (sr S).bind fun ds S1 => R.opt (rng1 ds) S1
def sRng2 (sr : SN) : SN := fun S => (sr S).bind fun ds S1 => R.opt (rng2 ds) S1
theorem i_rng1 {a : Expr} {sr : SN} {p : Pos} (hg : Gl X "range") (hm : X.mg "range" = none) (ha : PA X [a] (xA X.K X.mg W C sr)) (hs : starEach [a] X.env = [(false, eval a X.env)] := by rfl) : PI X tg (.Call (.Name "range" p) [a] [] pos) (xI X.K X.mg W C (sRng1 sr)) :=
  pi_imp (pi_range1 hg hm ha hs) fun σ H Q ⟨ow, S, r, q⟩ => seq early_I r q fun S1 ds vs H1 r1 x1 rd k => by
    match ds, rd, k with
    | [.int j], .cons (.int _) .nil, k =>
      change pst X.K X.mg W C (relI X.K) ow σ H1 Q (R.opt (if smallI j = true then some (rng 0 j) else none) S1) at k
      by_cases z : smallI j = true
      · rw [if_pos z] at k
        have b := smallI_of z
        refine ⟨j, rfl, b.1, b.2, pst_ok r1 k ?_⟩
        have := itd_range (K := X.K) (av1 := av C ow) (H := H1) (lo := 0) (n := j.toNat)
        unfold rng
        rw [Int.sub_zero]
        exact this
      · rw [if_neg z] at k
        exact k.elim
def Tch (ts : List Nat) (σ σ' : St) : Prop := σ'.length = σ.length ∧ ∀ j, j ∉ ts → σ'[j]? = σ[j]?
abbrev GT := PyData → En → RS
def xT (K : PySem.W.Frag) (C : Cn) (g : GT) (ts : List Nat) : TG := fun v σ H Q => ∃ ow S d, Rl K C ow S σ H ∧ RD K (av C ow) H v d ∧ match g d S with
  | .nx S' => ∀ σ' H', Rl K C ow S' σ' H' → Ext (av C ow) H H' → Tch ts σ σ' → Q σ' H'
  | _ => False
abbrev GTs := List PyData → En → RS
def xTs (K : PySem.W.Frag) (C : Cn) (g : GTs) (ts : List Nat) : TGs := fun vs σ H Q => ∃ ow S ds, Rl K C ow S σ H ∧ RDs K (av C ow) H vs ds ∧ match g ds S with
  | .nx S' => ∀ σ' H', Rl K C ow S' σ' H' → Ext (av C ow) H H' → Tch ts σ σ' → Q σ' H'
  | _ => False
theorem pg_imp {t t' : TG} (h : PG X tg t) (f : ∀ v σ H Q, t' v σ H Q → t v σ H Q) : PG X tg t' := ⟨fun pins s σ H v u Q I r q => h.run pins s σ H v u Q I r (f v σ H Q q)⟩
theorem pgs_imp {tgs : List Expr} {t t' : TGs} (h : PGs X tgs t) (f : ∀ v σ H Q, t' v σ H Q → t v σ H Q) : PGs X tgs t' := ⟨fun pins s σ H v u Q I r q => h.run pins s σ H v u Q I r (f v σ H Q q)⟩
/-- a slot that owns nothing -/
def bare (o : Option Sl) : Bool := match o with
  | some .nil => true
  | some (.val _) => true
  | _ => false
theorem bare_noio {o : Option Sl} (h : bare o = true) : noio o = true ∧ own? o = none := by
  match o, h with
  | some .nil, _ => exact ⟨rfl, rfl⟩
  | some (.val _), _ => exact ⟨rfl, rfl⟩
theorem Rl.owNone {K : PySem.W.Frag} {ow : Ow} {S : En} {σ : St} {H : Hp} (r : Rl K C ow S σ H) {i : Nat} (h : own? S[i]? = none) (hn : nn S[i]? = true) (hi : i < 4096) : ow i = none := by
  cases e : ow i with
  | none => rfl
  | some a =>
    rcases r.ows i a e with ⟨ds, z⟩ | z
    · rw [h] at z; cases z
    · exact absurd rfl (z.ne hn hi)
theorem Rl.lt4 {K : PySem.W.Frag} {ow : Ow} {S : En} {σ : St} {H : Hp} (r : Rl K C ow S σ H) {i : Nat} {x : Sl} (h : S[i]? = some x) : i < 4096 := by
  have := (List.getElem?_eq_some_iff.mp h).1
  have := r.ns.big
  omega
theorem bare_lt {K : PySem.W.Frag} {ow : Ow} {S : En} {σ : St} {H : Hp} (r : Rl K C ow S σ H) {i : Nat} (h : bare S[i]? = true) : nn S[i]? = true ∧ i < 4096 := by
  cases e : S[i]? with
  | none => rw [e] at h; cases h
  | some x =>
    refine ⟨?_, r.lt4 e⟩
    rw [e] at h
    match x, h with
    | .nil, _ => rfl
    | .val _, _ => rfl
theorem owSet_id {ow : Ow} {i : Nat} {o : Option Addr} (h : ow i = o) : owSet ow i o = ow := by
  funext j
  unfold owSet
  by_cases e : j = i
  · rw [if_pos e, e, h]
  · rw [if_neg e]
def gNm (i : Nat) : GT := fun d S => if bare S[i]? = true then .nx (S.set i (.val d)) else .no
theorem g_name (h : PG X tg (gName i)) : PG X tg (xT X.K C (gNm i) [i]) := pg_imp h fun v σ H Q ⟨ow, S, d, r, rd, q⟩ => by
  unfold gNm at q
  by_cases hi : bare S[i]? = true
  · rw [if_pos hi] at q
    have b := bare_noio hi
    have p := r.putV b.1 rd
    rw [owSet_id (r.owNone b.2 (bare_lt r hi).1 (bare_lt r hi).2)] at p
    exact q _ H p (Ext.refl _ _) ⟨List.length_set, fun j hj => List.getElem?_set_ne fun z => hj (by simp [z])⟩
  · rw [if_neg hi] at q
    exact q.elim
def gN0 : GTs := fun ds S => match ds with
  | [] => .nx S
  | _ => .no
def gNC (g : GT) (gs : GTs) : GTs := fun ds S => match ds with
  | d :: ds => match g d S with
    | .nx S1 => gs ds S1
    | _ => .no
  | [] => .no
theorem gs_nil : PGs X [] (xTs X.K C gN0 []) := pgs_imp pgs_nil fun vs σ H Q ⟨ow, S, ds, r, rd, q⟩ => by
  cases rd with
  | nil => exact ⟨rfl, q σ H r (Ext.refl _ _) ⟨rfl, fun _ _ => rfl⟩⟩
  | cons h1 h2 => exact q.elim
theorem gs_cons {tgs : List Expr} {g : GT} {gs : GTs} {ts us : List Nat} (h1 : PG X tg (xT X.K C g ts)) (h2 : PGs X tgs (xTs X.K C gs us)) (hs : (assignEach (tg :: tgs) X.env).map (·.2) = assign tg X.env :: (assignEach tgs X.env).map (·.2) := by rfl) : PGs X (tg :: tgs) (xTs X.K C (gNC g gs) (ts ++ us)) :=
  pgs_imp (pgs_cons h1 h2 hs) fun vs σ H Q ⟨ow, S, ds, r, rd, q⟩ => by
    cases rd with
    | nil => exact q.elim
    | @cons v vs d ds h1 h2 =>
      refine ⟨v, vs, rfl, ow, S, d, r, h1, ?_⟩
      change (match (match g d S with | .nx S1 => gs ds S1 | _ => .no) with | .nx S' => ∀ σ' H', Rl X.K C ow S' σ' H' → Ext (av C ow) H H' → Tch (ts ++ us) σ σ' → Q σ' H' | _ => False) at q
      cases e : g d S with
      | nx S1 =>
        simp only [e] at q
        intro σ1 H1 r1 x1 c1
        refine ⟨ow, S1, ds, r1, RDs.mono x1 (Grow.refl _ _) ds vs h2, ?_⟩
        cases e2 : gs ds S1 with
        | nx S2 =>
          simp only [e2] at q
          exact fun σ2 H2 r2 x2 c2 => q σ2 H2 r2 (x1.trans (Grow.refl _ _) x2) ⟨c2.1.trans c1.1, fun j hj => (c2.2 j fun z => hj (List.mem_append_right _ z)).trans (c1.2 j fun z => hj (List.mem_append_left _ z))⟩
        | _ => simp only [e2] at q
      | _ => simp only [e] at q
def gTp (gs : GTs) : GT := fun d S => match d with
  | .tuple ds => gs ds S
  | _ => .no
theorem g_tup {tgs : List Expr} {gs : GTs} {k n : Nat} {ts : List Nat} (hc : X.calm = true) (h : PGs X tgs (xTs X.K C gs ts)) (hl : ∀ ds S S', gs ds S = .nx S' → ds.length = n) (hn : (assignEach tgs X.env).length = n := by rfl) (hst : (assignEach tgs X.env).findIdx? (·.1) = none := by rfl) :
    PG X (.Tuple tgs k pos) (xT X.K C (gTp gs) ts) := pg_imp (pg_tup hc h hn hst) fun v σ H Q ⟨ow, S, d, r, rd, q⟩ => by
  cases rd with
  | @tup a xs ds h1 h2 =>
    change (match gs ds S with | .nx S' => ∀ σ' H', Rl X.K C ow S' σ' H' → Ext (av C ow) H H' → Tch ts σ σ' → Q σ' H' | _ => False) at q
    refine ⟨a, xs, rfl, h1.sq, ?_, ow, S, ds, r, h2, q⟩
    cases e : gs ds S with
    | nx S' => rw [h2.len]; exact hl ds S S' e
    | _ => simp only [e] at q
  | _ => exact q.elim
theorem gl0 : ∀ ds S S', gN0 ds S = .nx S' → ds.length = 0 := fun ds S S' h => by
  cases ds with
  | nil => rfl
  | cons d ds => cases h
theorem glc {g : GT} {gs : GTs} {n : Nat} (h : ∀ ds S S', gs ds S = .nx S' → ds.length = n) : ∀ ds S S', gNC g gs ds S = .nx S' → ds.length = n + 1 := fun ds S S' e => by
  cases ds with
  | nil => cases e
  | cons d ds =>
    change (match g d S with | .nx S1 => gs ds S1 | _ => .no) = .nx S' at e
    cases e2 : g d S with
    | nx S1 => simp only [e2] at e; rw [List.length_cons, h ds S1 S' e]
    | _ => simp only [e2] at e; cases e
/-- target = e -/
def sAsg (g : GT) (se : SE) : SS := fun S => (se S).st fun d S1 => g d S1
theorem sst_g {ow : Ow} {S : En} {σ : St} {H : Hp} {D : Ends} {g : GT} {d : PyData} {v : V} {ts : List Nat} (hg : ∀ d S, (∃ S', g d S = .nx S') ∨ g d S = .no) (r : Rl X.K C ow S σ H) (rd : RD X.K (av C ow) H v d) (k : sst X.K X.mg W C ow H D (g d S)) : xT X.K C g ts v σ H D.nx := by
  refine ⟨ow, S, d, r, rd, ?_⟩
  rcases hg d S with ⟨S', e⟩ | e
  · rw [e] at k ⊢
    exact fun σ' H' r' x _ => k ow σ' H' r' x (Grow.refl _ _)
  · rw [e] at k
    exact k.elim
def Plain (g : GT) : Prop := ∀ d S, (∃ S', g d S = .nx S') ∨ g d S = .no
def Plains (g : GTs) : Prop := ∀ d S, (∃ S', g d S = .nx S') ∨ g d S = .no
theorem plain_nm : Plain (gNm i) := fun d S => by
  unfold gNm
  split
  · exact .inl ⟨_, rfl⟩
  · exact .inr rfl
theorem plains_0 : Plains gN0 := fun ds S => by
  cases ds with
  | nil => exact .inl ⟨S, rfl⟩
  | cons d ds => exact .inr rfl
theorem plains_c {g : GT} {gs : GTs} (h1 : Plain g) (h2 : Plains gs) : Plains (gNC g gs) := fun ds S => by
  cases ds with
  | nil => exact .inr rfl
  | cons d ds =>
    show (∃ S', (match g d S with | .nx S1 => gs ds S1 | _ => .no) = .nx S') ∨ (match g d S with | .nx S1 => gs ds S1 | _ => .no) = .no
    rcases h1 d S with ⟨S1, e⟩ | e
    · rw [e]
      exact h2 ds S1
    · rw [e]
      exact .inr rfl
theorem plain_t {gs : GTs} (h : Plains gs) : Plain (gTp gs) := fun d S => by
  cases d with
  | tuple ds => exact h ds S
  | _ => exact .inr rfl
theorem s_asg {g : GT} {ts : List Nat} (hp : Plain g) (he : PE X e (xE X.K X.mg W C se)) (hg : PG X tg (xT X.K C g ts)) (hp2 : ∀ {t : TE} {u : TG}, PE X e t → PG X tg u → PS X (.Assign [tg] e pos) (tAsg t u)) : PS X (.Assign [tg] e pos) (xS X.K X.mg W C (sAsg g se)) :=
  ps_imp (hp2 he hg) fun D σ H ⟨ow, S, r, q⟩ => seqS r q fun S1 d v H1 r1 x1 rd k => sst_g hp r1 rd k
def loopL (g : GT) (b : SS) : List PyData → SS
  | [], S => .nx S
  | d :: ds, S => match g d S with
    | .nx S1 => match b S1 with
      | .nx S2 => loopL g b ds S2
      | .ct S2 => loopL g b ds S2
      | .bk S2 => .nx S2
      | r => r
    | r => r
def sFor (it : SN) (g : GT) (b : SS) : SS := fun S => (it S).st fun ds S1 => loopL g b ds S1
theorem s_for {body : List Stmt} {g : GT} {sb : SS} {it : SN} {ts : List Nat} (hp : PassesOwn (model X.prog X.w) X.A X.env X.xe) (hc : X.calm = true) (hpl : Plain g) (hi : PI X tg iter (xI X.K X.mg W C it)) (hg : PG X tg (xT X.K C g ts)) (hb : PSs X body (xS X.K X.mg W C sb))
    (hs : ∀ x, foldedSetIterable iter X.env x = pure x := by intro _; rfl) : PS X (.For tg iter body [] pos) (xS X.K X.mg W C (sFor it g sb)) :=
  ps_imp (ps_for hp hc hi hg hb hs) fun D σ H ⟨ow, S, r, q⟩ => seqS r q fun S1 ds J H1 r1 x1 id k => by
    refine ⟨fun i m σ2 H2 => m = ds.length - i ∧ i ≤ ds.length ∧ ∃ ow2 S2, Rl X.K C ow2 S2 σ2 H2 ∧ Ext (av C ow) H1 H2 ∧ Grow (av C ow) (av C ow2) H1 ∧ sst X.K X.mg W C ow2 H2 D (loopL g sb (ds.drop i) S2),
      ⟨ds.length, by omega, by omega, ow, S1, r1, Ext.refl _ _, Grow.refl _ _, k⟩, ?_⟩
    rintro i m σ2 H2 ⟨rfl, hi, ow2, S2, r2, x2, g2, k2⟩
    obtain ⟨w1, w2, w3⟩ := id (av C ow2) H2 x2 g2 rfl r2.tracked
    by_cases hlt : i < ds.length
    · refine .inr ⟨w1 i hlt, _, fun σ3 H3 z => ⟨ds.length - (i + 1), by omega, z⟩, fun v H3 y => ?_⟩
      have ed : ds[i]? = some ds[i] := List.getElem?_eq_getElem hlt
      obtain ⟨sm, rd⟩ := w3 i ds[i] v H3 ed y
      rw [List.drop_eq_getElem_cons hlt] at k2
      change sst X.K X.mg W C ow2 H2 D (match g ds[i] S2 with
        | .nx S1 => match sb S1 with
          | .nx S2 => loopL g sb (ds.drop (i + 1)) S2
          | .ct S2 => loopL g sb (ds.drop (i + 1)) S2
          | .bk S2 => .nx S2
          | r => r
        | r => r) at k2
      refine ⟨ow2, S2, ds[i], r2.same sm, rd, ?_⟩
      rcases hpl ds[i] S2 with ⟨S3, e⟩ | e
      · rw [e] at k2 ⊢
        intro σ3 H4 r3 x3 _
        have x23 : Ext (av C ow2) H2 H4 := (Ext.same sm).trans (Grow.refl _ _) x3
        have g23 : Grow (av C ow2) (av C ow2) H2 := Grow.refl _ _
        refine ⟨ow2, S3, r3, ?_⟩
        have k3 := sst_from x23 g23 k2
        change sst X.K X.mg W C ow2 H4 D (match sb S3 with
          | .nx S2 => loopL g sb (ds.drop (i + 1)) S2
          | .ct S2 => loopL g sb (ds.drop (i + 1)) S2
          | .bk S2 => .nx S2
          | r => r) at k3
        cases eb : sb S3 with
        | nx S4 =>
          rw [eb] at k3
          exact fun ow4 σ4 H5 r4 x4 g4 => ⟨rfl, hlt, ow4, S4, r4, (x2.trans g2 (x23.trans g23 x4)), g2.trans x2 (g23.trans x23 g4), sst_from x4 g4 k3⟩
        | ct S4 =>
          rw [eb] at k3
          exact fun ow4 σ4 H5 r4 x4 g4 => ⟨rfl, hlt, ow4, S4, r4, (x2.trans g2 (x23.trans g23 x4)), g2.trans x2 (g23.trans x23 g4), sst_from x4 g4 k3⟩
        | bk S4 => rw [eb] at k3; exact k3
        | rt v S4 => rw [eb] at k3; exact k3
        | ex c S4 => rw [eb] at k3; exact k3
        | no => rw [eb] at k3; exact k3
      · rw [e] at k2
        exact k2.elim
    · have e : i = ds.length := by omega
      subst e
      rw [List.drop_length] at k2
      exact .inl ⟨w2, k2 ow2 σ2 H2 r2 (Ext.refl _ _) (Grow.refl _ _)⟩
def loopW (c : STt) (b : SS) : Nat → SS
  | 0, _ => .no
  | n + 1, S => (c S).st fun t S1 => if t = true then match b S1 with
      | .nx S2 => loopW c b n S2
      | .ct S2 => loopW c b n S2
      | .bk S2 => .nx S2
      | r => r
    else .nx S1
theorem s_while {c : Expr} {body : List Stmt} {sc : STt} {sb : SS} (n : Nat) (hp : PassesOwn (model X.prog X.w) X.A X.env X.xe) (hc : PT X c (xB X.K X.mg W C sc)) (hb : PSs X body (xS X.K X.mg W C sb)) : PS X (.While c body [] pos) (xS X.K X.mg W C (loopW sc sb n)) :=
  ps_imp (ps_while hp hc hb) fun D σ H ⟨ow, S, r, q⟩ => by
    refine ⟨fun m σ2 H2 => ∃ ow2 S2, Rl X.K C ow2 S2 σ2 H2 ∧ sst X.K X.mg W C ow2 H2 D (loopW sc sb m S2), ⟨n, ow, S, r, q⟩, ?_⟩
    rintro m σ2 H2 ⟨ow2, S2, r2, k2⟩
    cases m with
    | zero => exact k2.elim
    | succ m =>
      refine seqS r2 k2 fun S3 t b H3 r3 x3 eb k3 => ?_
      cases eb
      cases t with
      | false => exact k3 ow2 σ2 H3 r3 (Ext.refl _ _) (Grow.refl _ _)
      | true =>
        refine ⟨_, fun σ3 H4 z => ⟨m, by omega, z⟩, ow2, S3, r3, ?_⟩
        change sst X.K X.mg W C ow2 H3 D (match sb S3 with
          | .nx S2 => loopW sc sb m S2
          | .ct S2 => loopW sc sb m S2
          | .bk S2 => .nx S2
          | r => r) at k3
        cases eb : sb S3 with
        | nx S4 =>
          rw [eb] at k3
          exact fun ow4 σ4 H5 r4 x4 g4 => ⟨ow4, S4, r4, sst_from x4 g4 k3⟩
        | ct S4 =>
          rw [eb] at k3
          exact fun ow4 σ4 H5 r4 x4 g4 => ⟨ow4, S4, r4, sst_from x4 g4 k3⟩
        | bk S4 => rw [eb] at k3; exact k3
        | rt v S4 => rw [eb] at k3; exact k3
        | ex c S4 => rw [eb] at k3; exact k3
        | no => rw [eb] at k3; exact k3
end
end Ds
end
section
set_option Elab.async false
set_option linter.all false
set_option maxRecDepth 100000
set_option maxHeartbeats 4000000
namespace Ds
open PySem PySem.Spec PyProof.Rows L2
/-- one more owned address -/
def Cn.plus (C : Cn) (p : Addr) (vs : List V) : Cn := ⟨fun a => C.A0 a ∨ a = p, upd C.H0 p (.lst vs), C.io, C.w⟩
section
variable {K : PySem.W.Frag} {C : Cn} {ow : Ow} {S S' : En} {σ : St} {H H' : Hp} {p : Addr} {us : List V}
theorem av_plus {a : Addr} : av (C.plus p us) ow a ↔ av C ow a ∨ a = p := by
  constructor
  · rintro ((h | h) | h)
    · exact .inl (.inl h)
    · exact .inr h
    · exact .inl (.inr h)
  · rintro ((h | h) | h)
    · exact .inl (.inl h)
    · exact .inr h
    · exact .inl (.inr h)
theorem grow_plus (hp : H p = none) : Grow (av C ow) (av (C.plus p us) ow) H := fun a h => (av_plus.mp h).imp id fun e => by rw [e]; exact hp
/-- a new list at p is kept aside -/
theorem Rl.plus (r : Rl K C ow S σ H) (hp : H p = none) (vs : List V) : Rl K (C.plus p vs) ow S σ (upd H p (.lst vs)) := by
  have sm : Same H (upd H p (.lst vs)) := same_new hp
  have f0 := r.fresh0 hp
  have n := r.fresh hp
  refine ⟨r.len, fun i d e => ?_, fun i ds e => ?_, r.ows, r.inj, fun i ds a h1 h2 => ?_, r.ios, fun i a e => ?_, fun a h => ?_, fun a o h1 h2 => ?_, r.ns.move r.ns.big (fun _ _ q => q) (fun _ _ => rfl) (fun _ _ _ _ => rfl) (fun _ a o _ _ q => sm a o q) (fun ws ds q => RDs.mono (Ext.same sm) (grow_plus hp) ds ws q) (fun j a _ q z => ?_)⟩
  · obtain ⟨v, h1, h2⟩ := r.val i d e
    exact ⟨v, h1, RD.mono (Ext.same sm) (grow_plus hp) d v h2⟩
  · obtain ⟨a, ws, h1, h2, h3, h4⟩ := r.own i ds e
    exact ⟨a, ws, h1, h2, sm a _ h3, RDs.mono (Ext.same sm) (grow_plus hp) ds ws h4⟩
  · obtain ⟨g1, g2⟩ := r.frs i ds a h1 h2
    have ne : a ≠ p := fun e => n (by rw [← e]; exact .inr ⟨i, h2⟩)
    refine ⟨?_, fun z => z.elim g2 ne⟩
    show upd C.H0 p (.lst vs) a = none
    rw [upd_ne ne]
    exact g1
  · obtain ⟨g1, g2⟩ := r.iok i a e
    exact ⟨.inl g1, g2⟩
  · rcases h with h | h
    · obtain ⟨o, e⟩ := r.trk a h
      exact ⟨o, sm a o e⟩
    · rw [h]; exact ⟨_, upd_same⟩
  · change upd C.H0 p (.lst vs) a = some o at h1
    by_cases e : a = p
    · rw [e, upd_same] at h1 ⊢
      exact h1
    · rw [upd_ne e] at h1
      exact sm a o (r.ext a o h1 h2)
  · have ne : a ≠ p := fun e => n (by rw [← e]; exact .inr ⟨j, q⟩)
    refine ⟨?_, fun w => w.elim z.2 ne⟩
    show upd C.H0 p (.lst vs) a = none
    rw [upd_ne ne]
    exact z.1
/-- its content -/
theorem Rl.at (r : Rl K (C.plus p us) ow S σ H) (hA : ¬ C.A0 p) (hio : ∀ i a, C.io i = some a → C.A0 a) : H p = some (.lst us) :=
  r.ext p _ (show upd C.H0 p (.lst us) p = _ from upd_same) fun i z => hA (hio i p z)
/-- it changes -/
theorem Rl.replus (r : Rl K (C.plus p us) ow S σ H) (hA : ¬ C.A0 p) (hio : ∀ i a, C.io i = some a → C.A0 a) (ws : List V) : Rl K (C.plus p ws) ow S σ (upd H p (.lst ws)) := by
  have ap : av (C.plus p us) ow p := .inl (.inr rfl)
  have x : Ext (av (C.plus p us) ow) H (upd H p (.lst ws)) := fun a o n e => by
    rw [upd_ne (show a ≠ p from fun z => n (by rw [z]; exact ap))]
    exact e
  have np : ∀ i ds, S[i]? = some (.own ds) → ow i ≠ some p := fun i ds h z => (r.frs i ds p h z).2 (.inr rfl)
  have np2 : ∀ i ds, own? S[i]? = some ds → ow i ≠ some p := fun i ds e z => by
    cases q : S[i]? with
    | none => rw [q] at e; cases e
    | some x =>
      rw [q] at e
      cases x with
      | own d => exact np i d q z
      | io d => exact hA (hio i p ((r.ios i d q).trans z))
      | nil => cases e
      | val d => cases e
      | nst d => cases e
      | pair d ds => cases e
  have np3 : ∀ i a, NstAt S i → ow i = some a → a ≠ p := fun i a h e z => (r.ns.frn i a h e).2 (by rw [z]; exact .inr rfl)
  refine ⟨r.len, fun i d e => ?_, fun i ds e => ?_, r.ows, r.inj, fun i ds a h1 h2 => ?_, r.ios, r.iok, fun a h => ?_, fun a o h1 h2 => ?_, r.ns.move r.ns.big (fun _ _ q => q) (fun _ _ => rfl) (fun _ _ _ _ => rfl) (fun j a o q e1 e2 => by rw [upd_ne (np3 j a q e1)]; exact e2) (fun ws' ds q => RDs.mono x (Grow.refl _ _) ds ws' q) (fun j a q e z => ⟨?_, z.2⟩)⟩
  · obtain ⟨v, h1, h2⟩ := r.val i d e
    exact ⟨v, h1, RD.mono x (Grow.refl _ _) d v h2⟩
  · obtain ⟨a, vs, h1, h2, h3, h4⟩ := r.own i ds e
    refine ⟨a, vs, h1, h2, ?_, RDs.mono x (Grow.refl _ _) ds vs h4⟩
    rw [upd_ne (show a ≠ p from fun z => np2 i ds e (by rw [h1, z]))]
    exact h3
  · obtain ⟨g1, g2⟩ := r.frs i ds a h1 h2
    refine ⟨?_, g2⟩
    have ne : a ≠ p := fun z => np i ds h1 (by rw [h2, z])
    change upd C.H0 p (.lst us) a = none at g1
    show upd C.H0 p (.lst ws) a = none
    rw [upd_ne ne] at g1 ⊢
    exact g1
  · by_cases e : a = p
    · rw [e]; exact ⟨_, upd_same⟩
    · rw [upd_ne e]; exact r.trk a h
  · change upd C.H0 p (.lst ws) a = some o at h1
    by_cases e : a = p
    · rw [e, upd_same] at h1 ⊢
      exact h1
    · rw [upd_ne e] at h1 ⊢
      exact r.ext a o (show upd C.H0 p (.lst us) a = some o by rw [upd_ne e]; exact h1) h2
  · have ne := np3 j a q e
    have z1 := z.1
    change upd C.H0 p (.lst us) a = none at z1
    show upd C.H0 p (.lst ws) a = none
    rw [upd_ne ne] at z1 ⊢
    exact z1
/-- it is forgotten -/
theorem Rl.minus (r : Rl K (C.plus p us) ow S σ H) (h0 : C.H0 p = none) (hA : ¬ C.A0 p) (hio : ∀ i a, C.io i = some a → C.A0 a) : Rl K C ow S σ (del H p) := by
  have ap : av (C.plus p us) ow p := .inl (.inr rfl)
  have lt : ∀ a, av C ow a → av (C.plus p us) ow a := fun a z => av_plus.mpr (.inl z)
  have np3 : ∀ i a, NstAt S i → ow i = some a → a ≠ p := fun i a h e z => (r.ns.frn i a h e).2 (by rw [z]; exact .inr rfl)
  have np : ∀ i, ow i ≠ some p := fun i z => by
    by_cases eN : NstAt S i
    · exact np3 i p eN z rfl
    obtain ⟨ds, e⟩ := (r.ows i p z).resolve_right eN
    cases q : S[i]? with
    | none => rw [q] at e; cases e
    | some x =>
      rw [q] at e
      cases x with
      | own d => exact (r.frs i d p q z).2 (.inr rfl)
      | io d => exact hA (hio i p ((r.ios i d q).trans z))
      | nil => cases e
      | val d => cases e
      | nst d => cases e
      | pair d ds => cases e
  refine ⟨r.len, fun i d e => ?_, fun i ds e => ?_, r.ows, r.inj, fun i ds a h1 h2 => ?_, r.ios, fun i a e => ?_, fun a h => ?_, fun a o h1 h2 => ?_, r.ns.move r.ns.big (fun _ _ q => q) (fun _ _ => rfl) (fun _ _ _ _ => rfl) (fun j a o q e1 e2 => by rw [del_ne (np3 j a q e1)]; exact e2) (fun ws' ds q => RDs.mono (ext_del ap) (fun a z => .inl (lt a z)) ds ws' q) (fun j a q e z => ⟨?_, fun w => z.2 (.inl w)⟩)⟩
  · obtain ⟨v, h1, h2⟩ := r.val i d e
    exact ⟨v, h1, RD.mono (ext_del ap) (fun a z => .inl (lt a z)) d v h2⟩
  · obtain ⟨a, ws, h1, h2, h3, h4⟩ := r.own i ds e
    refine ⟨a, ws, h1, h2, ?_, RDs.mono (ext_del ap) (fun a z => .inl (lt a z)) ds ws h4⟩
    rw [del_ne (show a ≠ p from fun z => np i (by rw [h1, z]))]
    exact h3
  · obtain ⟨g1, g2⟩ := r.frs i ds a h1 h2
    refine ⟨?_, fun z => g2 (.inl z)⟩
    have ne : a ≠ p := fun z => np i (by rw [h2, z])
    change upd C.H0 p (.lst us) a = none at g1
    rw [upd_ne ne] at g1
    exact g1
  · exact ⟨hio i a e, (r.iok i a e).2⟩
  · rw [del_ne (show a ≠ p from fun z => hA (by rw [← z]; exact h))]
    exact r.trk a (.inl h)
  · have ne : a ≠ p := fun z => by rw [z, h0] at h1; cases h1
    rw [del_ne ne]
    exact r.ext a o (show upd C.H0 p (.lst us) a = some o by rw [upd_ne ne]; exact h1) h2
  · have ne := np3 j a q e
    have z1 := z.1
    change upd C.H0 p (.lst us) a = none at z1
    rw [upd_ne ne] at z1
    exact z1
/-- a slot that owns nothing is emptied -/
theorem Rl.wipe1 (r : Rl K C ow S σ H) {i : Nat} (hi : own? S[i]? = none) (hn : nn S[i]? = true) : Rl K C ow (S.set i .nil) (σ.set i none) H := by
  have gs : ∀ j, j ≠ i → (S.set i .nil)[j]? = S[j]? := fun j e => List.getElem?_set_ne (Ne.symm e)
  have gσ : ∀ j, j ≠ i → (σ.set i none)[j]? = σ[j]? := fun j e => List.getElem?_set_ne (Ne.symm e)
  have gi : ∀ x, (S.set i .nil)[i]? = some x → x = .nil := fun x h => by
    by_cases hl : i < S.length
    · rw [List.getElem?_set_self hl] at h; cases h; rfl
    · rw [List.getElem?_eq_none (by rw [List.length_set]; omega)] at h; cases h
  have key : ∀ j, own? (S.set i .nil)[j]? = own? S[j]? := fun j => by
    by_cases hj : j = i
    · subst hj
      rw [hi]
      cases e : (S.set j .nil)[j]? with
      | none => rfl
      | some x => rw [gi x e]; rfl
    · rw [gs j hj]
  refine ⟨by rw [List.length_set, List.length_set]; exact r.len, fun j d e => ?_, fun j ds e => ?_, fun j a e => ?_, r.inj, fun j ds a h1 h2 => ?_, fun j ds e => ?_, fun j a e => ?_, r.trk, r.ext, r.ns.move (by rw [List.length_set]; exact r.ns.big) (fun _ _ q => (nst_set hn rfl).mp q) (fun _ _ => rfl) (fun j d q _ => gσ j fun z => by rw [← z, q] at hn; cases hn) (fun _ _ _ _ _ q => q) (fun _ _ q => q) (fun _ _ _ _ z => z)⟩
  · by_cases hj : j = i
    · subst hj; have := gi _ e; cases this
    · rw [gs j hj] at e
      rw [gσ j hj]
      exact r.val j d e
  · rw [key j] at e
    obtain ⟨a, vs, h1, h2, h3, h4⟩ := r.own j ds e
    refine ⟨a, vs, h1, ?_, h3, h4⟩
    rw [gσ j fun z => by rw [z, hi] at e; cases e]
    exact h2
  · rw [key j]; exact (r.ows j a e).imp id fun z => z.of fun _ _ q => (nst_set hn rfl).mpr q
  · by_cases hj : j = i
    · subst hj; have := gi _ h1; cases this
    · rw [gs j hj] at h1
      exact r.frs j ds a h1 h2
  · by_cases hj : j = i
    · subst hj; have := gi _ e; cases this
    · rw [gs j hj] at e
      exact r.ios j ds e
  · obtain ⟨h1, ds, h2⟩ := r.iok j a e
    refine ⟨h1, ds, ?_⟩
    rw [gs j fun z => by rw [← z, h2] at hi; cases hi]
    exact h2
def wipeS : List Nat → En → En
  | [], S => S
  | v :: vs, S => (wipeS vs S).set v .nil
theorem wipeS_own {vs : List Nat} (h : ∀ v ∈ vs, own? S[v]? = none) : ∀ j : Nat, own? (wipeS vs S)[j]? = own? S[j]? := by
  induction vs with
  | nil => exact fun _ => rfl
  | cons v vs ih =>
    intro j
    have ih := ih fun w hw => h w (List.mem_cons_of_mem _ hw)
    show own? ((wipeS vs S).set v .nil)[j]? = own? S[j]?
    by_cases hj : v = j
    · subst hj
      rw [h v List.mem_cons_self]
      by_cases hl : v < (wipeS vs S).length
      · rw [List.getElem?_set_self hl]; rfl
      · rw [List.getElem?_eq_none (by rw [List.length_set]; omega)]; rfl
    · rw [List.getElem?_set_ne hj, ih]
theorem wipeS_nn {vs : List Nat} (h : ∀ v ∈ vs, nn S[v]? = true) : ∀ j : Nat, nn S[j]? = true → nn (wipeS vs S)[j]? = true := by
  induction vs with
  | nil => exact fun _ h => h
  | cons v vs ih =>
    intro j hj
    have ih := ih (fun w hw => h w (List.mem_cons_of_mem _ hw)) j hj
    show nn ((wipeS vs S).set v .nil)[j]? = true
    by_cases e : v = j
    · subst e
      by_cases hl : v < (wipeS vs S).length
      · rw [List.getElem?_set_self hl]; rfl
      · rw [List.getElem?_eq_none (by rw [List.length_set]; omega)]; rfl
    · rw [List.getElem?_set_ne e]; exact ih
theorem Rl.wipe (r : Rl K C ow S σ H) : ∀ {vs : List Nat}, (∀ v ∈ vs, own? S[v]? = none ∧ nn S[v]? = true) → Rl K C ow (wipeS vs S) (L2.wipe σ vs) H
  | [], _ => r
  | v :: vs, h => (Rl.wipe r fun w hw => h w (List.mem_cons_of_mem _ hw)).wipe1 (by rw [wipeS_own fun w hw => (h w (List.mem_cons_of_mem _ hw)).1]; exact (h v List.mem_cons_self).1) (wipeS_nn (fun w hw => (h w (List.mem_cons_of_mem _ hw)).2) v (h v List.mem_cons_self).2)
theorem Rl.quiet {C' : Cn} {S4 : En} {σ4 : St} {H4 : Hp} {w : Nat} (r : Rl K C ow S σ H) (h : own? S[w]? = none ∧ nn S[w]? = true) (r5 : Rl K C' ow S4 σ4 H4) : own? S4[w]? = none ∧ nn S4[w]? = true := by
  by_cases hw : w < 4096
  · have on := r.owNone h.1 h.2 hw
    refine ⟨?_, ?_⟩
    · cases e : own? S4[w]? with
      | none => rfl
      | some ds =>
        obtain ⟨a, _, h1, _⟩ := r5.own w ds e
        rw [on] at h1; cases h1
    · cases e : S4[w]? with
      | none => rfl
      | some x =>
        cases x with
        | nst d =>
          obtain ⟨a, h1, _⟩ := r5.ns.slot e
          rw [on] at h1; cases h1
        | _ => rfl
  · have := r5.ns.big
    rw [List.getElem?_eq_none (by omega)]
    exact ⟨rfl, rfl⟩
theorem Rl.wiped {vs : List Nat} {w : Nat} (r : Rl K C ow S (L2.wipe σ vs) H) (hw : (L2.wipe σ vs)[w]? = none ∨ (L2.wipe σ vs)[w]? = some none) : own? S[w]? = none ∧ nn S[w]? = true := by
  refine ⟨?_, ?_⟩
  · cases e : own? S[w]? with
    | none => rfl
    | some ds =>
      obtain ⟨a, _, _, h1, _⟩ := r.own w ds e
      rcases hw with hw | hw <;> rw [hw] at h1 <;> cases h1
  · cases e : S[w]? with
    | none => rfl
    | some x =>
      cases x with
      | nst d =>
        obtain ⟨a, _, h1⟩ := r.ns.slot e
        rcases hw with hw | hw <;> rw [hw] at h1 <;> cases h1
      | _ => rfl
/-- the slots vs as they were in S0 -/
def unwipe : List Nat → En → En → En
  | [], _, S => S
  | v :: vs, S0, S => match S0[v]? with
    | some x => (unwipe vs S0 S).set v x
    | none => unwipe vs S0 S
theorem unwipe_len : ∀ {vs : List Nat} {S0 S : En}, (unwipe vs S0 S).length = S.length
  | [], _, _ => rfl
  | v :: vs, S0, S => by
    unfold unwipe
    split
    · rw [List.length_set, unwipe_len]
    · exact unwipe_len
theorem unwipe_get : ∀ {vs : List Nat} {S0 S : En}, S0.length = S.length → ∀ j, (unwipe vs S0 S)[j]? = if j ∈ vs then S0[j]? else S[j]?
  | [], _, _, _, j => by rw [if_neg (by simp)]; rfl
  | v :: vs, S0, S, hl, j => by
    have ih := unwipe_get (vs := vs) hl
    unfold unwipe
    by_cases hj : v = j
    · subst hj
      rw [if_pos List.mem_cons_self]
      split
      · rename_i x e
        have := (List.getElem?_eq_some_iff.mp e).1
        rw [List.getElem?_set_self (by rw [unwipe_len]; omega), e]
      · rename_i e
        rw [ih v]
        have h1 := List.getElem?_eq_none_iff.mp e
        have h2 : S[v]? = none := List.getElem?_eq_none_iff.mpr (by omega)
        split <;> simp [e, h2]
    · have : ∀ T : En, (if j ∈ v :: vs then S0[j]? else S[j]?) = if j ∈ vs then S0[j]? else S[j]? := fun _ => by
        have : j ∈ v :: vs ↔ j ∈ vs := by
          rw [List.mem_cons]
          exact ⟨fun z => z.elim (fun z => absurd z.symm hj) id, .inr⟩
        simp only [this]
      rw [this S]
      split
      · rw [List.getElem?_set_ne hj, ih j]
      · exact ih j
theorem Rl.unwipe {C2 : Cn} {S0 : En} {H0 : Hp} {vs : List Nat} (r : Rl K C2 ow S (L2.wipe σ vs) H) (r0 : Rl K C ow S0 σ H0) (x : Ext (av C ow) H0 H) (gw : Grow (av C ow) (av C2 ow) H0) (h0' : ∀ v ∈ vs, own? S0[v]? = none ∧ nn S0[v]? = true) (hcw : C2.w = C.w := by first | rfl | assumption) : Rl K C2 ow (Ds.unwipe vs S0 S) σ H := by
  have hl : S0.length = S.length := by rw [r0.len, r.len, wipe_length]
  have g := unwipe_get (vs := vs) hl
  have h0 : ∀ v ∈ vs, own? S0[v]? = none := fun v hv => (h0' v hv).1
  have nS : ∀ v ∈ vs, own? S[v]? = none := fun v hv => (r0.quiet (h0' v hv) r).1
  have nN : ∀ (j : Nat) dss, (Ds.unwipe vs S0 S)[j]? = some (.nst dss) ↔ S[j]? = some (.nst dss) := fun j dss => by
    rw [g j]
    by_cases hj : j ∈ vs
    · rw [if_pos hj]
      have h1 := (h0' j hj).2
      have h2 := (r0.quiet (h0' j hj) r).2
      constructor
      · intro z; rw [z] at h1; cases h1
      · intro z; rw [z] at h2; cases h2
    · rw [if_neg hj]
  have key : ∀ j, own? (Ds.unwipe vs S0 S)[j]? = own? S[j]? := fun j => by
    rw [g j]
    by_cases hj : j ∈ vs
    · rw [if_pos hj, h0 j hj, nS j hj]
    · rw [if_neg hj]
  refine ⟨by rw [unwipe_len, r.len, wipe_length], fun j d e => ?_, fun j ds e => ?_, fun j a e => ?_, r.inj, fun j ds a h1 h2 => ?_, fun j ds e => ?_, fun j a e => ?_, r.trk, r.ext, r.ns.move (by rw [unwipe_len]; exact r.ns.big) (fun j d q => (nN j d).mp q) (fun _ _ => rfl) (fun j d q _ => ?_) (fun _ _ _ _ _ q => q) (fun _ _ q => q) (fun _ _ _ _ z => z)⟩
  · rw [g j] at e
    by_cases hj : j ∈ vs
    · rw [if_pos hj] at e
      obtain ⟨v, h1, h2⟩ := r0.val j d e
      exact ⟨v, h1, RD.mono x gw d v h2⟩
    · rw [if_neg hj] at e
      obtain ⟨v, h1, h2⟩ := r.val j d e
      exact ⟨v, (wipe_some h1).1, h2⟩
  · rw [key j] at e
    obtain ⟨a, ws, h1, h2, h3, h4⟩ := r.own j ds e
    exact ⟨a, ws, h1, (wipe_some h2).1, h3, h4⟩
  · rw [key j]; exact (r.ows j a e).imp id fun z => z.of fun j d q => (nN j d).mpr q
  · rw [g j] at h1
    by_cases hj : j ∈ vs
    · rw [if_pos hj] at h1
      have := h0 j hj
      rw [h1] at this; cases this
    · rw [if_neg hj] at h1
      exact r.frs j ds a h1 h2
  · have e' := e
    rw [g j] at e
    by_cases hj : j ∈ vs
    · rw [if_pos hj] at e
      have := h0 j hj
      rw [e] at this; cases this
    · rw [if_neg hj] at e
      exact r.ios j ds e
  · obtain ⟨h1, ds, h2⟩ := r.iok j a e
    refine ⟨h1, ds, ?_⟩
    rw [g j, if_neg fun hj => ?_]
    · exact h2
    · have := nS j hj
      rw [h2] at this; cases this
  · obtain ⟨a, _, h1⟩ := r.ns.slot q
    rw [h1, (wipe_some h1).1]
end
def lcL (g : GT) (t : STt) (e : SE) (vs : List Nat) : List PyData → En → R (List PyData)
  | [], S => .ok [] S
  | d :: ds, S => match g d S with
    | .nx S2 => (t S2).bind fun b S3 => if b = true then (e S3).bind fun y S4 => (lcL g t e vs ds (wipeS vs S4)).bind fun ys S5 => .ok (y :: ys) S5 else lcL g t e vs ds (wipeS vs S3)
    | _ => .no
def noEx {α : Type} (x : R α) : R α := match x with
  | .ok a S => .ok a S
  | _ => .no
@[simp] theorem noEx_ok {α : Type} (a : α) (S : En) : noEx (.ok a S) = .ok a S := rfl
def sLc (it : SN) (g : GT) (t : STt) (e : SE) (vs : List Nat) : SN := fun S => (it S).bind fun ds S1 =>
  if (vs.all fun v => (own? S1[v]?).isNone && nn S1[v]?) = true ∧ ds.length < sizeLine then (noEx (lcL g t e vs ds (wipeS vs S1))).bind fun ys S2 => .ok ys (unwipe vs S1 S2) else .no
def sYes : STt := fun S => .ok true S
abbrev W0 : WX := fun _ _ _ _ => False
section
variable {X : Cx} {W : WX} {C : Cn} {elt tg iter : Expr} {ifs : List Expr} {pos : Pos} {it : SN} {g : GT} {t : STt} {se : SE} {vs : List Nat}
theorem ts_nil : PTs X [] (xB X.K X.mg W C sYes) := ⟨fun pins s σ H Q I ⟨ow, S, r, q⟩ => pts_nil.run pins s σ H Q I (pst_ok (mg := X.mg) (W := W) (rel := relB) (d := true) r q rfl)⟩
theorem ts_one {c : Expr} (h : PT X c (xB X.K X.mg W C t)) : PTs X [c] (xB X.K X.mg W C t) := pts_one h
theorem wipe_get : ∀ {vs : List Nat} {σ : St} (j : Nat), (L2.wipe σ vs)[j]? = if j ∈ vs then (σ[j]?).map (fun _ => none) else σ[j]?
  | [], σ, j => by rw [if_neg (by simp)]; rfl
  | v :: vs, σ, j => by
    have ih := wipe_get (vs := vs) (σ := σ) j
    show ((L2.wipe σ vs).set v none)[j]? = _
    by_cases hj : v = j
    · subst hj
      rw [if_pos List.mem_cons_self]
      by_cases hl : v < (L2.wipe σ vs).length
      · have hl' : v < σ.length := by rw [← wipe_length σ vs]; exact hl
        rw [List.getElem?_set_self hl, List.getElem?_eq_getElem hl']
        rfl
      · have hl' : ¬ v < σ.length := by rw [← wipe_length σ vs]; exact hl
        rw [List.getElem?_eq_none (by rw [List.length_set]; omega), List.getElem?_eq_none (by omega)]
        rfl
    · rw [List.getElem?_set_ne hj, ih]
      have : j ∈ v :: vs ↔ j ∈ vs := by
        rw [List.mem_cons]
        exact ⟨fun z => z.elim (fun z => absurd z.symm hj) id, .inr⟩
      simp only [this]
theorem wipe_eq {vs : List Nat} {σ σ' : St} (hl : σ'.length = σ.length) (h : ∀ j, j ∉ vs → σ'[j]? = (L2.wipe σ vs)[j]?) : L2.wipe σ' vs = L2.wipe σ vs := by
  apply List.ext_getElem?
  intro j
  rw [wipe_get j]
  by_cases hj : j ∈ vs
  · rw [if_pos hj, wipe_get j, if_pos hj]
    by_cases h1 : j < σ.length
    · rw [List.getElem?_eq_getElem h1, List.getElem?_eq_getElem (by omega : j < σ'.length)]
      rfl
    · rw [List.getElem?_eq_none (by omega : σ.length ≤ j), List.getElem?_eq_none (by omega : σ'.length ≤ j)]
  · rw [if_neg hj]
    exact h j hj
/-- the loop of a comprehension -/
def tLcP (P : Hp → Prop) (wi : TI) (g : TG) (tt : TT) (te : TE) (vs : List Nat) : TE := fun σ H Q => wi σ H fun J H1 => ∀ D, H1 D = none →
  ∃ W : Nat → Nat → Hp → Prop, (∃ m, W 0 m (upd H1 D (.lst []))) ∧ ∀ i m H, W i m H → P H ∧
    ((J.stop i H ∧ Q (.ref D) H) ∨ (J.go i H ∧ ∃ Nx : Hp → Prop, (∀ H', Nx H' → ∃ m', m' < m ∧ W (i + 1) m' H') ∧ ∀ x H', J.yld i H x H' →
      g x (wipe σ vs) H' fun σ2 H2 => wipe σ2 vs = wipe σ vs ∧ tt σ2 H2 fun b H3 =>
        if b = true then te σ2 H3 fun y H4 => ∃ acc, H4 D = some (.lst acc) ∧ acc.length < sizeLine ∧ Nx (upd H4 D (.lst (acc ++ [y]))) else Nx H3))
theorem lc_finP {σ : St} {H : Hp} {Q : VK} {K : PySem.W.Frag} {mg : Str → Option Value} {ts : List Nat} {Pr : Hp → Prop} (hpl : Plain g) (hts : ∀ j ∈ ts, j ∈ vs)
    (hPr : ∀ {ow : Ow} {T : En} {σ2 : St} {H1 H2 : Hp} {S1 : En} {D : Addr} {acc : List V}, Rl K C ow S1 σ H1 → H1 D = none → Rl K (C.plus D acc) ow T σ2 H2 → Pr H2) (h : xN K mg W C (sLc it g t se vs) σ H Q) :
    tLcP Pr (xI K mg W C it) (fun v σ' H' Q' => ∃ C' : CnW C, xT K C' g ts v σ' H' Q') (fun σ' H' Q' => ∃ C' : CnW C, xB K mg W0 C' t σ' H' Q') (fun σ' H' Q' => ∃ C' : CnW C, xE K mg W0 C' se σ' H' Q') vs σ H Q := by
  obtain ⟨ow, S, r, q⟩ := h
  change pst K mg W C (relN K) ow σ H Q (sLc it g t se vs S) at q
  unfold sLc at q
  refine ⟨ow, S, r, ?_⟩
  show pst K mg W C (relI K) ow σ H _ (it S)
  cases e0 : it S with
  | no => rw [e0] at q; exact q
  | ex c S' => rw [e0] at q; exact q
  | ok ds S1 =>
    rw [e0, bind_ok] at q
    intro J H1 r1 x1 id D hD
    by_cases z : (vs.all fun v => (own? S1[v]?).isNone && nn S1[v]?) = true ∧ ds.length < sizeLine
    · rw [if_pos z] at q
      have hv : ∀ v ∈ vs, own? S1[v]? = none ∧ nn S1[v]? = true := fun v hv => by
        have w := List.all_eq_true.mp z.1 v hv
        rw [Bool.and_eq_true] at w
        exact ⟨Option.isNone_iff_eq_none.mp w.1, w.2⟩
      have wz : ∀ w ∈ vs, (L2.wipe σ vs)[w]? = none ∨ (L2.wipe σ vs)[w]? = some none := fun w hw => by
        rw [wipe_get w, if_pos hw]
        cases σ[w]? with
        | none => exact .inl rfl
        | some o => exact .inr rfl
      have f0 := r1.fresh0 hD
      have hio : ∀ i a, C.io i = some a → C.A0 a := fun i a e => (r1.iok i a e).1
      have nD : ¬ av C ow D := r1.fresh hD
      cases eL : lcL g t se vs ds (wipeS vs S1) with
      | no => rw [eL] at q; exact q.elim
      | ex c S' => rw [eL] at q; exact q.elim
      | ok zs S2 =>
        rw [eL, noEx_ok, bind_ok] at q
        refine ⟨fun i m H2 => m = ds.length - i ∧ i ≤ ds.length ∧ ∃ T acc ys us, Rl K (C.plus D acc) ow T (wipe σ vs) H2 ∧ Ext (av C ow) H1 (del H2 D) ∧ H2 D = some (.lst acc) ∧ RDs K (av (C.plus D acc) ow) H2 acc ys ∧ acc.length ≤ i ∧ lcL g t se vs (ds.drop i) T = .ok us S2 ∧ ys ++ us = zs,
          ⟨ds.length, by omega, by omega, wipeS vs S1, [], [], zs, (r1.plus hD []).wipe hv, fun a o n e => ?_, upd_same, .nil, Nat.le_refl _, eL, rfl⟩, ?_⟩
        · have ne : a ≠ D := fun w => by rw [w, hD] at e; cases e
          rw [del_ne ne, upd_ne ne]
          exact e
        rintro i m H2 ⟨rfl, hi, T, acc, ys, us, r2, x2, hacc, rds, hlen, eT, eys⟩
        refine ⟨hPr r1 hD r2, ?_⟩
        have xD : ∀ {A B : Hp}, Ext (av C ow) A (del B D) → Ext (av C ow) A B := fun {A B} x a o n e => by
          have w := x a o n e
          by_cases ne : a = D
          · rw [ne, del_same] at w; cases w
          · rw [del_ne ne] at w; exact w
        obtain ⟨w1, w2, w3⟩ := id (av (C.plus D acc) ow) H2 (xD x2) (grow_plus hD) rfl r2.tracked
        by_cases hlt : i < ds.length
        · refine .inr ⟨w1 i hlt, _, fun H3 z => ⟨ds.length - (i + 1), by omega, z⟩, fun v H3 y => ?_⟩
          have ed : ds[i]? = some ds[i] := List.getElem?_eq_getElem hlt
          obtain ⟨sm, rd⟩ := w3 i ds[i] v H3 ed y
          rw [List.drop_eq_getElem_cons hlt] at eT
          change (match g ds[i] T with
            | .nx S2 => (t S2).bind fun b S3 => if b = true then (se S3).bind fun y S4 => (lcL g t se vs (ds.drop (i + 1)) (wipeS vs S4)).bind fun ys S5 => .ok (y :: ys) S5 else lcL g t se vs (ds.drop (i + 1)) (wipeS vs S3)
            | _ => .no) = .ok us S2 at eT
          refine ⟨⟨C.plus D acc, rfl⟩, ow, T, ds[i], r2.same sm, rd, ?_⟩
          rcases hpl ds[i] T with ⟨S3, e⟩ | e
          · rw [e] at eT ⊢
            simp only at eT
            intro σ3 H4 r3 x3 c3
            have ew : L2.wipe σ3 vs = L2.wipe σ vs := wipe_eq (c3.1.trans (wipe_length σ vs)) fun j hj => c3.2 j fun w => hj (hts j w)
            refine ⟨ew, ⟨C.plus D acc, rfl⟩, ow, S3, r3, ?_⟩
            -- what stays
            have xx : ∀ {B : Hp}, Ext (av (C.plus D acc) ow) H4 B → Ext (av C ow) H1 (del B D) := fun {B} x a o n e => by
              have e2 := x2 a o n e
              have ne : a ≠ D := fun w => by rw [w, hD] at e; cases e
              rw [del_ne ne] at e2 ⊢
              have nn : ¬ av (C.plus D acc) ow a := fun w => (av_plus.mp w).elim n ne
              exact x a o nn (x3 a o nn (sm a o e2))
            show pst K mg W0 (C.plus D acc) relB ow σ3 H4 _ (t S3)
            cases et : t S3 with
            | no => rw [et] at eT; cases eT
            | ex c S' => rw [et] at eT; cases eT
            | ok b S4 =>
              rw [et, bind_ok] at eT
              intro b' H5 r5 x5 eb
              have eb' : b' = b := eb
              subst eb'
              have r5w := r5.wipe (vs := vs) fun w hw => r2.quiet (r2.wiped (wz w hw)) r5
              rw [ew] at r5w
              have sA : Ext (av (C.plus D acc) ow) H2 H5 := (Ext.same sm).trans (Grow.refl _ _) (x3.trans (Grow.refl _ _) x5)
              cases b' with
              | false => exact iteF ⟨rfl, hlt, wipeS vs S4, acc, ys, us, r5w, xx x5, r5.at f0.2 hio, RDs.mono sA (Grow.refl _ _) ys acc rds, by omega, eT, eys⟩
              | true =>
                refine iteT ⟨⟨C.plus D acc, rfl⟩, ow, S4, r5, ?_⟩
                show pst K mg W0 (C.plus D acc) (relE K) ow σ3 H5 _ (se S4)
                simp only [if_true] at eT
                cases es : se S4 with
                | no => rw [es] at eT; cases eT
                | ex c S' => rw [es] at eT; cases eT
                | ok yd S6 =>
                  rw [es, bind_ok] at eT
                  intro yv H6 r6 x6 ry
                  cases eR : lcL g t se vs (ds.drop (i + 1)) (wipeS vs S6) with
                  | no => rw [eR] at eT; cases eT
                  | ex c S' => rw [eR] at eT; cases eT
                  | ok us' S7 =>
                    rw [eR, bind_ok] at eT
                    cases eT
                    have r6w := r6.wipe (vs := vs) fun w hw => r5w.quiet (r5w.wiped (wz w hw)) r6
                    rw [ew] at r6w
                    have rp := r6w.replus f0.2 hio (acc ++ [yv])
                    have nx : Ext (av (C.plus D acc) ow) H6 (upd H6 D (.lst (acc ++ [yv]))) := fun a o n e => by
                      rw [upd_ne (show a ≠ D from fun w => n (by rw [w]; exact .inl (.inr rfl)))]
                      exact e
                    refine ⟨acc, r6.at f0.2 hio, by omega, rfl, hlt, wipeS vs S6, acc ++ [yv], ys ++ [yd], us', rp, xx ((x5.trans (Grow.refl _ _) x6).trans (Grow.refl _ _) nx), upd_same, ?_, by rw [List.length_append, List.length_singleton]; omega, eR, by rw [List.append_assoc]; exact eys⟩
                    have q1 := RDs.mono ((sA.trans (Grow.refl _ _) x6).trans (Grow.refl _ _) nx) (Grow.refl _ _) ys acc rds
                    exact q1.append (.cons (RD.mono nx (Grow.refl _ _) yd yv ry) .nil)
          · rw [e] at eT
            cases eT
        · have e : i = ds.length := by omega
          subst e
          rw [List.drop_length] at eT
          cases eT
          rw [List.append_nil] at eys
          subst eys
          refine .inl ⟨w2, ?_⟩
          have rm := r2.minus f0.1 f0.2 hio
          have r0 := rm.unwipe r1 x2 (Grow.refl _ _) hv
          have rds' := RDs.mono (ext_del (H := H2) (av := av (C.plus D acc) ow) (.inl (.inr rfl))) (fun a w => .inl (av_plus.mpr (.inl w))) ys acc rds
          have e2 : H2 = upd (del H2 D) D (.lst acc) := (upd_del hacc).symm
          rw [e2]
          exact q _ _ (r0.same (same_new del_same)) ((x1.trans (Grow.refl _ _) x2).trans (Grow.refl _ _) (Ext.same (same_new del_same))) ⟨D, acc, del H2 D, rfl, del_same, rfl, x1.trans (Grow.refl _ _) x2, r0, rds'⟩
    · rw [if_neg z] at q
      exact q.elim
theorem lc_fin {σ : St} {H : Hp} {Q : VK} {K : PySem.W.Frag} {mg : Str → Option Value} {ts : List Nat} (hpl : Plain g) (hts : ∀ j ∈ ts, j ∈ vs) (h : xN K mg W C (sLc it g t se vs) σ H Q) :
    tLc (xI K mg W C it) (fun v σ' H' Q' => ∃ C' : CnW C, xT K C' g ts v σ' H' Q') (fun σ' H' Q' => ∃ C' : CnW C, xB K mg W0 C' t σ' H' Q') (fun σ' H' Q' => ∃ C' : CnW C, xE K mg W0 C' se σ' H' Q') vs σ H Q := by
  have w := lc_finP (Pr := fun _ => True) hpl hts (fun _ _ _ => trivial) h
  obtain ⟨ow, S, r, q⟩ := w
  refine ⟨ow, S, r, pst_imp q fun J H1 q2 D hD => ?_⟩
  obtain ⟨Wv, h0, hs⟩ := q2 D hD
  exact ⟨Wv, h0, fun i m H3 w => (hs i m H3 w).2⟩
end
end Ds
end
section
set_option Elab.async false
set_option linter.all false
set_option maxRecDepth 100000
set_option maxHeartbeats 4000000
namespace Ds
open PySem PySem.Spec PyProof.Rows L2
section
variable {X : Cx} {W : WX} {C : Cn} {elt tg iter e : Expr} {ifs : List Expr} {pos : Pos} {it sn : SN} {g : GT} {t : STt} {se : SE} {vs ts : List Nat} {scope : Scope} {own : List (Str × Nat)} {i : Nat}
theorem n_lc (hc : X.calm = true) (hN : X.N.Nodup) (hpl : Plain g) (hts : ∀ j ∈ ts, j ∈ own.map (·.2)) (hi : PI X tg iter (xI X.K X.mg W C it)) (ok : BlkOk X.N X.env.scope scope own)
    (hg : ∀ (s : Shared) (H : Hp) (A : Addr) (cl : List (Str × Addr)) (fp : List Addr) (C' : CnW C), PG (X.blk s H scope (compEnvC scope cl A X.env) fp) tg (xT X.K C' g ts))
    (ht : ∀ (s : Shared) (H : Hp) (A : Addr) (cl : List (Str × Addr)) (fp : List Addr) (C' : CnW C), PTs (X.blk s H scope (compEnvC scope cl A X.env) fp) ifs (xB X.K X.mg W0 C' t))
    (he : ∀ (s : Shared) (H : Hp) (A : Addr) (cl : List (Str × Addr)) (fp : List Addr) (C' : CnW C), PE (X.blk s H scope (compEnvC scope cl A X.env) fp) elt (xE X.K X.mg W0 C' se))
    (hs : ∀ x, foldedSetIterable iter X.env x = pure x := by intro _; rfl) : PE X (.ListComp elt [⟨tg, iter, ifs, 0⟩] scope pos) (xN X.K X.mg W C (sLc it g t se (own.map (·.2)))) :=
  pe_imp (pe_lc (g := fun v σ' H' Q' => ∃ C' : CnW C, xT X.K C' g ts v σ' H' Q') (tt := fun σ' H' Q' => ∃ C' : CnW C, xB X.K X.mg W0 C' t σ' H' Q') (te := fun σ' H' Q' => ∃ C' : CnW C, xE X.K X.mg W0 C' se σ' H' Q') hc hN hi ok
    (fun s H A cl fp => ⟨fun pins s' σ H' v u Q I r ⟨C', q⟩ => (hg s H A cl fp C').run pins s' σ H' v u Q I r q⟩)
    (fun s H A cl fp => ⟨fun pins s' σ H' Q I ⟨C', q⟩ => (ht s H A cl fp C').run pins s' σ H' Q I q⟩)
    (fun s H A cl fp => ⟨fun pins s' σ H' Q I ⟨C', q⟩ => (he s H A cl fp C').run pins s' σ H' Q I q⟩) hs) fun σ H Q h => lc_fin hpl hts h
theorem asgN {σ : St} {H : Hp} {D : Ends} (h : xS X.K X.mg W C (sSetNew i sn) D σ H) : xN X.K X.mg W C sn σ H fun v H1 => D.nx (σ.set i (some v)) H1 := by
  obtain ⟨ow, S, r, q⟩ := h
  change sst X.K X.mg W C ow H D ((sn S).st fun ds S' => put i (.own ds) S') at q
  refine ⟨ow, S, r, ?_⟩
  show pst X.K X.mg W C (relN X.K) ow σ H _ (sn S)
  cases e : sn S with
  | no => rw [e] at q; exact q
  | ex c S' => rw [e] at q; exact fun H' r' x => q ow σ H' r' x (Grow.refl _ _)
  | ok ds S' =>
    rw [e] at q
    exact fun v H' r' x rd => put_new rd q
section
variable {y : Str} {py spos : Pos}
theorem lc_set {P : TS} (hc : X.calm = true) (hN : X.N.Nodup) (hy : X.N[i]? = some y) (hyl : X.env.scope.names.lookup y = some .local) (hsw : swapsWith (.ListComp elt [⟨tg, iter, ifs, 0⟩] scope pos) (some (.Name y py)) spos.line X.env = pure true)
    (hpl : Plain g) (hts : ∀ j ∈ ts, j ∈ own.map (·.2)) (hi : PI X tg iter (xI X.K X.mg W C it)) (ok : BlkOk X.N X.env.scope scope own)
    (hg : ∀ (s : Shared) (H : Hp) (A : Addr) (cl : List (Str × Addr)) (fp : List Addr) (C' : CnW C), PG (X.blk s H scope (compEnvC scope cl A X.env) fp) tg (xT X.K C' g ts))
    (ht : ∀ (s : Shared) (H : Hp) (A : Addr) (cl : List (Str × Addr)) (fp : List Addr) (C' : CnW C), PTs (X.blk s H scope (compEnvC scope cl A X.env) fp) ifs (xB X.K X.mg W0 C' t))
    (he : ∀ (s : Shared) (H : Hp) (A : Addr) (cl : List (Str × Addr)) (fp : List Addr) (C' : CnW C), PE (X.blk s H scope (compEnvC scope cl A X.env) fp) elt (xE X.K X.mg W0 C' se))
    (hsn : ∀ D σ H, P D σ H → xN X.K X.mg W C (sLc it g t se (own.map (·.2))) σ H fun v H1 => D.nx (σ.set i (some v)) H1)
    (hs : ∀ x, foldedSetIterable iter X.env x = pure x := by intro _; rfl) : PS X (.Assign [.Name y py] (.ListComp elt [⟨tg, iter, ifs, 0⟩] scope pos) spos) P :=
  ps_imp (ps_setLc (g := fun v σ' H' Q' => ∃ C' : CnW C, xT X.K C' g ts v σ' H' Q') (tt := fun σ' H' Q' => ∃ C' : CnW C, xB X.K X.mg W0 C' t σ' H' Q') (te := fun σ' H' Q' => ∃ C' : CnW C, xE X.K X.mg W0 C' se σ' H' Q') hc hN hy hyl hsw hi ok
    (fun s H A cl fp => ⟨fun pins s' σ H' v u Q I r ⟨C', q⟩ => (hg s H A cl fp C').run pins s' σ H' v u Q I r q⟩)
    (fun s H A cl fp => ⟨fun pins s' σ H' Q I ⟨C', q⟩ => (ht s H A cl fp C').run pins s' σ H' Q I q⟩)
    (fun s H A cl fp => ⟨fun pins s' σ H' Q I ⟨C', q⟩ => (he s H A cl fp C').run pins s' σ H' Q I q⟩) hs) fun D σ H h => lc_fin hpl hts (hsn D σ H h)
end
theorem Rl.freeze {K : PySem.W.Frag} {ow : Ow} {S : En} {σ : St} {H : Hp} (r : Rl K C ow S σ H) {ds : List PyData} (hi : S[i]? = some (.own ds)) : ∃ ow', Rl K C ow' (S.set i (.val (.list ds))) σ H ∧ Grow (av C ow) (av C ow') H := by
  obtain ⟨p, vs, h1, h2, h3, h4⟩ := r.own i ds (by rw [hi]; rfl)
  have hl : i < S.length := (List.getElem?_eq_some_iff.mp hi).1
  have f := r.frs i ds p hi h1
  have lt : ∀ a, av C (owSet ow i none) a → av C ow a := fun a z => (av_set z).elim id fun z => by cases z
  have np : ¬ av C (owSet ow i none) p := fun z => by
    rcases z with z | ⟨j, z⟩
    · exact f.2 z
    · unfold owSet at z
      by_cases hj : j = i
      · rw [if_pos hj] at z; cases z
      · rw [if_neg hj] at z
        exact hj (r.inj j i p z h1)
  have gs : ∀ j, j ≠ i → (S.set i (.val (.list ds)))[j]? = S[j]? := fun j e => List.getElem?_set_ne (Ne.symm e)
  have gi : (S.set i (.val (.list ds)))[i]? = some (.val (.list ds)) := List.getElem?_set_self hl
  have oj : ∀ j, j ≠ i → owSet ow i none j = ow j := fun j e => if_neg e
  have oi : owSet ow i none i = none := if_pos rfl
  have hn : nn S[i]? = true := by rw [hi]; rfl
  have h4' : i < 4096 := Nat.lt_of_lt_of_le hl r.ns.big
  refine ⟨owSet ow i none, ⟨by rw [List.length_set]; exact r.len, fun j d e => ?_, fun j es e => ?_, fun j a e => ?_, fun j k a e1 e2 => ?_, fun j es a e1 e2 => ?_, fun j es e => ?_, fun j a e => ?_, r.trk, r.ext, r.ns.move (by rw [List.length_set]; exact r.ns.big) (fun _ _ q => (nst_set hn rfl).mp q) (fun j q => oj j (q.ne hn h4')) (fun _ _ _ _ => rfl) (fun _ _ _ _ _ q => q) (fun _ _ q => rds_less q lt) (fun _ _ _ _ z => z)⟩, fun a z => .inl (lt a z)⟩
  · by_cases hj : j = i
    · subst hj
      rw [gi] at e
      cases e
      exact ⟨.ref p, h2, .lst (.inl ⟨.inl h3, np⟩) (rds_less h4 lt)⟩
    · rw [gs j hj] at e
      obtain ⟨w, e1, e2⟩ := r.val j d e
      exact ⟨w, e1, rd_less e2 lt⟩
  · by_cases hj : j = i
    · subst hj; rw [gi] at e; cases e
    · rw [gs j hj] at e
      obtain ⟨a, ws, e1, e2, e3, e4⟩ := r.own j es e
      exact ⟨a, ws, by rw [oj j hj]; exact e1, e2, e3, rds_less e4 lt⟩
  · by_cases hj : j = i
    · subst hj; rw [oi] at e; cases e
    · rw [oj j hj] at e
      rw [gs j hj]
      exact (r.ows j a e).imp id fun z => z.of fun _ _ q => (nst_set hn rfl).mpr q
  · by_cases hj : j = i
    · subst hj; rw [oi] at e1; cases e1
    · by_cases hk : k = i
      · subst hk; rw [oi] at e2; cases e2
      · rw [oj j hj] at e1
        rw [oj k hk] at e2
        exact r.inj j k a e1 e2
  · by_cases hj : j = i
    · subst hj; rw [gi] at e1; cases e1
    · rw [gs j hj] at e1
      rw [oj j hj] at e2
      exact r.frs j es a e1 e2
  · by_cases hj : j = i
    · subst hj; rw [gi] at e; cases e
    · rw [gs j hj] at e
      rw [oj j hj]
      exact r.ios j es e
  · obtain ⟨g1, es, g2⟩ := r.iok j a e
    refine ⟨g1, es, ?_⟩
    rw [gs j fun z => by rw [z, hi] at g2; cases g2]
    exact g2
def sFrz (i : Nat) (s : SS) : SS := fun S => match own1? S[i]? with
  | some ds => s (S.set i (.val (.list ds)))
  | none => .no
theorem ss_frz {sts : List Stmt} {s : SS} (i : Nat) (h : PSs X sts (xS X.K X.mg W C s)) : PSs X sts (xS X.K X.mg W C (sFrz i s)) := pss_imp h fun D σ H ⟨ow, S, r, q⟩ => by
  change sst X.K X.mg W C ow H D (sFrz i s S) at q
  unfold sFrz at q
  cases e : own1? S[i]? with
  | none => rw [e] at q; exact q.elim
  | some ds =>
    rw [e] at q
    obtain ⟨ow', r', g'⟩ := r.freeze (own1?_some e)
    exact ⟨ow', _, r', sst_from (Ext.refl _ _) g' q⟩
def setI (ds : List PyData) (k d : PyData) : Option (List PyData) := match k with
  | .int j => if 0 ≤ j ∧ j < ds.length then some (ds.set j.toNat d) else none
  | _ => none
def sSetIx (i : Nat) (sk se : SE) : SS := fun S => (se S).st fun d S1 => if (own? S1[i]?).isSome = true then (sk S1).st fun k S2 => match own? S2[i]? with
  | some ds => match setI ds k d with
    | some es => .nx (upL i es S2)
    | none => .no
  | none => .no
  else .no
theorem s_setIx {sk : SE} {k : Expr} (he : PE X e (xE X.K X.mg W C se)) (hk : PE X k (xE X.K X.mg W C sk)) (hp : ∀ {t u : TE}, PE X e t → PE X k u → PS X (.Assign [tg] e pos) (tAsg t (gSub (tVar i) u rSetL))) : PS X (.Assign [tg] e pos) (xS X.K X.mg W C (sSetIx i sk se)) :=
  ps_imp (hp he hk) fun D σ H ⟨ow, S, r, q⟩ => seqS r q fun S1 d x H1 r1 x1 rd k1 => by
    cases e1 : own? S1[i]? with
    | none => rw [e1] at k1; exact k1.elim
    | some ds =>
      rw [e1] at k1
      obtain ⟨a, vs, h0, h1, h2, h3⟩ := r1.own i ds e1
      refine ⟨.ref a, h1, seqS r1 k1 fun S2 kd kv H2 r2 x2 rk k2 => ?_⟩
      cases e2 : own? S2[i]? with
      | none => rw [e2] at k2; exact k2.elim
      | some es =>
        rw [e2] at k2
        obtain ⟨b, ws, g0, g1, g2, g3⟩ := r2.own i es e2
        rw [h0] at g0; cases g0
        cases rk with
        | int j =>
          change sst X.K X.mg W C ow H2 D (match setI es (.int j) d with | some es => .nx (upL i es S2) | none => .no) at k2
          unfold setI at k2
          by_cases z : 0 ≤ j ∧ j < es.length
          · simp only [if_pos z] at k2
            have hw : ws.length = es.length := g3.len
            obtain ⟨r3, x3⟩ := r2.up (es := es.set j.toNat d) (vs := ws.set j.toNat x) e2 h0 (RDs.set (RD.mono x2 (Grow.refl _ _) d x rd) j.toNat g3)
            exact ⟨a, ws, j, j.toNat, rfl, rfl, g2, by unfold ixN; rw [if_pos z.1, if_pos (by omega)], k2 ow σ _ r3 x3 (Grow.refl _ _)⟩
          · simp only [if_neg z] at k2
            exact k2.elim
        | _ => exact k2.elim
/-- a new list at p, kept aside, comes into slot i -/
theorem Rl.adopt {K : PySem.W.Frag} {ow : Ow} {S : En} {σ : St} {H : Hp} {p : Addr} {vs : List V} {ds : List PyData} (r : Rl K (C.plus p vs) ow S σ H) (h0 : C.H0 p = none) (hA : ¬ C.A0 p) (hio : ∀ i a, C.io i = some a → C.A0 a) (hi : noio S[i]? = true) (rd : RDs K (av (C.plus p vs) ow) H vs ds) :
    Rl K C (owSet ow i (some p)) (S.set i (.own ds)) (σ.set i (some (.ref p))) H := by
  have hm := r.minus h0 hA hio
  have e := r.at hA hio
  have rd' := RDs.mono (ext_del (H := H) (av := av (C.plus p vs) ow) (.inl (.inr rfl))) (fun a w => .inl (av_plus.mpr (.inl w))) ds vs rd
  have := hm.putN hi del_same rd'
  rw [upd_del e] at this
  exact this
/-- x, y = e1, e2, two new lists -/
def sPar (i j : Nat) (s1 s2 : SN) : SS := fun S => (s1 S).st fun ds S1 => (noEx (s2 S1)).st fun es S2 => match put i (.own ds) S2 with
  | .nx S3 => put j (.own es) S3
  | _ => .no
theorem s_par {e1 e2 : Expr} {s1 s2 : SN} {j : Nat} {tgs : List Expr} {k2 pt2} (h1 : PE X e1 (xN X.K X.mg W C s1)) (h2 : ∀ C', PE X e2 (xN X.K X.mg W C' s2)) (hij : i ≠ j)
    (hp : ∀ {t u : TE}, PE X e1 t → PE X e2 u → PS X (.Assign tgs (.Tuple [e1, e2] k2 pt2) pos) (tPar i j (tCons t (tCons u tNil)))) : PS X (.Assign tgs (.Tuple [e1, e2] k2 pt2) pos) (xS X.K X.mg W C (sPar i j s1 s2)) :=
  ps_imp (hp (u := fun σ H Q => ∃ C', xN X.K X.mg W C' s2 σ H Q) h1 ⟨fun pins s σ H Q I ⟨C', q⟩ => (h2 C').run pins s σ H Q I q⟩) fun D σ H ⟨ow, S, r, q⟩ => by
    change sst X.K X.mg W C ow H D ((s1 S).st fun ds S1 => (noEx (s2 S1)).st fun es S2 => match put i (.own ds) S2 with | .nx S3 => put j (.own es) S3 | _ => .no) at q
    refine ⟨ow, S, r, ?_⟩
    show pst X.K X.mg W C (relN X.K) ow σ H _ (s1 S)
    cases ea : s1 S with
    | no => rw [ea] at q; exact q
    | ex c S' => rw [ea] at q; exact fun H' r' x => q ow σ H' r' x (Grow.refl _ _)
    | ok ds S1 =>
      rw [ea] at q
      rintro v H1 r1 x1 ⟨a, vs, Hm, e1, e2, e3, e4, e5, e6⟩
      subst e1
      subst e3
      have f0 := e5.fresh0 e2
      have hio : ∀ i a, C.io i = some a → C.A0 a := fun i a e => (e5.iok i a e).1
      have rp := e5.plus e2 vs
      refine ⟨C.plus a vs, ow, S1, rp, ?_⟩
      show pst X.K X.mg W (C.plus a vs) (relN X.K) ow σ _ _ (s2 S1)
      rw [st_ok] at q
      cases eb : s2 S1 with
      | no => rw [eb] at q; exact q
      | ex c S' => rw [eb] at q; exact q.elim
      | ok es S2 =>
        rw [eb, noEx_ok, st_ok] at q
        rintro w H2 r2 x2 ⟨b, ws, Hn, g1, g2, g3, g4, g5, g6⟩
        subst g1
        subst g3
        refine ⟨.ref a, .ref b, rfl, ?_⟩
        unfold put at q
        by_cases hi : noio S2[i]? = true
        · simp only [if_pos hi] at q
          by_cases hj : noio (S2.set i (.own ds))[j]? = true
          · simp only [if_pos hj] at q
            have rds := RDs.mono ((Ext.same (same_new e2)).trans (grow_plus (us := vs) e2) g4) (grow_plus (us := vs) e2) ds vs e6
            have ra := g5.adopt (i := i) f0.1 f0.2 hio hi rds
            have ex1 : Ext (av C ow) Hm Hn := fun c o n e => g4 c o (fun z => (av_plus.mp z).elim n fun z => by rw [z, e2] at e; cases e) ((same_new e2) c o e)
            have gr : Grow (av C ow) (av C (owSet ow i (some a))) Hm := grow_set fun c z => by cases z; exact e2
            have g6' : RDs X.K (av C (owSet ow i (some a))) Hn ws es := rds_less g6 fun c z => av_plus.mpr ((av_set z).imp id fun z => by cases z; rfl)
            have rb := ra.putN (i := j) hj g2 g6'
            refine q _ _ _ rb ?_ ?_
            · exact (e4.trans (Grow.refl _ _) ex1).trans (Grow.refl _ _) (Ext.same (same_new g2))
            · exact Grow.trans (Grow.refl _ _) e4 (gr.trans ex1 (grow_set fun c z => by cases z; exact g2))
          · simp only [if_neg hj] at q
            exact q.elim
        · simp only [if_neg hi] at q
          exact q.elim
end
end Ds
end
section
set_option Elab.async false
set_option linter.all false
set_option maxRecDepth 100000
set_option maxHeartbeats 4000000
namespace Ds
open PySem PySem.Spec PyProof.Rows L2
section
variable {X : Cx}
/-- l + m for lists of any kind -/
def rCatS (K : PySem.W.Frag) : R2 := fun x y H Q => ∃ l b xs zs, x = .ref l ∧ y = .ref b ∧ SqL K H l xs ∧ SqL K H b zs ∧ xs.length + zs.length ≤ sizeLine ∧ ∀ p, H p = none → Q (.ref p) (upd H p (.lst (xs ++ zs)))
theorem op_catS : OpR X (binaryOp .Add) (rCatS X.K) := by
  intro pins s σ H x y v u Q I rx ry h
  obtain ⟨l, b, xs, zs, rfl, rfl, hH, hB, hz, q⟩ := h
  cases rx
  cases ry
  obtain ⟨its, r, p1, z1⟩ := I.list hH
  obtain ⟨its2, r2, p2, z2⟩ := I.list hB
  obtain ⟨⟨c, dd, dt, sl⟩, n, e, h1, h2, h3⟩ := p1
  obtain ⟨⟨c', dd', dt', sl'⟩, n', e', h1', h2', h3'⟩ := p2
  simp only at h1 h2 h3 h1' h2' h3'
  subst h1 h2 h3 h1' h2' h3'
  have es : its.toArray ++ its2.toArray = (its ++ its2).toArray := by simp
  refine concat_meets ⟨_, e, rfl⟩ ⟨_, e', rfl⟩ noFill_list_add seq_list_add PySem.F.slot_list_add PySem.F.entry_list_add (PySem.F.args_list_add_2 _ _) (list_addW l b its.toArray its2.toArray n n' none none sl sl' (by rw [List.size_toArray, List.size_toArray, ← r.length, ← r2.length]; exact hz)) ⟨e, e', ?_⟩
  rw [es]
  exact ⟨.ref _, _, I.lnew (t' := s.toks) (r.append r2) (by rw [List.length_append]; exact hz), rfl, q _ I.fresh⟩
variable {K : PySem.W.Frag}
/-- x + y -/
def gAdd : PyData → PyData → Option PyData
  | .int i, .int j => some (.int (i + j))
  | .str x, .str y => if x.length + y.length ≤ sizeLine then some (.str (x ++ y)) else none
  | .tuple xs, .tuple ys => if xs.length + ys.length ≤ sizeLine then some (.tuple (xs ++ ys)) else none
  | .list xs, .list ys => if xs.length + ys.length ≤ sizeLine then some (.list (xs ++ ys)) else none
  | _, _ => none
def rCatF (K : PySem.W.Frag) : R2 := fun x y H Q => ∃ a b xs ys, x = .ref a ∧ y = .ref b ∧ SqT K H a xs ∧ SqT K H b ys ∧ xs.length + ys.length ≤ sizeLine ∧ (xs = [] → Q (.ref b) H) ∧ (xs ≠ [] → ys = [] → Q (.ref a) H) ∧ (xs ≠ [] → ys ≠ [] → NT H (xs ++ ys) Q)
theorem op_catF {X : Cx} : OpR X (binaryOp .Add) (rCatF X.K) := by
  intro pins s σ H x y v u Q I rx ry h
  obtain ⟨a, b, xs, ys, rfl, rfl, ha, hb, hz, q0, q1, q2⟩ := h
  cases rx
  cases ry
  obtain ⟨us, r1, p1, _⟩ := I.tuple ha
  obtain ⟨ws, r2, p2, _⟩ := I.tuple hb
  by_cases hx : xs = []
  · subst hx
    cases r1
    exact cat_tup0 p1 p2 ⟨.ref b, H, I, rfl, q0 rfl⟩
  · refine HT.cat_tup p1 p2 (fun z => hx (r1.nil_iff.mp z)) (fun z => ⟨.ref a, H, I, rfl, q1 hx (r2.nil_iff.mp z)⟩) (fun z => ?_) (by rw [← r1.length, ← r2.length]; exact hz)
    exact (q2 hx fun w => z (r2.nil_iff.mpr w)).run (tk := s.toks) I (r1.append r2) (by rw [List.length_append]; exact hz)
def rAddA (K : PySem.W.Frag) : R2 := fun x y H Q => (rI0 fun i j => .int (i + j)) x y H Q ∨ ((∃ i j, x = .str i ∧ y = .str j ∧ i.length + j.length ≤ sizeLine ∧ Q (.str (i ++ j)) H) ∨ (rCatF K x y H Q ∨ rCatS K x y H Q))
theorem or_add : OpR X (binaryOp .Add) (rAddA X.K) := op_add.or (op_add_str.or (op_catF.or op_catS))
theorem od_add : OpD K (rAddA K) gAdd := fun av H x y d e z Q tr rx ry g q => by
  cases rx with
  | int i =>
    cases ry with
    | int j =>
      cases g
      exact .inl ⟨i, j, rfl, rfl, q _ H (Same.refl H) (.int _)⟩
    | _ => cases g
  | str a =>
    cases ry with
    | str b =>
      change (if a.length + b.length ≤ sizeLine then some (PyData.str (a ++ b)) else none) = some z at g
      by_cases h : a.length + b.length ≤ sizeLine
      · rw [if_pos h] at g
        cases g
        exact .inr (.inl ⟨a, b, rfl, rfl, h, q _ H (Same.refl H) (.str _)⟩)
      · rw [if_neg h] at g; cases g
    | _ => cases g
  | @tup a xs ds h1 h2 =>
    cases ry with
    | @tup b ys es h3 h4 =>
      change (if ds.length + es.length ≤ sizeLine then some (PyData.tuple (ds ++ es)) else none) = some z at g
      by_cases h : ds.length + es.length ≤ sizeLine
      · rw [if_pos h] at g
        cases g
        refine .inr (.inr (.inl ⟨a, b, xs, ys, rfl, rfl, h1.sq, h3.sq, by rw [h2.len, h4.len]; exact h, fun e => ?_, fun _ e => ?_, fun _ _ p o np d c => ?_⟩))
        · subst e
          cases h2
          exact q _ H (Same.refl H) (.tup h3 h4)
        · subst e
          cases h4
          rw [List.append_nil] at q
          exact q _ H (Same.refl H) (.tup h1 h2)
        · exact q _ _ (same_new np) (rd_newT tr (h2.append h4) np d c)
      · rw [if_neg h] at g; cases g
    | _ => cases g
  | @lst a xs ds h1 h2 =>
    cases ry with
    | @lst b ys es h3 h4 =>
      change (if ds.length + es.length ≤ sizeLine then some (PyData.list (ds ++ es)) else none) = some z at g
      by_cases h : ds.length + es.length ≤ sizeLine
      · rw [if_pos h] at g
        cases g
        exact .inr (.inr (.inr ⟨a, b, xs, ys, rfl, rfl, h1.sq, h3.sq, by rw [h2.len, h4.len]; exact h, fun p np => q _ _ (same_new np) (rd_newL tr (h2.append h4) np)⟩))
      · rw [if_neg h] at g; cases g
    | _ => cases g
  | _ => cases ry <;> cases g
def gII (C : Int → Int → Bool) (f : Int → Int → Int) : PyData → PyData → Option PyData
  | .int i, .int j => if C i j = true then some (.int (f i j)) else none
  | _, _ => none
theorem od_II {C : Int → Int → Bool} {P : Int → Int → Prop} {f : Int → Int → Int} (h : ∀ i j, C i j = true → P i j) : OpD K (rI P fun i j => .int (f i j)) (gII C f) := fun av H x y d e z Q tr rx ry g q => by
  cases rx with
  | int i =>
    cases ry with
    | int j =>
      change (if C i j = true then some (PyData.int (f i j)) else none) = some z at g
      by_cases c : C i j = true
      · rw [if_pos c] at g
        cases g
        exact ⟨i, j, rfl, rfl, h i j c, q _ H (Same.refl H) (.int _)⟩
      · rw [if_neg c] at g; cases g
    | _ => cases g
  | _ => cases ry <;> cases g
theorem od_I0 {f : Int → Int → Int} : OpD K (rI0 fun i j => .int (f i j)) (gII (fun _ _ => true) f) := fun av H x y d e z Q tr rx ry g q => by
  cases rx with
  | int i =>
    cases ry with
    | int j => cases g; exact ⟨i, j, rfl, rfl, q _ H (Same.refl H) (.int _)⟩
    | _ => cases g
  | _ => cases ry <;> cases g
def gSub_ : PyData → PyData → Option PyData := gII (fun _ _ => true) fun i j => i - j
theorem od_sub : OpD K (rI0 fun i j => .int (i - j)) gSub_ := od_I0
/-- products: together less than a million bits -/
def cMul (i j : Int) : Bool := decide (i.natAbs.log2 + j.natAbs.log2 < 1000000)
def gMul : PyData → PyData → Option PyData := gII cMul fun i j => i * j
theorem od_mul : OpD K (rI CMulW fun i j => .int (i * j)) gMul := od_II fun i j h => by
  show i.natAbs.log2 + j.natAbs.log2 < 1000000
  exact of_decide_eq_true h
def cDiv (_ j : Int) : Bool := decide (0 < j) && decide (j.natAbs.log2 < 9000)
def gDiv : PyData → PyData → Option PyData := gII cDiv fun i j => i / j
theorem od_div : OpD K (rI CDivW fun i j => .int (i / j)) gDiv := od_II fun _ j h => by
  unfold cDiv at h
  rw [Bool.and_eq_true] at h
  exact ⟨of_decide_eq_true h.1, of_decide_eq_true h.2⟩
def cMod (_ j : Int) : Bool := decide (0 < j)
def gMod : PyData → PyData → Option PyData := gII cMod fun i j => i % j
theorem od_mod : OpD K (rI (fun _ j => 0 < j) fun i j => .int (i % j)) gMod := od_II fun _ _ h => of_decide_eq_true h
def cPow (i j : Int) : Bool := decide (0 ≤ j ∧ j ≤ 1000000 ∧ i.natAbs < 2 ^ 64)
def gPow : PyData → PyData → Option PyData := gII cPow fun i j => i ^ j.toNat
theorem od_pow : OpD K (rI CPow fun i j => .int (i ^ j.toNat)) gPow := od_II fun i j h => by
  show 0 ≤ j ∧ j ≤ 1000000 ∧ i.natAbs < 2 ^ 64
  exact of_decide_eq_true h
/-- comparisons of ints -/
def gCI (f : Int → Int → Bool) : PyData → PyData → Option PyData
  | .int i, .int j => some (.bool (f i j))
  | _, _ => none
theorem od_CI {f : Int → Int → Bool} : OpD K (rI0 fun i j => .bl (f i j)) (gCI f) := fun av H x y d e z Q tr rx ry g q => by
  cases rx with
  | int i =>
    cases ry with
    | int j => cases g; exact ⟨i, j, rfl, rfl, q _ H (Same.refl H) (.bl _)⟩
    | _ => cases g
  | _ => cases ry <;> cases g
def gLt := gCI fun i j => decide (i < j)
def gLe := gCI fun i j => decide (i ≤ j)
def gGt := gCI fun i j => decide (j < i)
def gGe := gCI fun i j => decide (j ≤ i)
theorem od_lt : OpD K (rI0 fun i j => .bl (decide (i < j))) gLt := od_CI
theorem od_le : OpD K (rI0 fun i j => .bl (decide (i ≤ j))) gLe := od_CI
theorem od_gt : OpD K (rI0 fun i j => .bl (decide (j < i))) gGt := od_CI
theorem od_ge : OpD K (rI0 fun i j => .bl (decide (j ≤ i))) gGe := od_CI
/-- == of data without dicts -/
def okEq (d : PyData) : Bool := SeqAt.shaped d && !PyData.hasDict d && (match d with | .dict _ => false | _ => true)
theorem okEq_of {d : PyData} (h : okEq d = true) : SeqAt.shaped d = true ∧ PyData.hasDict d = false ∧ d ≠ .dict [] := by
  unfold okEq at h
  rw [Bool.and_eq_true, Bool.and_eq_true] at h
  refine ⟨h.1.1, by simpa using h.1.2, fun e => ?_⟩
  rw [e] at h
  simp at h
def bothS : PyData → PyData → Option Bool
  | .str x, .str y => some (x == y)
  | _, _ => none
theorem bothS_some {d e : PyData} {b : Bool} (h : bothS d e = some b) : ∃ x y, d = .str x ∧ e = .str y ∧ b = (x == y) := by
  cases d with
  | str x =>
    cases e with
    | str y => cases h; exact ⟨x, y, rfl, rfl, rfl⟩
    | _ => cases h
  | _ => cases h
def gEq (d e : PyData) : Option PyData := match bothS d e with
  | some b => some (.bool b)
  | none => if okEq d = true ∧ okEq e = true then some (.bool (PyData.eqv d e)) else none
def gNe (d e : PyData) : Option PyData := match bothS d e with
  | some b => some (.bool (!b))
  | none => if okEq d = true ∧ okEq e = true then some (.bool (!PyData.eqv d e)) else none
def rEqA (K : PySem.W.Frag) : R2 := fun x y H Q => rEq x y H Q ∨ rEqD K x y H Q
def rNeA (K : PySem.W.Frag) : R2 := fun x y H Q => rNe x y H Q ∨ rNeD K x y H Q
theorem op_eqA (hu : X.A.units + 64 < cLine) : OpR X (compareOp .Eq) (rEqA X.K) := op_eq.or (op_eqD hu)
theorem op_neA (hu : X.A.units + 64 < cLine) : OpR X (compareOp .NotEq) (rNeA X.K) := op_ne.or (op_neD hu)
theorem decS {x y : Str} : decide (V.str x = V.str y) = (x == y) := by
  rw [Bool.eq_iff_iff]; simp
theorem od_eq : OpD K (rEqA K) gEq := fun av H x y d e z Q tr rx ry g q => by
  unfold gEq at g
  cases c0 : bothS d e with
  | some b =>
    rw [c0] at g
    cases g
    obtain ⟨u, v, rfl, rfl, rfl⟩ := bothS_some c0
    cases rx
    cases ry
    exact .inl ⟨rfl, by rw [decS]; exact q _ H (Same.refl H) (.bl _)⟩
  | none =>
    rw [c0] at g
    by_cases c : okEq d = true ∧ okEq e = true
    · simp only [if_pos c] at g
      cases g
      obtain ⟨a1, a2, a3⟩ := okEq_of c.1
      obtain ⟨b1, b2, b3⟩ := okEq_of c.2
      exact .inr ⟨d, e, RD.dp d x rx a3 a2, RD.dp e y ry b3 b2, a1, b1, q _ H (Same.refl H) (.bl _)⟩
    · simp only [if_neg c] at g; cases g
theorem od_ne : OpD K (rNeA K) gNe := fun av H x y d e z Q tr rx ry g q => by
  unfold gNe at g
  cases c0 : bothS d e with
  | some b =>
    rw [c0] at g
    cases g
    obtain ⟨u, v, rfl, rfl, rfl⟩ := bothS_some c0
    cases rx
    cases ry
    exact .inl ⟨rfl, by rw [decS]; exact q _ H (Same.refl H) (.bl _)⟩
  | none =>
    rw [c0] at g
    by_cases c : okEq d = true ∧ okEq e = true
    · simp only [if_pos c] at g
      cases g
      obtain ⟨a1, a2, a3⟩ := okEq_of c.1
      obtain ⟨b1, b2, b3⟩ := okEq_of c.2
      exact .inr ⟨d, e, RD.dp d x rx a3 a2, RD.dp e y ry b3 b2, a1, b1, q _ H (Same.refl H) (.bl _)⟩
    · simp only [if_neg c] at g; cases g
/-- x[i] of a tuple, a list, a text -/
def gIx : PyData → PyData → Option PyData
  | .tuple ds, .int i => atI ds i
  | .list ds, .int i => atI ds i
  | .str z, .int i => if z.length ≤ sizeLine then (atI z.cps.toList i).map fun c => .str ⟨#[c]⟩ else none
  | _, _ => none
theorem RDs.atI {av : Av} {H : Hp} {vs : List V} {ds : List PyData} (h : RDs K av H vs ds) {i : Int} {d : PyData} (e : L2.atI ds i = some d) : ∃ v, L2.atI vs i = some v ∧ RD K av H v d := by
  unfold L2.atI at e ⊢
  rw [h.len]
  cases q : ixN ds.length i with
  | none => rw [q] at e; cases e
  | some j =>
    rw [q] at e
    exact h.get (i := j) e
theorem od_ix : OpD K (rIx K) gIx := fun av H x y d e z Q tr rx ry g q => by
  cases rx with
  | @tup a xs ds h1 h2 =>
    cases ry with
    | int i =>
      obtain ⟨v, e1, e2⟩ := h2.atI (i := i) g
      exact .inr (.inl ⟨a, xs, i, v, rfl, rfl, h1.sq, e1, q v H (Same.refl H) e2⟩)
    | _ => cases g
  | @lst a xs ds h1 h2 =>
    cases ry with
    | int i =>
      obtain ⟨v, e1, e2⟩ := h2.atI (i := i) g
      exact .inl ⟨a, xs, i, v, rfl, rfl, h1.sq, e1, q v H (Same.refl H) e2⟩
    | _ => cases g
  | str w =>
    cases ry with
    | int i =>
      change (if w.length ≤ sizeLine then (atI w.cps.toList i).map fun c => PyData.str ⟨#[c]⟩ else none) = some z at g
      by_cases c : w.length ≤ sizeLine
      · rw [if_pos c] at g
        cases e : atI w.cps.toList i with
        | none => rw [e] at g; cases g
        | some k =>
          rw [e] at g
          cases g
          exact .inr (.inr ⟨w, i, k, rfl, rfl, c, e, q _ H (Same.refl H) (.str _)⟩)
      · rw [if_neg c] at g; cases g
    | _ => cases g
  | _ => cases ry <;> cases g
/-- l[i], the list of a slot -/
def sIxL (sl : SN) (sb : SE) : SE := fun S => (sl S).bind fun ds S1 => (sb S).bind fun k _ => R.opt (gIx (.list ds) k) S1
variable {W : WX} {C : Cn} {a b e : Expr} {pos : Pos} {sa sb : SE} {i : Nat}
/-- the index is a constant or a name -/
def sIxV (i : Nat) (sb : SE) : SE := fun S => if (lst? S[i]?).isSome = true then (sb S).bind fun k S1 => match lst? S1[i]? with
  | some ds => R.opt (gIx (.list ds) k) S1
  | none => .no
  else .no
theorem e_ixV (ho : PE X a (tVar i)) (hb : PE X b (xE X.K X.mg W C sb)) (hs : PlainIx b) : PE X (.Subscript a b pos) (xE X.K X.mg W C (sIxV i sb)) := pe_imp (pe_ix ix_seq ho hb hs) fun σ H Q ⟨ow, S, r, q⟩ => by
  change pst X.K X.mg W C (relE X.K) ow σ H Q (sIxV i sb S) at q
  unfold sIxV at q
  cases e : lst? S[i]? with
  | none => rw [e] at q; exact q.elim
  | some ds =>
    rw [e] at q
    obtain ⟨p, vs, h1, _⟩ := r.list e
    refine ⟨.ref p, h1, seq early_E r q fun S1 k x H1 r1 x1 rk k1 => ?_⟩
    cases e1 : lst? S1[i]? with
    | none => rw [e1] at k1; exact k1.elim
    | some es =>
      rw [e1] at k1
      obtain ⟨p2, ws, g1, g2, g3⟩ := r1.list e1
      rw [h1] at g1; cases g1
      cases rk with
      | int j =>
        change pst X.K X.mg W C (relE X.K) ow σ H1 Q (R.opt (atI es j) S1) at k1
        cases e2 : atI es j with
        | none => rw [e2] at k1; exact k1.elim
        | some d =>
          rw [e2] at k1
          obtain ⟨v, e3, e4⟩ := g3.atI (i := j) e2
          exact .inl ⟨p, ws, j, v, rfl, rfl, g2, e3, pst_ok r1 k1 e4⟩
      | _ => exact k1.elim
/-- -e -/
def sNeg (sa : SE) : SE := fun S => (sa S).bind fun d S1 => match d with
  | .int i => .ok (.int (-i)) S1
  | _ => .no
theorem e_neg (ha : PE X a (xE X.K X.mg W C sa)) : PE X (.UnaryOp .USub a pos) (xE X.K X.mg W C (sNeg sa)) := pe_imp (pe_un un_neg ha) fun σ H Q ⟨ow, S, r, q⟩ => seq early_E r q fun S1 d v H1 r1 x1 rd k => by
  cases rd with
  | int i => exact ⟨i, rfl, pst_ok r1 k (.int _)⟩
  | _ => exact k.elim
end
end Ds
end
section
set_option Elab.async false
set_option linter.all false
set_option maxRecDepth 100000
set_option maxHeartbeats 4000000
namespace Ds
open PySem PySem.Spec PyProof.Rows L2
section
variable {X : Cx} {K : PySem.W.Frag} {W : WX} {C : Cn} {a b c e : Expr} {pos : Pos} {sa sb sc se : SE} {sn sl sr : SN} {i : Nat}
def gLen : List PyData → Option PyData
  | [.tuple ds] => some (.int ds.length)
  | [.list ds] => some (.int ds.length)
  | [.str x] => if x.length ≤ sizeLine then some (.int x.length) else none
  | _ => none
def rLenD (K : PySem.W.Frag) : List V → Hp → VK → Prop := fun xs H Q => ∃ x n, xs = [x] ∧ LenV K x H n ∧ Q (.int n) H
theorem cd_len : CallD K (rLenD K) gLen := fun av H xs ds z Q tr r g q => by
  match ds, r, g with
  | [.tuple es], .cons (.tup h1 h2) .nil, g => cases g; exact ⟨_, _, rfl, .inr ⟨_, h1.sq, rfl⟩, by rw [h2.len]; exact q _ H (Same.refl H) (.int _)⟩
  | [.list es], .cons (.lst h1 h2) .nil, g => cases g; exact ⟨_, _, rfl, .inl ⟨_, h1.sq, rfl⟩, by rw [h2.len]; exact q _ H (Same.refl H) (.int _)⟩
  | [.str x], .cons (.str _) .nil, g =>
    change (if x.length ≤ sizeLine then some (PyData.int x.length) else none) = some z at g
    by_cases h : x.length ≤ sizeLine
    · rw [if_pos h] at g; cases g
      exact ⟨_, _, rfl, ⟨h, rfl⟩, q _ H (Same.refl H) (.int _)⟩
    · rw [if_neg h] at g; cases g
/-- a reader of one list -/
def sRd (g : List PyData → Option PyData) (sl : SN) : SE := fun S => (sl S).bind fun ds S1 => R.opt (g ds) S1
def LstD (K : PySem.W.Frag) (r : List V → Hp → VK → Prop) (g : List PyData → Option PyData) : Prop :=
  ∀ (av : Av) (H : Hp) (p : Addr) (vs : List V) (ds : List PyData) (z : PyData) (Q : VK), (∀ a, av a → ∃ o, H a = some o) → SqL K H p vs → RDs K av H vs ds → g ds = some z → (∀ v H', Same H H' → RD K av H' v z → Q v H') → r [.ref p] H Q
theorem rd_tCB {rr : List V → Hp → VK → Prop} {g : List PyData → Option PyData} (hd : LstD X.K rr g) {σ : St} {H : Hp} {Q : VK} (h : xE X.K X.mg W C (sRd g sl) σ H Q) : tCB rr (tCons (xL X.K X.mg W C sl) tNil) σ H Q := by
  obtain ⟨ow, S, rl, q⟩ := h
  refine seq early_E rl q fun S1 ds v H1 r1 x1 rd k1 => ?_
  obtain ⟨p, vs, h1, h2, h3⟩ := rd
  subst h1
  refine fin_opt (H' := H1) r1 k1 fun z ez f => ?_
  exact hd (av C ow) H1 p vs ds z Q r1.tracked h2 h3 ez f
theorem e_rdB {id : String} {x : Str} {p : Pos} {rr : List V → Hp → VK → Prop} {g : List PyData → Option PyData} (hc : CallR X (.builtin id) rr) (hd : LstD X.K rr g) (hg : Gl X x) (hm : X.mg x = none) (hv : bootBuiltins x = some (.builtin id)) (ha : PE X a (xL X.K X.mg W C sl)) (hn : x ≠ "__name__" := by decide) (hdb : (x == ("__debug__" : Str)) = false := by decide)
    (hs : starEach (a :: []) X.env = (false, eval a X.env) :: starEach [] X.env := by rfl) (hpl : (backTo pos (starEach [] X.env)).any (·.1) = false := by rfl) : PE X (.Call (.Name x p) [a] [] pos) (xE X.K X.mg W C (sRd g sl)) :=
  pe_imp (pe_callB hc hg hm hv (pa_cons ha pa_nil hs) hn hdb hs hpl) fun _ _ _ h => rd_tCB hd h
theorem e_rdT {id : String} {x : Str} {p : Pos} {rr : List V → Hp → VK → Prop} {g : List PyData → Option PyData} (hc : CallR X (.type id) rr) (hd : LstD X.K rr g) (hg : Gl X x) (hm : X.mg x = none) (hv : bootBuiltins x = some (.type id)) (ha : PE X a (xL X.K X.mg W C sl)) (hn : x ≠ "__name__" := by decide) (hdb : (x == ("__debug__" : Str)) = false := by decide)
    (hs : starEach (a :: []) X.env = (false, eval a X.env) :: starEach [] X.env := by rfl) (hpl : (backTo pos (starEach [] X.env)).any (·.1) = false := by rfl) : PE X (.Call (.Name x p) [a] [] pos) (xE X.K X.mg W C (sRd g sl)) :=
  pe_imp (pe_callTy hc hg hm hv (pa_cons ha pa_nil hs) hn hdb hs hpl) fun _ _ _ h => rd_tCB hd h
def lLen (ds : List PyData) : Option PyData := some (.int ds.length)
theorem ld_len : LstD K (rLenD K) lLen := fun av H p vs ds z Q tr h r g q => by
  cases g
  exact ⟨_, _, rfl, .inl ⟨vs, h, rfl⟩, by rw [r.len]; exact q _ H (Same.refl H) (.int _)⟩
/-- all, any of a list of bools -/
def bls : List PyData → Option (List Bool)
  | [] => some []
  | .bool b :: ds => (bls ds).map (b :: ·)
  | _ => none
theorem bls_map : ∀ {ds : List PyData} {bs : List Bool}, bls ds = some bs → ds = bs.map PyData.bool
  | [], bs, h => by cases h; rfl
  | .bool b :: ds, bs, h => by
    change (bls ds).map (b :: ·) = some bs at h
    cases e : bls ds with
    | none => rw [e] at h; cases h
    | some cs =>
      rw [e] at h
      cases h
      rw [List.map_cons, ← bls_map e]
def lAll (ds : List PyData) : Option PyData := (bls ds).map fun bs => .bool (bs.all id)
theorem ld_all : LstD K (rAll K) lAll := fun av H p vs ds z Q tr h r g q => by
  unfold lAll at g
  cases e : bls ds with
  | none => rw [e] at g; cases g
  | some bs =>
    rw [e] at g; cases g
    have ed := bls_map e
    subst ed
    have ev := r.bls
    subst ev
    exact ⟨p, bs, rfl, h, q _ H (Same.refl H) (.bl _)⟩
/-- sum of intsOf -/
def intsOf : List PyData → Option (List Int)
  | [] => some []
  | .int b :: ds => (intsOf ds).map (b :: ·)
  | _ => none
theorem intsOf_map : ∀ {ds : List PyData} {bs : List Int}, intsOf ds = some bs → ds = bs.map PyData.int
  | [], bs, h => by cases h; rfl
  | .int b :: ds, bs, h => by
    change (intsOf ds).map (b :: ·) = some bs at h
    cases e : intsOf ds with
    | none => rw [e] at h; cases h
    | some cs =>
      rw [e] at h
      cases h
      rw [List.map_cons, ← intsOf_map e]
/-- tuple(l), tuple(t) -/
def rTupF (K : PySem.W.Frag) : List V → Hp → VK → Prop := fun xs H Q => ∃ p ys, xs = [.ref p] ∧ ((SqL K H p ys ∧ NT H ys Q) ∨ (SqT K H p ys ∧ Q (.ref p) H))
theorem call_tupF {X : Cx} : CallR X (.type "tuple") (rTupF X.K) := by
  intro pins s σ H xs us Q I r h
  obtain ⟨p, ys, rfl, h⟩ := h
  obtain ⟨u, rfl, rx⟩ := vals1 r
  cases rx
  rcases h with ⟨sq, q⟩ | ⟨sq, q⟩
  · obtain ⟨ws, rw, pl, hz⟩ := I.list sq
    have el := rw.length
    refine call_tuple_list pl.isList (fun h2 kp => ?_) (by simp only [List.size_toArray] <;> omega)
    exact q.run (tk := s.toks) (s := { s with heap := h2 }) (I.kept (t' := s.toks) kp) rw hz
  · obtain ⟨ws, _, pt, _⟩ := I.tuple sq
    exact call_tuple_same pt ⟨.ref p, H, I, rfl, q⟩
def lTup (ds : List PyData) : Option PyData := some (.tuple ds)
def tTupRgF (te : St → Hp → (Int → Int → Hp → Prop) → Prop) : TE := fun σ H Q => te σ H fun a b H1 => RgOk a b ∧ NT H1 (rgV a b) Q
theorem ld_tup : LstD K (rTupF K) lTup := fun av H p vs ds z Q tr h r g q => by
  cases g
  exact ⟨p, vs, rfl, .inl ⟨h, fun l o nl d c => q _ _ (same_new nl) (rd_newT tr r nl d c)⟩⟩
def gTupT : List PyData → Option PyData
  | [.tuple ds] => some (.tuple ds)
  | [.list ds] => some (.tuple ds)
  | _ => none
theorem cd_tup : CallD K (rTupF K) gTupT := fun av H xs ds z Q tr r g q => by
  match ds, r, g with
  | [.tuple es], .cons (.tup h1 h2) .nil, g => cases g; exact ⟨_, _, rfl, .inr ⟨h1.sq, q _ H (Same.refl H) (.tup h1 h2)⟩⟩
  | [.list es], .cons (.lst h1 h2) .nil, g => cases g; exact ⟨_, _, rfl, .inl ⟨h1.sq, fun l o nl d c => q _ _ (same_new nl) (rd_newT tr h2 nl d c)⟩⟩
/-- list(l), list(t): a new list -/
def seqOf : List PyData → Option (List PyData)
  | [.tuple ds] => some ds
  | [.list ds] => some ds
  | _ => none
def sListN (sr : SN) : SN := fun S => (sr S).bind fun ds S1 => R.opt (seqOf ds) S1
theorem n_list {x : Str} {p : Pos} (hg : Gl X x) (hm : X.mg x = none) (hv : bootBuiltins x = some (.type "list")) (ha : PA X [a] (xA X.K X.mg W C sr)) (hn : x ≠ "__name__" := by decide) (hdb : (x == ("__debug__" : Str)) = false := by decide)
    (he : starEach (a :: []) X.env = (false, eval a X.env) :: starEach [] X.env := by rfl) (hpl : (backTo pos (starEach [] X.env)).any (·.1) = false := by rfl) : PE X (.Call (.Name x p) [a] [] pos) (xN X.K X.mg W C (sListN sr)) :=
  pe_imp (pe_callTy call_list_of hg hm hv ha hn hdb he hpl) fun σ H Q ⟨ow, S, r, q⟩ => seq early_N r q fun S1 ds vs H1 r1 x1 rd k => by
    match ds, rd, k with
    | [.tuple es], .cons (.tup h1 h2) .nil, k => exact ⟨_, _, rfl, .inr h1.sq, fun l nl => pst_same r1 k (same_new nl) ⟨l, _, H1, rfl, nl, rfl, Ext.refl _ _, r1, h2⟩⟩
    | [.list es], .cons (.lst h1 h2) .nil, k => exact ⟨_, _, rfl, .inl h1.sq, fun l nl => pst_same r1 k (same_new nl) ⟨l, _, H1, rfl, nl, rfl, Ext.refl _ _, r1, h2⟩⟩
/-- x in t, not in -/
def gIn (neg : Bool) (d e : PyData) : Option PyData := match e with
  | .str y => match d with
    | .str x => some (.bool (if neg then !(!(Builtin.Str.occurrences y x 0 y.length 1).isEmpty) else !(Builtin.Str.occurrences y x 0 y.length 1).isEmpty))
    | _ => none
  | _ => none
def rInS : R2 := fun x y H Q => ∃ i j, x = .str i ∧ y = .str j ∧ Q (.bl (!(Builtin.Str.occurrences j i 0 j.length 1).isEmpty)) H
theorem od_in : OpD K rInS (gIn false) := fun av H x y d e z Q tr rx ry g q => by
  cases ry with
  | str y =>
    cases rx with
    | str x => cases g; exact ⟨x, y, rfl, rfl, q _ H (Same.refl H) (.bl _)⟩
    | _ => cases g
  | _ => cases g
/-- flat data in a tuple, a list -/
def flatD : PyData → Bool
  | .none => true
  | .bool _ => true
  | .int _ => true
  | .str _ => true
  | _ => false
def inD (d : PyData) (es : List PyData) : Bool := es.any fun e => PyData.eqv e d
def gInT (neg : Bool) (d e : PyData) : Option PyData := match e with
  | .tuple es => if flatD d = true ∧ es.all flatD = true then some (.bool (if neg then !inD d es else inD d es)) else none
  | .list es => if flatD d = true ∧ es.all flatD = true then some (.bool (if neg then !inD d es else inD d es)) else none
  | _ => none
theorem flat_rd {av : Av} {H : Hp} {v : V} {d : PyData} (h : RD K av H v d) (f : flatD d = true) : flatV v = true := by
  cases h <;> first | rfl | cases f
theorem flat_rds {av : Av} {H : Hp} : ∀ {vs : List V} {ds : List PyData}, RDs K av H vs ds → ds.all flatD = true → vs.all flatV = true
  | _, _, .nil, _ => rfl
  | _, _, .cons h t, f => by
    rw [List.all_cons, Bool.and_eq_true] at f
    rw [List.all_cons, flat_rd h f.1, flat_rds t f.2]
    rfl
theorem eqv_rd {av : Av} {H : Hp} {v w : V} {d e : PyData} (h : RD K av H v d) (h' : RD K av H w e) (f : flatD d = true) (f' : flatD e = true) : eqV v w = PyData.eqv d e := by
  cases h with
  | non => cases h' <;> first | rfl | cases f' | simp [eqV, PyData.eqv]
  | bl b => cases h' <;> first | rfl | cases f' | simp [eqV, PyData.eqv]
  | int b => cases h' <;> first | rfl | cases f' | simp [eqV, PyData.eqv]
  | str b => cases h' <;> first | rfl | cases f' | simp [eqV, PyData.eqv]
  | _ => cases f
theorem inD_rd {av : Av} {H : Hp} {v : V} {d : PyData} (h : RD K av H v d) (f : flatD d = true) : ∀ {vs : List V} {ds : List PyData}, RDs K av H vs ds → ds.all flatD = true → inV v vs = inD d ds
  | _, _, .nil, _ => rfl
  | _, _, .cons r t, g => by
    rw [List.all_cons, Bool.and_eq_true] at g
    have ih := inD_rd h f t g.2
    unfold inV inD at ih ⊢
    rw [List.any_cons, List.any_cons, ih, eqv_rd r h g.1 f]
theorem od_inT (neg : Bool) : OpD K (rIn K neg) (gInT neg) := fun av H x y d e z Q tr rx ry g q => by
  cases ry with
  | @tup p xs es h1 h2 =>
    change (if flatD d = true ∧ es.all flatD = true then some (PyData.bool (if neg then !inD d es else inD d es)) else none) = some z at g
    by_cases c : flatD d = true ∧ es.all flatD = true
    · rw [if_pos c] at g; cases g
      exact ⟨p, xs, rfl, .inr h1.sq, flat_rd rx c.1, flat_rds h2 c.2, by rw [inD_rd rx c.1 h2 c.2]; exact q _ H (Same.refl H) (.bl _)⟩
    · rw [if_neg c] at g; cases g
  | @lst p xs es h1 h2 =>
    change (if flatD d = true ∧ es.all flatD = true then some (PyData.bool (if neg then !inD d es else inD d es)) else none) = some z at g
    by_cases c : flatD d = true ∧ es.all flatD = true
    · rw [if_pos c] at g; cases g
      exact ⟨p, xs, rfl, .inl h1.sq, flat_rd rx c.1, flat_rds h2 c.2, by rw [inD_rd rx c.1 h2 c.2]; exact q _ H (Same.refl H) (.bl _)⟩
    · rw [if_neg c] at g; cases g
  | _ => cases g
def tyN : PyData → String
  | .none => "NoneType"
  | .bool _ => "bool"
  | .int _ => "int"
  | .str _ => "str"
  | .list _ => "list"
  | .tuple _ => "tuple"
  | .dict _ => "dict"
theorem ty_rd {av : Av} {H : Hp} {v : V} {d : PyData} (h : RD K av H v d) : TyX K H v (.type (tyN d)) ∨ (∃ a c fs, v = .ref a ∧ d = .dict ((.none, .str c) :: fs) ∧ ExcAny K H a c) ∨ ((∃ ns, d = scrD ns) ∧ TyX K H v (.type "list")) ∨ ∃ a o ks t0 d0 kvs, v = .ref a ∧ d = .dict ((.tuple t0, d0) :: kvs) ∧ H a = some (.frz o (dtO av.w a ks)) := by
  cases h with
  | dct h1 _ _ _ _ _ => exact .inr (.inr (.inr ⟨_, _, _, _, _, _, rfl, rfl, h1⟩))
  | non => exact .inl <| .base .non
  | bl b => exact .inl <| .base (.bl b)
  | int b => exact .inl <| .base (.int b)
  | str b => exact .inl <| .base (.str b)
  | lst h1 h2 =>
    exact .inl <| .base (.lst h1.get.1)
  | tup h1 h2 =>
    rcases h1 with ⟨⟨o, h1, _⟩, _⟩ | ⟨(h1 | ⟨o, h1⟩) | ⟨o, its, n, e, c, _⟩, _⟩
    · exact .inl <| .fTuple h1
    · cases h1
    · cases h1
    · exact .inl <| .kTuple e c
  | dic h1 _ => exact .inl <| .base (.dK h1)
  | exc h1 h2 => exact .inr (.inl ⟨_, _, _, rfl, rfl, (let ⟨_, e, x⟩ := rd_exc (RD.exc h1 h2); by cases e; exact x)⟩)
  | exf h1 h2 h3 => exact .inr (.inl ⟨_, _, _, rfl, rfl, (let ⟨_, e, x⟩ := rd_exc (RD.exf h1 h2 h3); by cases e; exact x)⟩)
  | scr h1 =>
    refine .inr (.inr (.inl ⟨⟨_, rfl⟩, ?_⟩))
    rcases h1 with ⟨⟨o, h1⟩, _⟩ | ((h1 | ⟨o, h1⟩) | ⟨o, its, n, e, c, _⟩)
    · exact .base (.frz h1)
    · cases h1
    · cases h1
    · exact .kList e c
/-- isinstance(e, c), e a kept error -/
def rIsX (K : PySem.W.Frag) : List V → Hp → VK → Prop := fun xs H Q => ∃ (a : Addr) (oe : Obj) (D : Addr) (dx : Option Addr) (c : V) (u : Value) (b : Bool), xs = [.ref a, c] ∧ H a = some (kepO a oe) ∧ (Zc (.ref D) dx oe ∧ keptD H dx) ∧ (∃ vs, oe.data = .fields vs) ∧ ExcC K D ∧ ClsV c u ∧ PySem.W.kitOne K (.ref D) u = some b ∧ Q (.bl b) H
theorem kept_inst {P : Program} {w : World} {H : Hp} {h : Heap} {a D : Addr} {oe : Obj} (k : HOk P w H h) (e : H a = some (kepO a oe)) {dx : Option Addr} (z : Zc (.ref D) dx oe ∧ keptD H dx) (f : ∃ vs, oe.data = .fields vs) : ∃ od, PySem.W.InstAt h a oe D od := by
  have g : h.get? a = some oe := (k a _ e).1
  obtain ⟨vs, hv⟩ := f
  obtain ⟨oc, od, oda, osl⟩ := oe
  obtain ⟨⟨z1, z2⟩, kd⟩ := z
  dsimp only at z1 z2 hv
  subst z1 z2 hv
  cases od with
  | none => exact ⟨none, g, rfl, rfl, trivial⟩
  | some dd =>
    obtain ⟨fs, hd⟩ := kd dd rfl
    obtain ⟨mA, ⟨o, es, ep, ho, hr⟩, rel⟩ : ∃ mA, h.Ns1 dd mA ∧ ∀ f, RelO (fs.lookup f) (mA f) := k dd _ hd
    exact ⟨some o, g, rfl, rfl, ho⟩
theorem cls_some {K : PySem.W.Frag} {D : Addr} (h : PySem.W.hasDictIn K D = true) : (PySem.W.clsIn K D).isSome = true := by
  obtain ⟨cd, hc, _⟩ := PySem.W.any_some h
  rw [hc]; rfl
theorem call_isX : CallR X (.builtin "isinstance") (rIsX X.K) := by
  intro pins s σ H xs us Q I r h
  obtain ⟨a, oe, D, dx, c, u, b, rfl, ha, hz, hf, C, k, e, q⟩ := h
  obtain ⟨od, ia⟩ := kept_inst I.hok ha hz hf
  obtain ⟨u1, u2, rfl, r1, r2⟩ := vals2 r
  cases (show u1 = Value.ref a from r1)
  have e2 := k.eq r2
  subst e2
  exact PySem.W.kia_one (PySem.W.kitx_exc (cls_some C.hd) C.hg C.hk C.hs C.ha C.hn C.ht C.hm) I.kIn ia e (fun z => nomatch z) fun tk => ⟨.bl b, H, I.tok tk, rfl, q⟩
/-- isinstance(d, c), d a dict whose keys are tuples -/
def rIsD (K : PySem.W.Frag) : List V → Hp → VK → Prop := fun xs H Q => ∃ (a : Addr) (o : Obj) (ks : List (NestedKey × Addr × V)) (w : World) (c : V) (u : Value) (b : Bool), xs = [.ref a, c] ∧ H a = some (.frz o (dtO w a ks)) ∧ ClsV c u ∧ PySem.W.kitOne K (.type "dict") u = some b ∧ Q (.bl b) H
theorem call_isD : CallR X (.builtin "isinstance") (rIsD X.K) := by
  intro pins s σ H xs us Q I r h
  obtain ⟨a, o, ks, w, c, u, b, rfl, ha, k, e, q⟩ := h
  obtain ⟨u1, u2, rfl, r1, r2⟩ := vals2 r
  cases (show u1 = Value.ref a from r1)
  have e2 := k.eq r2
  subst e2
  obtain ⟨_, _, _, o, _, _, _, h1, h2, _⟩ := (I.hok a _ ha).2.1
  exact PySem.W.kia_one PySem.W.kitx_dict I.kIn ⟨o, h1, h2.1⟩ e (fun z => nomatch z) fun tk => ⟨.bl b, H, I.tok tk, rfl, q⟩
theorem kit_lst : ∀ T ∈ isiTs, T ≠ "list" → kitB "list" T = some false := by decide +kernel
theorem kit_dict : ∀ T ∈ isiTs, kitB "dict" T = some false := by decide +kernel
def sIsi (T : String) (sa : SE) : SE := fun S => (sa S).bind fun d S1 => R.opt ((kitB (tyN d) T).map .bool) S1
theorem e_isi {T : String} {p : Pos} (hg : Gl X "isinstance") (hm : X.mg "isinstance" = none) (ha : PE X a (xE X.K X.mg W C sa)) (hb : PE X b (tC (.ty T)))
    (h1 : starEach (a :: [b]) X.env = (false, eval a X.env) :: starEach [b] X.env := by rfl) (h2 : starEach (b :: []) X.env = (false, eval b X.env) :: starEach [] X.env := by rfl) (hpl : (backTo pos (starEach [b] X.env)).any (·.1) = false := by rfl) (hT : T ∈ isiTs := by decide) (hT2 : T ≠ "list" := by decide) :
    PE X (.Call (.Name "isinstance" p) [a, b] [] pos) (xE X.K X.mg W C (sIsi T sa)) :=
  pe_imp (pe_callB (call_isi.or (call_isX.or call_isD)) hg hm (by decide +kernel) (pa_cons ha (pa_cons hb pa_nil h2) h1) (by decide) (by decide) h1 hpl) fun σ H Q ⟨ow, S, r, q⟩ => seq early_E r q fun S1 d v H1 r1 x1 rd k => by
    cases e : kitB (tyN d) T with
    | none => rw [e] at k; exact k.elim
    | some z =>
      rw [e] at k
      rcases ty_rd rd with ty | ⟨a, c, fs, rfl, rfl, oe, D, dx, g1, g2, g3, g3b, g4, g5⟩ | ⟨⟨ns, rfl⟩, ty⟩ | ⟨a, o, ks, _, _, _, rfl, rfl, ha⟩
      · exact .inl ⟨v, .ty T, _, _, z, rfl, .ty T, ty, kit_ty e, pst_ok r1 k (.bl z)⟩
      · have e' : kitB "dict" T = some z := e
        rw [kit_dict T hT] at e'
        cases e'
        exact .inr <| .inl ⟨a, oe, D, dx, .ty T, _, false, rfl, g1, ⟨g3.zc, g3b⟩, g4, g5.c, .ty T, g5.no T hT, pst_ok r1 k (.bl false)⟩
      · have e' : kitB "dict" T = some z := e
        rw [kit_dict T hT] at e'
        cases e'
        exact .inl ⟨v, .ty T, _, _, false, rfl, .ty T, ty, kit_ty (kit_lst T hT hT2), pst_ok r1 k (.bl false)⟩
      · have e' : kitB "dict" T = some z := e
        exact .inr (.inr ⟨a, o, ks, _, .ty T, _, z, rfl, ha, .ty T, kit_ty e', pst_ok r1 k (.bl z)⟩)
def sCh (g g' : PyData → PyData → Option PyData) (sa sb sc : SE) : SE := fun S => (sa S).bind fun x S1 => (sb S1).bind fun y S2 => match g x y with
  | some (.bool true) => (sc S2).bind fun z S3 => R.opt (g' y z) S3
  | some (.bool false) => .ok (.bool false) S2
  | _ => .no
variable {r r' : R2} {g g' : PyData → PyData → Option PyData}
theorem chain_t (hd : OpD X.K r g) (hd' : OpD X.K r' g') {σ : St} {H : Hp} {Q : VK} (h : xE X.K X.mg W C (sCh g g' sa sb sc) σ H Q) : tChain r r' (xE X.K X.mg W C sa) (xE X.K X.mg W C sb) (xE X.K X.mg W C sc) σ H Q := by
  obtain ⟨ow, S, rl, q⟩ := h
  refine seq early_E rl q fun S1 d x H1 r1 x1 rd k1 => ?_
  refine seq early_E r1 k1 fun S2 e y H2 r2 x2 re k2 => ?_
  have rd2 := RD.mono x2 (Grow.refl _ _) d x rd
  cases eg : g d e with
  | none => rw [eg] at k2; exact k2.elim
  | some z =>
    rw [eg] at k2
    refine hd (av C ow) H2 x y d e z _ r2.tracked rd2 re eg fun v H3 sm rz => ?_
    have r3 := r2.same sm
    have re3 := rd_same re sm
    cases rz with
    | bl k =>
      refine ⟨k, rfl, ?_⟩
      cases k with
      | false => exact iteF (pst_same r2 k2 sm (.bl false))
      | true =>
        refine iteT (seq early_E r3 (pst_from early_E r2 r3 (Ext.same sm) k2) fun S4 w u H4 r4 x4 ru k4 => ?_)
        refine fin_opt (H' := H4) r4 k4 fun z' ez' f => ?_
        exact hd' (av C ow) H4 y u e w z' Q r4.tracked (RD.mono x4 (Grow.refl _ _) e y re3) ru ez' f
    | _ => exact k2.elim
theorem e_chain {op op' : CmpOp} (ho : OpR X (compareOp op) r) (ho' : OpR X (compareOp op') r') (hd : OpD X.K r g) (hd' : OpD X.K r' g') (ha : PE X a (xE X.K X.mg W C sa)) (hb : PE X b (xE X.K X.mg W C sb)) (hc : PE X c (xE X.K X.mg W C sc))
    (hm : lastMarks [op, op'] [b, c] = false := by with_unfolding_all rfl) : PE X (.Compare a [op, op'] [b, c] pos) (xE X.K X.mg W C (sCh g g' sa sb sc)) := pe_imp (pe_chain ho ho' ha hb hc hm) fun _ _ _ h => chain_t hd hd' h
theorem t_chain {op op' : CmpOp} (ho : OpR X (compareOp op) r) (ho' : OpR X (compareOp op') r') (hd : OpD X.K r g) (hd' : OpD X.K r' g') (ha : PE X a (xE X.K X.mg W C sa)) (hb : PE X b (xE X.K X.mg W C sb)) (hc : PE X c (xE X.K X.mg W C sc))
    (hm : lastMarks [op, op'] [b, c] = false := by with_unfolding_all rfl) : PT X (.Compare a [op, op'] [b, c] pos) (xB X.K X.mg W C (sTst (sCh g g' sa sb sc))) := pt_imp (pt_chain ho ho' ha hb hc hm) fun _ _ _ h => tst_tB h fun _ q => chain_t hd hd' q
def gMax : List PyData → Option PyData
  | [.int i, .int j] => some (.int (if j > i then j else i))
  | _ => none
def gMin : List PyData → Option PyData
  | [.int i, .int j] => some (.int (if j < i then j else i))
  | _ => none
theorem cd_max : CallD K (fun xs H Q => ∃ i j, xs = [.int i, .int j] ∧ Q (.int (if j > i then j else i)) H) gMax := fun av H xs ds z Q tr r g q => by
  match ds, r, g with
  | [.int i, .int j], .cons (.int _) (.cons (.int _) .nil), g => cases g; exact ⟨i, j, rfl, q _ H (Same.refl H) (.int _)⟩
theorem cd_min : CallD K (fun xs H Q => ∃ i j, xs = [.int i, .int j] ∧ Q (.int (if j < i then j else i)) H) gMin := fun av H xs ds z Q tr r g q => by
  match ds, r, g with
  | [.int i, .int j], .cons (.int _) (.cons (.int _) .nil), g => cases g; exact ⟨i, j, rfl, q _ H (Same.refl H) (.int _)⟩
def gInt1 : List PyData → Option PyData
  | [.int i] => some (.int i)
  | [.bool k] => some (.int (if k then 1 else 0))
  | _ => none
theorem cd_int : CallD K (fun xs H Q => (∃ i, xs = [.int i] ∧ Q (.int i) H) ∨ ∃ k, xs = [.bl k] ∧ Q (.int (if k then 1 else 0)) H) gInt1 := fun av H xs ds z Q tr r g q => by
  match ds, r, g with
  | [.int i], .cons (.int _) .nil, g => cases g; exact .inl ⟨i, rfl, q _ H (Same.refl H) (.int _)⟩
  | [.bool k], .cons (.bl _) .nil, g => cases g; exact .inr ⟨k, rfl, q _ H (Same.refl H) (.int _)⟩
abbrev SP := En → R (Option Int)
def relP : Rel (Option Int) (Option Int) := fun _ _ _ _ _ _ a b => a = b
theorem early_P {K : PySem.W.Frag} : Early K (relP) := fun _ _ _ _ _ _ _ _ _ _ _ _ _ _ h => h
abbrev xP (K : PySem.W.Frag) (mg : Str → Option Value) (W : WX) (C : Cn) (s : SP) : TO := xG K mg W C relP s
theorem po_imp {o : Option Expr} {t t' : TO} (h : PO X o t) (f : ∀ σ H Q, t' σ H Q → t σ H Q) : PO X o t' := ⟨fun pins s σ H Q I q => h.run pins s σ H Q I (f σ H Q q)⟩
def sP0 : SP := fun S => .ok none S
def sP1 (se : SE) : SP := fun S => (se S).bind fun d S1 => match d with
  | .int i => .ok (some i) S1
  | _ => .no
theorem p_none : PO X none (xP X.K X.mg W C sP0) := po_imp po_none fun σ H Q ⟨ow, S, r, q⟩ => pst_ok (mg := X.mg) (W := W) (rel := relP) (d := none) r q rfl
theorem p_some (h : PE X e (xE X.K X.mg W C se)) : PO X (some e) (xP X.K X.mg W C (sP1 se)) := po_imp (po_some h) fun σ H Q ⟨ow, S, r, q⟩ => seq early_P r q fun S1 d v H1 r1 x1 rd k => by
  cases rd with
  | int i => exact ⟨i, rfl, pst_ok r1 k rfl⟩
  | _ => exact k.elim
def cutD (ds : List PyData) (lo hi : Option Int) : List PyData := (ds.drop (HT.sIx ds.length 0 lo)).take (HT.sIx ds.length ds.length hi - HT.sIx ds.length 0 lo)
theorem RDs.cut {av : Av} {H : Hp} {vs : List V} {ds : List PyData} (h : RDs K av H vs ds) (lo hi : Option Int) : RDs K av H (cutV vs lo hi) (cutD ds lo hi) := by
  unfold cutV cutD
  rw [h.len]
  exact (h.drop _).take _
/-- t[lo:hi], s[lo:hi] -/
def gCut (d : PyData) (lo hi : Option Int) : Option PyData := match d with
  | .tuple ds => some (.tuple (cutD ds lo hi))
  | .str z => if z.length ≤ sizeLine then some (.str (cutS z lo hi)) else none
  | .list ds => some (.list (cutD ds lo hi))
  | .dict [(.bool true, .list ds)] => some (.list (cutD ds lo hi))
  | _ => none
def sCut (sa : SE) (l u : SP) : SE := fun S => (sa S).bind fun d S1 => (l S1).bind fun lo S2 => (u S2).bind fun hi S3 => R.opt (gCut d lo hi) S3
def rSlF (K : PySem.W.Frag) : V → Option Int → Option Int → Hp → VK → Prop := fun x lo hi H Q => ∃ a xs, x = .ref a ∧ SqT K H a xs ∧
  (HT.sIx xs.length 0 lo = 0 ∧ HT.sIx xs.length xs.length hi = xs.length → Q (.ref a) H) ∧ (¬ (HT.sIx xs.length 0 lo = 0 ∧ HT.sIx xs.length xs.length hi = xs.length) → NT H (cutV xs lo hi) Q)
theorem sl_tupF {X : Cx} : SlR X (rSlF X.K) := by
  intro pins s σ H x v vl vu lo hi sl Q I rx hs pl pu h
  obtain ⟨a, xs, rfl, hx, q1, q2⟩ := h
  cases rx
  obtain ⟨ws, r, ht, hz⟩ := I.tuple hx
  have el : ws.toArray.size = xs.length := by rw [List.size_toArray]; exact r.length.symm
  refine ⟨"tuple", _, PyProof.Rows.slot_tuple_getitem.lookup, ht.typeIs, ?_⟩
  by_cases hw : HT.sIx xs.length 0 lo = 0 ∧ HT.sIx xs.length xs.length hi = xs.length
  · exact getItem_tuple_whole ht hs pl pu (by rw [el]; exact hw) ⟨.ref a, H, I, rfl, q1 hw⟩
  · refine HT.getItem_tuple_cut ht hs pl pu (by rw [el]; exact hw) ?_ (by rw [el]; exact hz)
    rw [el]
    exact (q2 hw).run (tk := s.toks) I ((r.drop (HT.sIx xs.length 0 lo)).take (HT.sIx xs.length xs.length hi - HT.sIx xs.length 0 lo)) (Nat.le_trans (cutV_length xs lo hi) hz)
theorem cut_whole {α : Type} {ds : List α} {lo hi : Option Int} (h : HT.sIx ds.length 0 lo = 0 ∧ HT.sIx ds.length ds.length hi = ds.length) : (ds.drop (HT.sIx ds.length 0 lo)).take (HT.sIx ds.length ds.length hi - HT.sIx ds.length 0 lo) = ds := by
  rw [h.1, h.2, Nat.sub_zero, List.drop_zero, List.take_length]
theorem e_cut {lo hi : Option Expr} {l u : SP} {p2 : Pos} (ha : PE X a (xE X.K X.mg W C sa)) (hl : PO X lo (xP X.K X.mg W C l)) (hu : PO X hi (xP X.K X.mg W C u)) : PE X (.Subscript a (.Slice lo hi none p2) pos) (xE X.K X.mg W C (sCut sa l u)) :=
  pe_imp (pe_slice (sl_list.or (sl_tupF.or sl_str)) ha hl hu) fun σ H Q ⟨ow, S, r, q⟩ => seq early_E r q fun S1 d v H1 r1 x1 rd k1 => seq early_E r1 k1 fun S2 lo lo' H2 r2 x2 e2 k2 => seq early_E r2 k2 fun S3 hi hi' H3 r3 x3 e3 k3 => by
    have e2' : lo' = lo := e2
    have e3' : hi' = hi := e3
    subst e2'
    subst e3'
    have rd3 := RD.mono ((x2).trans (Grow.refl _ _) x3) (Grow.refl _ _) d v rd
    cases rd3 with
    | @tup p xs ds h1 h2 =>
      change pst X.K X.mg W C (relE X.K) ow σ H3 Q (R.ok (.tuple (cutD ds lo' hi')) S3) at k3
      refine .inr (.inl ⟨p, xs, rfl, h1.sq, fun hw => ?_, fun _ l o nl d c => ?_⟩)
      · refine pst_ok r3 k3 ?_
        have : cutD ds lo' hi' = ds := cut_whole (by rw [← h2.len]; exact hw)
        rw [this]
        exact .tup h1 h2
      · exact pst_same r3 k3 (same_new nl) (rd_newT r3.tracked (h2.cut lo' hi') nl d c)
    | @lst p xs ds h1 h2 =>
      change pst X.K X.mg W C (relE X.K) ow σ H3 Q (R.ok (.list (cutD ds lo' hi')) S3) at k3
      exact .inl ⟨p, xs, rfl, h1.sq, fun l nl => pst_same r3 k3 (same_new nl) (rd_newL r3.tracked (h2.cut lo' hi') nl)⟩
    | @scr p ns h1 =>
      change pst X.K X.mg W C (relE X.K) ow σ H3 Q (R.ok (.list (cutD (ns.map PyData.int) lo' hi')) S3) at k3
      exact .inl ⟨p, _, rfl, h1.sq, fun l nl => pst_same r3 k3 (same_new nl) (rd_newL r3.tracked ((RDs.mkInts ns).cut lo' hi') nl)⟩
    | str z =>
      change pst X.K X.mg W C (relE X.K) ow σ H3 Q (R.opt (if z.length ≤ sizeLine then some (PyData.str (cutS z lo' hi')) else none) S3) at k3
      by_cases c : z.length ≤ sizeLine
      · rw [if_pos c] at k3
        exact .inr (.inr ⟨z, rfl, c, pst_ok r3 k3 (.str _)⟩)
      · rw [if_neg c] at k3
        exact k3.elim
    | _ => exact k3.elim
/-- sep.join(l) -/
def strsOf : List PyData → Option (List Str)
  | [] => some []
  | .str b :: ds => (strsOf ds).map (b :: ·)
  | _ => none
theorem strsOf_map : ∀ {ds : List PyData} {bs : List Str}, strsOf ds = some bs → ds = bs.map PyData.str
  | [], bs, h => by cases h; rfl
  | .str b :: ds, bs, h => by
    change (strsOf ds).map (b :: ·) = some bs at h
    cases e : strsOf ds with
    | none => rw [e] at h; cases h
    | some cs =>
      rw [e] at h
      cases h
      rw [List.map_cons, ← strsOf_map e]
def gJoin (d : PyData) (ds : List PyData) : Option PyData := match d, strsOf ds with
  | .str s, some ys => if (ys.map (·.length)).sum + ys.length * s.length ≤ 16777216 then some (.str (Txt.join s ys)) else none
  | _, _ => none
def sJoin (sa : SE) (sl : SN) : SE := fun S => (sa S).bind fun d S1 => match d with
  | .str s => (sl S1).bind fun ds S2 => R.opt (gJoin (.str s) ds) S2
  | _ => .no
/-- tuple(range(n)), list(range(n)) -/
def sTupRg (sa : SE) : SE := fun S => (sa S).bind fun d S1 => match d with
  | .int n => if 0 ≤ n ∧ n ≤ 16777216 then .ok (.tuple (rng 0 n)) S1 else .no
  | _ => .no
theorem rds_rg {av : Av} {H : Hp} (n : Int) : RDs K av H (rgV 0 n) (rng 0 n) := by
  have e1 : rgV 0 n = ((List.range (n - 0).toNat).map fun i => (0 : Int) + (i : Nat)).map V.int := by unfold rgV; rw [List.map_map]; rfl
  have e2 : rng 0 n = ((List.range (n - 0).toNat).map fun i => (0 : Int) + (i : Nat)).map PyData.int := by unfold rng; rw [List.map_map]; rfl
  rw [e1, e2]
  exact RDs.mkInts _
theorem pe_tupRgF {e : Expr} {te} {p pos : Pos} (hc : X.calm = true) (hg : Gl X "tuple") (hm : X.mg "tuple" = none) (he : PRg X e te) (na : starEach [e] X.env = (false, eval e X.env) :: starEach [] X.env := by rfl) :
    PE X (.Call (.Name "tuple" p) [e] [] pos) (tTupRgF te) := by
  refine ⟨fun pins s σ H Q I h => ?_⟩
  refine Call_ (ld_blt I hg hm boot_tuple (PyProof.Rows.callWith_type1 (args_cons (thn (he pins s σ H _ I h) fun x s1 ⟨r, a, b, t, u, v, H1, ex, hr, I1, ok, q⟩ => args_nil ?_) na) na))
  subst ex
  obtain ⟨b1, b2, b3, b4, b5⟩ := ok
  refine call_tuple_range (n := (b - a).toNat) (I1.ok.hd hc) hr (small_one b1 b2 b3 b4) (rangeSize_nat a b) b5 fun h2 tk acc hk hi => ?_
  have I2 : Inv X pins σ H1 { s1 with heap := h2, toks := tk } := I1.kept hk
  have := q.run (tk := tk) (s := { s1 with heap := h2, toks := tk }) I2 (vals_rg hi) (by rw [rgV_length, sizeLine_eq]; omega)
  rw [Array.toArray_toList] at this
  exact this
theorem e_tupRg {p p2 pos2 : Pos} (hc : X.calm = true) (hg : Gl X "tuple") (hm : X.mg "tuple" = none) (hg2 : Gl X "range") (hm2 : X.mg "range" = none) (ha : PE X a (xE X.K X.mg W C sa))
    (na : starEach [.Call (.Name "range" p2) [a] [] pos2] X.env = (false, eval (.Call (.Name "range" p2) [a] [] pos2) X.env) :: starEach [] X.env := by rfl) (nb : starEach [a] X.env = (false, eval a X.env) :: starEach [] X.env := by rfl) :
    PE X (.Call (.Name "tuple" p) [.Call (.Name "range" p2) [a] [] pos2] [] pos) (xE X.K X.mg W C (sTupRg sa)) :=
  pe_imp (pe_tupRgF hc hg hm (prg_1 hg2 hm2 ha nb) na) fun σ H Q ⟨ow, S, r, q⟩ => seq early_E r q fun S1 d v H1 r1 x1 rd k1 => by
    cases rd with
    | int n =>
      change pst X.K X.mg W C (relE X.K) ow σ H1 Q (if 0 ≤ n ∧ n ≤ 16777216 then .ok (.tuple (rng 0 n)) S1 else .no) at k1
      by_cases c : 0 ≤ n ∧ n ≤ 16777216
      · rw [if_pos c] at k1
        exact ⟨n, rfl, RgOk.of_le (Int.le_refl 0) c.2 (by omega) c.1, fun l o nl d c => pst_same r1 k1 (same_new nl) (rd_newT r1.tracked (rds_rg n) nl d c)⟩
      · rw [if_neg c] at k1
        exact k1.elim
    | _ => exact k1.elim
end
end Ds
end
section
set_option Elab.async false
set_option linter.all false
set_option maxRecDepth 100000
set_option maxHeartbeats 4000000
namespace Ds
open PySem PySem.Spec PyProof.Rows L2
section
variable {X : Cx} {K : PySem.W.Frag} {W : WX} {C : Cn} {a b c e tg : Expr} {pos : Pos} {sa sb sc se : SE} {sn sl sr : SN} {i : Nat} {pins : List (Addr × Obj)} {σ : St} {H : Hp} {s : Shared}
mutual
def dzD : PyData → Bool
  | .dict [] => true
  | .dict (_ :: _) => false
  | .list ds => dzDs ds
  | .tuple ds => dzDs ds
  | _ => true
def dzDs : List PyData → Bool
  | [] => true
  | d :: ds => dzD d && dzDs ds
end
mutual
theorem dz_of : ∀ d : PyData, d.hasDict = false → dzD d = true
  | .none, _ => by simp [dzD]
  | .bool _, _ => by simp [dzD]
  | .int _, _ => by simp [dzD]
  | .str _, _ => by simp [dzD]
  | .list ds, h => by simp only [dzD]; exact dzs_of ds (by simpa [PyData.hasDict] using h)
  | .tuple ds, h => by simp only [dzD]; exact dzs_of ds (by simpa [PyData.hasDict] using h)
  | .dict _, h => by simp [PyData.hasDict] at h
theorem dzs_of : ∀ ds : List PyData, PyData.hasDictAll ds = false → dzDs ds = true
  | [], _ => by simp [dzDs]
  | d :: ds, h => by
    have h' : d.hasDict = false ∧ PyData.hasDictAll ds = false := by simpa [PyData.hasDictAll] using h
    simp [dzDs, dz_of d h'.1, dzs_of ds h'.2]
end
mutual
theorem RD.shw (I : Inv X pins σ H s) {av : Av} : ∀ (d : PyData) (v : V) (u : Value), RD X.K av H v d → RelV v u → dzD d = true → d.showable = true → d.shown.length ≤ sizeLine → ∃ as bs, Reads s.heap u d as ∧ ReadAtMost s.heap d.depth bs ∧ ReprK X.prog X.w bs s.heap d.depth u d.shown
  | .none, _, _, h, r, _, h1, h2 => by
    cases h; cases r
    obtain ⟨bs, q1, q2⟩ := ReprK.of_reads (prog := X.prog) (w := X.w) (Reads.none (h := s.heap)) h1 (fun z => by simp [PyData.hasDict] at z) h2
    exact ⟨_, bs, .none, q1, q2⟩
  | .bool b, _, _, h, r, _, h1, h2 => by
    cases h; cases r
    obtain ⟨bs, q1, q2⟩ := ReprK.of_reads (prog := X.prog) (w := X.w) (Reads.bool (h := s.heap) b) h1 (fun z => by simp [PyData.hasDict] at z) h2
    exact ⟨_, bs, .bool b, q1, q2⟩
  | .int i, _, _, h, r, _, h1, h2 => by
    cases h; obtain ⟨t, rfl⟩ := r
    obtain ⟨bs, q1, q2⟩ := ReprK.of_reads (prog := X.prog) (w := X.w) (Reads.int (h := s.heap) i t) h1 (fun z => by simp [PyData.hasDict] at z) h2
    exact ⟨_, bs, .int i t, q1, q2⟩
  | .str x, _, _, h, r, _, h1, h2 => by
    cases h; obtain ⟨t, rfl⟩ := r
    obtain ⟨bs, q1, q2⟩ := ReprK.of_reads (prog := X.prog) (w := X.w) (Reads.str (h := s.heap) x t) h1 (fun z => by simp [PyData.hasDict] at z) h2
    exact ⟨_, bs, .str x t, q1, q2⟩
  | .list ds, _, _, h, r, hd, h1, h2 => by
    cases h with
    | @lst p xs _ g1 g2 =>
      cases r
      obtain ⟨its, rv, ⟨o, n, e, c1, _, c3⟩, _⟩ := I.list g1.sq
      have hz' : (listText (PyData.shownAll ds)).length ≤ sizeLine := by simpa only [PyData.shown] using h2
      obtain ⟨as, bs, q, hb, hk⟩ := RDs.shw I ds _ its g2 rv (by simpa [dzD] using hd) (by simpa [PyData.showable] using h1) (fun t ht => Nat.le_trans (listText_mem_le ht) hz')
      have r : Reads s.heap (.ref p) (.list ds) _ := .list e c1 c3 (by simpa using q)
      have hna : p ∉ bs := not_mem_of_deeper r (by simp only [PyData.depth]; omega) hb
      refine ⟨_, p :: bs, r, ReadAtMost.cons r (by simp only [PyData.depth]; omega) hb, ?_⟩
      simp only [PyData.depth, PyData.shown]
      cases its with
      | nil =>
        cases q
        simp only [PyData.shownAll, listText_nil]
        exact ReprK.listEmpty e c1 c3
      | cons x l => exact ReprK.list e c1 c3 hna (by simpa using hk.length_eq) (fun i y e => hk.item i y (by simpa using e))
  | .tuple ds, _, _, h, r, hd, h1, h2 => by
    cases h with
    | @tup p xs _ g1 g2 =>
      cases r
      obtain ⟨its, rv, ⟨o, e, c1, n, c3⟩, _⟩ := I.tuple g1.sq
      have hz' : (tupleText (PyData.shownAll ds)).length ≤ sizeLine := by simpa only [PyData.shown] using h2
      obtain ⟨as, bs, q, hb, hk⟩ := RDs.shw I ds _ its g2 rv (by simpa [dzD] using hd) (by simpa [PyData.showable] using h1) (fun t ht => Nat.le_trans (tupleText_mem_le ht) hz')
      have r : Reads s.heap (.ref p) (.tuple ds) _ := .tuple e c1 c3 (by simpa using q)
      have hna : p ∉ bs := not_mem_of_deeper r (by simp only [PyData.depth]; omega) hb
      refine ⟨_, p :: bs, r, ReadAtMost.cons r (by simp only [PyData.depth]; omega) hb, ?_⟩
      simp only [PyData.depth, PyData.shown]
      exact ReprK.tuple e c1 c3 hna (by simpa using hk)
  | .dict kvs, _, _, h, r, hd, h1, h2 => by
    cases h with
    | @dic p g1 g2 =>
      cases r
      obtain ⟨_, hm, vs, kv, o, es, ep, e1, e2, e3, e4⟩ := I.hok p _ g1
      cases kv
      have he : es.toList = [] := by
        cases q : es.toList with
        | nil => rfl
        | cons x r => have := e4.2.1; rw [q] at this; cases this
      have r : Reads s.heap (.ref p) (.dict []) (p :: [] ++ []) := .dict (es := es) (n := ep) (as := []) (bs := []) e1 e2.1 e3 (by rw [he]; exact .nil) (by rw [he]; exact .nil)
      obtain ⟨bs, q1, q2⟩ := ReprK.of_reads (prog := X.prog) (w := X.w) r h1 (fun _ => by
        simp
        exact fun z => by rw [z] at hm; simp at hm) h2
      exact ⟨_, bs, r, q1, q2⟩
    | exc g1 g2 => simp [dzD] at hd
    | exf g1 g2 g3 => simp [dzD] at hd
    | scr g1 => simp [scrD, dzD] at hd
    | dct _ _ _ _ _ _ => simp [dzD] at hd
theorem RDs.shw (I : Inv X pins σ H s) {av : Av} : ∀ (ds : List PyData) (vs : List V) (us : List Value), RDs X.K av H vs ds → Vals vs us → dzDs ds = true → PyData.showableAll ds = true → (∀ t ∈ PyData.shownAll ds, t.length ≤ sizeLine) → ∃ as bs, ReadsAll s.heap us ds as ∧ ReadAtMost s.heap (PyData.depthAll ds) bs ∧ ReprAllK X.prog X.w bs s.heap (PyData.depthAll ds) us (PyData.shownAll ds)
  | [], _, _, h, r, _, _, _ => by
    cases h; cases r
    exact ⟨_, [], .nil, (fun _ h => nomatch h), by simp only [PyData.shownAll]; exact .nil⟩
  | d :: ds, _, _, h, r, hd, h1, h2 => by
    cases h with
    | cons g1 g2 =>
      cases r with
      | cons r1 r2 =>
        have hd' : dzD d = true ∧ dzDs ds = true := by simpa [dzDs] using hd
        have hs' : d.showable = true ∧ PyData.showableAll ds = true := by simpa [PyData.showableAll] using h1
        obtain ⟨as, b1, q1, hb1, k1⟩ := RD.shw I d _ _ g1 r1 hd'.1 hs'.1 (h2 _ (by simp only [PyData.shownAll]; exact List.mem_cons_self ..))
        obtain ⟨as2, b2, q2, hb2, k2⟩ := RDs.shw I ds _ _ g2 r2 hd'.2 hs'.2 (fun t ht => h2 t (by simp only [PyData.shownAll]; exact List.mem_cons_of_mem _ ht))
        refine ⟨_, b1 ++ b2, .cons q1 q2, ?_, ?_⟩
        · simp only [PyData.depthAll]
          exact (hb1.mono (Nat.le_max_left _ _)).append (hb2.mono (Nat.le_max_right _ _))
        · simp only [PyData.depthAll, PyData.shownAll]
          exact .cons ((k1.more fun b hb => List.mem_append_left _ hb).level_le (Nat.le_max_left _ _)) (k2.more_le (fun b hb => List.mem_append_right _ hb) (Nat.le_max_right _ _))
end
def okR (d : PyData) : Prop := d.showable = true ∧ d.depth ≤ 64 ∧ d.shown.length ≤ sizeLine ∧ (PyData.hasDict d = false ∨ dzD d = true)
instance (d : PyData) : Decidable (okR d) := by
  unfold okR
  infer_instance
theorem okR.dz {d : PyData} (h : okR d) : dzD d = true := h.2.2.2.elim (dz_of d) id
theorem repr_list {A : Around} {E : Value → Shared → Prop} {Q : Value → Shared → Prop} (I : Inv X pins σ H s) {av : Av} {p : Addr} {xs : List V} {ds : List PyData} (g1 : SqL X.K H p xs) (g2 : RDs X.K av H xs ds) (ok : okR (.list ds)) (gd : A.guards = some []) (hu : A.units + 70 < cLine)
    (hQ : ∀ h' u tk, (∀ b o, s.heap.get? b = some o → h'.get? b = some o) → Q (.str (PyData.list ds).shown u) { s with heap := h', toks := tk }) : wpAny (model X.prog X.w) A (call (.builtin "repr") [.ref p]) Q E s := by
  obtain ⟨h1, h2, h3, _⟩ := id ok
  obtain ⟨its, rv, ⟨o, n, e, c1, _, c3⟩, _⟩ := I.list g1
  have hz' : (listText (PyData.shownAll ds)).length ≤ sizeLine := by simpa only [PyData.shown] using h3
  obtain ⟨as, bs, q, hb, hk⟩ := RDs.shw I ds _ its g2 rv (by simpa [dzD] using ok.dz) (by simpa [PyData.showable] using h1) (fun t ht => Nat.le_trans (listText_mem_le ht) hz')
  have r : Reads s.heap (.ref p) (.list ds) _ := .list e c1 c3 (by simpa using q)
  have hna : p ∉ bs := not_mem_of_deeper r (by simp only [PyData.depth]; omega) hb
  simp only [PyData.depth] at h2
  simp only [PyData.shown] at hQ
  refine call_repr_slot (by omega) ⟨o, e, c1⟩ PySem.F.slot_list_repr.toG ?_
  cases its with
  | nil =>
    cases q
    simp only [PyData.shownAll, listText_nil] at hQ
    exact call_list_repr_empty ⟨o, e, c1⟩ e c3 ⟨_, _, rfl, hQ s.heap _ _ fun _ _ e => e⟩
  | cons x l =>
    exact call_list_reprK e c1 c3 hna (by simpa using hk.length_eq) (fun i y e => hk.item i y (by simpa using e)) gd (fun b _ => Clear.nil b) (by show A.units + 1 + _ < cLine; omega) (fun _ _ e => e) (fun h' u tk hk => ⟨_, _, rfl, hQ h' u tk hk⟩) hz'
def sRepr (sa : SE) : SE := fun S => (sa S).bind fun d S1 => if okR d then .ok (.str d.shown) S1 else .no
/-- repr of the list in a slot, of a new list -/
def lRepr (ds : List PyData) : Option PyData := if okR (.list ds) then some (.str (PyData.list ds).shown) else none
theorem call_reprL (gd : X.A.guards = some []) (hu : X.A.units + 100 < cLine) : CallR X (.builtin "repr") (fun xs H Q => ∃ p vs ds av, xs = [.ref p] ∧ SqL X.K H p vs ∧ RDs X.K av H vs ds ∧ okR (.list ds) ∧ Q (.str (PyData.list ds).shown) H) := by
  intro pins s σ H xs us Q I r h
  obtain ⟨p, vs, ds, av, rfl, sq, rds, ⟨h1, h2, h3, h4⟩, q⟩ := h
  obtain ⟨u, rfl, ru⟩ := vals1 r
  cases ru
  exact repr_list I sq rds ⟨h1, h2, h3, h4⟩ gd (by omega) (fun h' tk t k => ⟨.str _, H, I.kept (t' := t) k, ⟨_, rfl⟩, q⟩)
theorem ld_repr : LstD K (fun xs H Q => ∃ p vs ds av, xs = [.ref p] ∧ SqL K H p vs ∧ RDs K av H vs ds ∧ okR (.list ds) ∧ Q (.str (PyData.list ds).shown) H) lRepr := fun av H p vs ds z Q tr h r g q => by
  unfold lRepr at g
  by_cases c : okR (.list ds)
  · rw [if_pos c] at g
    cases g
    exact ⟨p, vs, ds, av, rfl, h, r, c, q _ H (Same.refl H) (.str _)⟩
  · rw [if_neg c] at g
    cases g
def signs (x : Str) : List PyData := x.cps.toList.map fun c => .str ⟨#[c]⟩
def asS (d : PyData) : Option (List PyData) := match d with
  | .str x => some (signs x)
  | _ => none
def sIS (se : SE) : SN := fun S => (se S).bind fun d S1 => R.opt (asS d) S1
theorem itd_str {av1 : Av} {H : Hp} (x : Str) : ItD K (Its x) av1 H (signs x) := fun av2 H1 _ g _ _ => by
  have hl : (signs x).length = x.cps.size := by unfold signs; simp
  refine ⟨fun i hi => by show i < x.cps.size; rw [← hl]; exact hi, by show x.cps.size ≤ _; rw [hl]; exact Nat.le_refl _, fun i d v H2 e y => ?_⟩
  obtain ⟨y1, c, y2, y3⟩ := y
  subst y1
  subst y3
  unfold signs at e
  rw [List.getElem?_map, Array.getElem?_toList, y2] at e
  cases e
  exact ⟨Same.refl _, .str _⟩
theorem i_str (h : PE X e (xE X.K X.mg W C se)) : PI X tg e (xI X.K X.mg W C (sIS se)) := pi_imp (pi_str h) fun σ H Q ⟨ow, S, r, q⟩ =>
  seq early_I r q fun S1 d v H1 r1 x1 rd k => by
    cases rd with
    | str x => exact ⟨x, rfl, pst_ok r1 k (itd_str x)⟩
    | _ => exact k.elim
theorem meets_enum_tup (l : Addr) (items : Array Value) (n : Nat) (dct : Option Addr) (sl : Array (Option Value)) :
    Meets (Builtin.«enumerate.__new__» ⟨[.type "enumerate", .ref l], []⟩) (fun _ R s => s.heap.get? l = some { cls := .type "tuple", dict := dct, data := .seq items n, slots := sl } ∧
      R (.ok (.ret (.ref (s.heap.objs.size + 1)))) { s with heap := (s.heap.push { cls := .type "tuple_iterator", data := .fields #[.ref l, .int 0 0] }).push { cls := .type "enumerate", data := .fields #[.none, .bool false, .ref s.heap.objs.size, rawInt 0, .none, .none] } }) :=
  .of_wp fun prog w A R s h => by
    obtain ⟨hp, g, d, tk, os⟩ := s
    obtain ⟨hl, h⟩ := h
    have hsub := sub_enumerate
    have hT : Heap.IsTuple (Shared.heap ⟨hp, g, d, tk, os⟩) l items := ⟨_, hl, rfl, n, rfl⟩
    have hz : (hp.push { cls := .type "tuple_iterator", data := .fields #[.ref l, .int 0 0] }).objs.size = hp.objs.size + 1 := Heap.size_push ..
    have h' : R (.ok (.ret (.ref (hp.push { cls := .type "tuple_iterator", data := .fields #[.ref l, .int 0 0] }).objs.size))) ⟨(hp.push { cls := .type "tuple_iterator", data := .fields #[.ref l, .int 0 0] }).push { cls := .type "enumerate", data := .fields #[.none, .bool false, .ref hp.objs.size, rawInt 0, .none, .none] }, g, d, tk, os⟩ := by
      rw [hz]
      exact h
    wp_walk using wpAny_loadPart' hl
    refine wpAny_stack_any fun st => wpAny_pure ?_
    split
    · rename_i c _ _ _ _ _
      cases (c == Value.type "enumerate")
      · wp_walk using wpAny_loadPart' hl, wpAny_pyIter_tuple hT
        exact ⟨_, rfl, h'⟩
      · wp_walk using wpAny_loadPart' hl, wpAny_pyIter_tuple hT
        exact ⟨_, rfl, h'⟩
    · wp_walk using wpAny_loadPart' hl, wpAny_pyIter_tuple hT
      exact ⟨_, rfl, h'⟩
/-- the tuple at a, each item in a new pair -/
def Iet (K : PySem.W.Frag) (a : Addr) : It where
  go := fun i H => ∃ (xs : List V) (x : V), SqT K H a xs ∧ xs[i]? = some x
  yld := fun i H v H' => ∃ (T : Addr) (x : V) (o : Obj), v = .ref T ∧ H T = none ∧ o.dict = none ∧ o.cls = .type "tuple" ∧ H' = upd H T (.frz o (.tup [.int (i : Nat), x])) ∧ ∀ xs, SqT K H a xs → xs[i]? = some x
  stop := fun i H => ∃ xs : List V, SqT K H a xs ∧ xs.length = i
theorem two_mem {b e it : Addr} (h : b ∈ [e, it]) : b = e ∨ b = it := by simpa using h
theorem turn_enumT {P : Program} {w : World} {K : PySem.W.Frag} {elts : List Expr} {kk : Nat} {tpos : Pos} (a e it : Addr) :
    Turn P w K (.Tuple elts kk tpos) (Iet K a) [e, it] e (fun i h => (∃ old, IsEnum h e it ((i : Nat) : Int) old) ∧ h.IsTupleIter it a i ∧ e ≠ it) where
  mem := by simp
  obj := fun i h ⟨⟨old, he⟩, ⟨o, ho, hc, hd⟩, _⟩ b hb => by
    rcases two_mem hb with rfl | rfl
    · exact ⟨_, he, fun v q => nomatch q⟩
    · exact ⟨o, ho, fun v q => by rw [hd] at q; cases q⟩
  keep := fun i h h' ⟨⟨old, he⟩, hi, hne⟩ k => ⟨⟨old, k e (by simp) _ he⟩, hi.at fun o q => k it (by simp) o q, hne⟩
  item := by
    intro X hP hw hK hc i pins s σ H E I hf st hg
    subst hP hw hK
    obtain ⟨⟨old, he⟩, hit, hne⟩ := st
    obtain ⟨xs, x, hq, hx⟩ := hg
    obtain ⟨its, rv, ht, hz⟩ := I.tuple hq
    obtain ⟨u, hu, ru⟩ := rv.get hx
    have hT : s.heap.IsTuple a its.toArray := ht
    have n1 : a ≠ it := fun z => by
      obtain ⟨o, ho, hc1, _⟩ := hit
      obtain ⟨o', ho', hc2, _⟩ := ht
      rw [z, ho] at ho'
      cases ho'
      rw [hc1] at hc2
      injection hc2 with w
      exact absurd w (by decide)
    have n2 : e ≠ a := fun z => by
      obtain ⟨o', ho', hc2, _⟩ := ht
      have he' : s.heap.get? e = some _ := he
      rw [z, ho'] at he'
      cases he'
      injection hc2 with w
      exact absurd w (by decide)
    have lt : i < its.toArray.size := by
      rw [List.size_toArray]
      exact (List.getElem?_eq_some_iff.mp hu).1
    have hel : e < s.heap.objs.size := Heap.lt_size he
    have hil : it < s.heap.objs.size := hit.elim fun _ q => Heap.lt_size q.1
    refine wpAny_pyNext_enum_itemD (Draws.tuple (prog := X.prog) (w := X.w) (A := X.A.in1) (show X.A.in1.handled = none from I.ok.hd hc) it a n1 its.toArray) he ⟨hit, hT⟩ lt hne (by simp [hne, n2]) fun y h1 tk hy ho hst hN hsz hk => ?_
    have ey : y = u := by
      rw [← Array.getElem?_toList] at hy
      exact Option.some.inj (hy.symm.trans hu)
    subst ey
    refine ⟨_, rfl, wpAny_letOwnedTupleGo_enum (s := { s with heap := h1, toks := tk + 1 }) ho fun h2 he2 sb => ?_⟩
    have hN2 : h2.get? s.heap.objs.size = some { cls := .type "tuple", data := .seq #[.int i tk, y] } := (sb.2 _ (Nat.ne_of_gt hel)).trans hN
    have new : ObjOk X.prog X.w (upd H s.heap.objs.size (.frz { cls := .type "tuple", data := .seq #[.int i tk, y] } (.tup [.int (i : Nat), x]))) h2 s.heap.objs.size (.frz { cls := .type "tuple", data := .seq #[.int i tk, y] } (.tup [.int (i : Nat), x])) :=
      ⟨hN2, by show 2 ≤ sizeLine; decide, [.int i tk, y], .cons ⟨_, rfl⟩ (.cons ru .nil), ⟨_, hN2, rfl, _, rfl⟩⟩
    have I1 := I.turnedNew (t' := tk + 1) (ch := [e, it]) (fun b ob hb q => (sb.2 b (fun z => hb (by simp [z]))).trans (hk b ob (fun z => hb (by simp [z])) (fun z => hb (by simp [z])) q)) hf (Nat.le_refl _) new
    refine ⟨.ref s.heap.objs.size, _, I1, rfl, ⟨_, x, _, rfl, I.hok.fresh (Nat.le_refl _), rfl, rfl, rfl, fun ys hy => by rw [I.tuple_inj hy hq]; exact hx⟩, ⟨⟨y, ?_⟩, hst.1.at fun o q => (sb.2 it (Ne.symm hne)).trans q, hne⟩, fun b hb => ?_⟩
    · have e1 : ((i + 1 : Nat) : Int) = (i : Int) + 1 := by omega
      rw [e1]
      exact he2
    · have hb2 : b < s.heap.objs.size := by
        rcases two_mem hb with rfl | rfl
        · exact hel
        · exact hil
      rw [upd_ne (Nat.ne_of_lt hb2)]
      exact (hf b hb).1
  done := by
    intro X hP hw hK hc i pins s σ H E I hf st hg
    subst hP hw hK
    obtain ⟨⟨old, he⟩, hit, hne⟩ := st
    obtain ⟨xs, hq, hx⟩ := hg
    obtain ⟨its, rv, ht, hz⟩ := I.tuple hq
    have hl := rv.length
    have hT : s.heap.IsTuple a its.toArray := ht
    have n1 : a ≠ it := fun z => by
      obtain ⟨o, ho, hc1, _⟩ := hit
      obtain ⟨o', ho', hc2, _⟩ := ht
      rw [z, ho] at ho'
      cases ho'
      rw [hc1] at hc2
      injection hc2 with w
      exact absurd w (by decide)
    obtain ⟨f0, f1, f2, f3, f4, f5⟩ := hf it (by simp)
    have hn : i = its.toArray.size := by rw [List.size_toArray]; omega
    subst hn
    exact wpAny_pyNext_enum_endD (Draws.tuple (prog := X.prog) (w := X.w) (A := X.A.in1) (show X.A.in1.handled = none from I.ok.hd hc) it a n1 its.toArray) he ⟨hit, hT⟩ fun h' eb => ⟨rfl, I.turned (t' := s.toks) (fun b o hb q => eb b o hb q) f0 f1 f3 f4 f5⟩
  self := fun A i s Q E ⟨⟨_, he⟩, _⟩ h => wpAny_pyIter_enum he h
def rIetT (K : PySem.W.Frag) (ta : TA) : TI := fun σ H R => ta σ H fun vs H1 => ∃ a xs, vs = [.ref a] ∧ SqT K H1 a xs ∧ R (Iet K a) H1
theorem pi_enumT {p tpos : Pos} {elts : List Expr} {kk : Nat} {ta : TA} (hg : Gl X "enumerate") (hm : X.mg "enumerate" = none) (ha : PA X [e] ta) (hs : starEach [e] X.env = [(false, eval e X.env)] := by rfl) :
    PI X (.Tuple elts kk tpos) (.Call (.Name "enumerate" p) [e] [] pos) (rIetT X.K ta) := by
  refine ⟨fun pins s σ H R I h => ?_⟩
  refine Call_ (ld_blt I hg hm boot_enumerate (PyProof.Rows.callWith_type1 (thn (ha.run pos pins s σ H _ I h) fun us s1 ⟨vs, H1, I1, r1, a, xs, ex, hq, q⟩ => ?_) hs rfl))
  subst ex
  obtain ⟨u, rfl, ru⟩ := vals1 r1
  cases ru
  obtain ⟨its, rv, ⟨⟨c, dd, dt, sl⟩, ho, hc, n, hd⟩, hz⟩ := I1.tuple hq
  simp only at hc hd
  subst hc hd
  refine callType_new F.called_enumerate (by decide) (F.typeCall_enumerate_1 _) (F.newCall_enumerate_1 _) (fun obj => F.args_object_init_2 obj _) F.entry_enumerate_new (meets_enum_tup a its.toArray n dd sl) ⟨ho, ?_⟩
  have hz1 : (s1.heap.push { cls := .type "tuple_iterator", data := .fields #[.ref a, .int 0 0] }).objs.size = s1.heap.objs.size + 1 := Heap.size_push ..
  have he : IsEnum ((s1.heap.push { cls := .type "tuple_iterator", data := .fields #[.ref a, .int 0 0] }).push { cls := .type "enumerate", data := .fields #[.none, .bool false, .ref s1.heap.objs.size, rawInt 0, .none, .none] }) (s1.heap.objs.size + 1) s1.heap.objs.size 0 .none := by
    have := Heap.get?_push_size (s1.heap.push { cls := .type "tuple_iterator", data := .fields #[.ref a, .int 0 0] }) (o := { cls := .type "enumerate", data := .fields #[.none, .bool false, .ref s1.heap.objs.size, rawInt 0, .none, .none] }) rfl
    rw [hz1] at this
    exact this
  refine ⟨⟨_, he, rfl⟩, wpAny_pyIter_enum he ?_⟩
  have I2 := I1.kept (t' := s1.toks) (h' := (s1.heap.push { cls := .type "tuple_iterator", data := .fields #[.ref a, .int 0 0] }).push { cls := .type "enumerate", data := .fields #[.none, .bool false, .ref s1.heap.objs.size, rawInt 0, .none, .none] }) fun b o q => Heap.get?_push_of_some _ (Heap.get?_push_of_some _ q)
  refine ⟨s1.heap.objs.size + 1, [s1.heap.objs.size + 1, s1.heap.objs.size], _, _, H1, rfl, I2, turn_enumT a (s1.heap.objs.size + 1) s1.heap.objs.size, ⟨⟨.none, he⟩, ⟨_, Heap.get?_push_of_some _ (Heap.get?_push_size _ rfl), rfl, rfl⟩, Nat.succ_ne_self _⟩, fun b hb => ?_, q⟩
  have hle : s1.heap.objs.size ≤ b := by
    rcases two_mem hb with rfl | rfl
    · exact Nat.le_add_right _ _
    · exact Nat.le_refl _
  exact I1.fpOk hle (I1.hok.fresh hle)
/-- enumerate, as data -/
def enumD (ds : List PyData) : List PyData := (List.range ds.length).zipWith (fun i d => .tuple [.int (i : Nat), d]) ds
theorem enumD_get {ds : List PyData} {i : Nat} {z : PyData} (h : (enumD ds)[i]? = some z) : ∃ d, ds[i]? = some d ∧ z = .tuple [.int (i : Nat), d] := by
  unfold enumD at h
  rw [List.getElem?_zipWith] at h
  cases e1 : (List.range ds.length)[i]? with
  | none => rw [e1] at h; cases h
  | some j =>
    obtain ⟨h1, h2⟩ := List.getElem?_eq_some_iff.mp e1
    rw [List.getElem_range] at h2
    subst h2
    cases e2 : ds[i]? with
    | none => rw [e1, e2] at h; cases h
    | some d =>
      rw [e1, e2] at h
      cases h
      exact ⟨d, rfl, rfl⟩
theorem enumD_len {ds : List PyData} : (enumD ds).length = ds.length := by
  unfold enumD
  rw [List.length_zipWith, List.length_range, Nat.min_self]
theorem itd_enumT {av1 : Av} {H : Hp} {p : Addr} {vs : List V} {ds : List PyData} (h : TK K av1 H p vs) (r : RDs K av1 H vs ds) : ItD K (Iet K p) av1 H (enumD ds) := fun av2 H1 x g gw tr => by
  have q := (h.mono x g).sq
  have r' := RDs.mono x g ds vs r
  have hl := r.len
  rw [enumD_len]
  refine ⟨fun i hi => ⟨vs, vs[i]'(by omega), q, List.getElem?_eq_getElem _⟩, ⟨vs, q, hl⟩, fun i z v H2 e y => ?_⟩
  obtain ⟨d, e1, e2⟩ := enumD_get e
  subst e2
  obtain ⟨T, w, o, rfl, nT, d1, c1, rfl, f⟩ := y
  obtain ⟨w', e3, e4⟩ := r'.get e1
  have := f vs q
  rw [e3] at this
  cases this
  exact ⟨same_new nT, rd_newT tr (.cons (.int _) (.cons e4 .nil)) nT d1 c1⟩
def asTE : List PyData → Option (List PyData)
  | [.tuple ds] => some (enumD ds)
  | _ => none
def sIEnT (sr : SN) : SN := fun S => (sr S).bind fun ds S1 => R.opt (asTE ds) S1
theorem i_enumT {p tpos : Pos} {elts : List Expr} {kk : Nat} (hg : Gl X "enumerate") (hm : X.mg "enumerate" = none) (ha : PA X [e] (xA X.K X.mg W C sr)) (hs : starEach [e] X.env = [(false, eval e X.env)] := by rfl) :
    PI X (.Tuple elts kk tpos) (.Call (.Name "enumerate" p) [e] [] pos) (xI X.K X.mg W C (sIEnT sr)) := pi_imp (pi_enumT hg hm ha hs) fun σ H Q ⟨ow, S, r, q⟩ =>
  seq early_I r q fun S1 ds vs H1 r1 x1 rd k => by
    match ds, rd, k with
    | [.tuple es], .cons (.tup h1 h2) .nil, k => exact ⟨_, _, rfl, h1.sq, pst_ok r1 k (itd_enumT h1 h2)⟩
end
end Ds
end
section
set_option Elab.async false
set_option linter.all false
set_option maxRecDepth 100000
set_option maxHeartbeats 4000000
namespace Ds
open PySem PySem.Spec PyProof.Rows L2
section
variable {X : Cx} {K : PySem.W.Frag} {W : WX} {C : Cn} {a b c e tg : Expr} {pos : Pos} {sa sb sc se : SE}
def gRev : PyData → Option PyData
  | .tuple ds => some (.tuple ds.reverse)
  | _ => none
def sRev (sa : SE) : SE := fun S => (sa S).bind fun d S1 => R.opt (gRev d) S1
end
end Ds
end
section
set_option Elab.async false
set_option linter.all false
set_option maxRecDepth 100000
set_option maxHeartbeats 4000000
namespace Ds
open PySem PySem.Spec PyProof.Rows L2
/-- the run of the law over an abstract heap that holds the script, or nothing -/
theorem law_core {P : Program} {w : World} {K : PySem.W.Frag} {mg mb : Str → Option Value} {k : Nat} {fa a : Addr} {fd : FuncData} {x : Str} {sp : Sp} {s₁ : Shared} {vs : List Value}
    (KX : K.In s₁.heap) (hns : s₁.heap.Ns mainGlobals mg) (hb : s₁.heap.Ns builtinsNs mb) (hbb : ∀ x : Str, x ≠ "__name__" → mb x = bootBuiltins x) (hlim : s₁.heap.NoLimit) (hg : s₁.gens = #[])
    (ha : s₁.heap.get? a = some { cls := .type "list", data := .seq vs.toArray }) (hr : Room k callerA)
    (F : ∀ base : Heap, K.In base → base.Ns mainGlobals mg → FnG P w K mg base k fa fd [x] sp) (hbind : ∀ (s : Shared) (u : Value), BindsTo s fd ⟨[u], []⟩ [(x, u)])
    (H : Hp) (hO : Only H) (hok : HOk P w H s₁.heap) (hA : ∀ b, H b ≠ none → b = a) (hK : H a ≠ none → K.lookup a = none)
    (hsp : sp [.ref a] H (fun v _ => v = .bl true) fun _ _ _ => False) :
    codeAny (model P w) callerA (.call (.ref fa) ⟨[.ref a], []⟩) (fun r s' => r = .ok (.ret (.bool true)) ∧ OldK s₁.heap s'.heap ∧ s'.os = s₁.os ∧ AllBare s'.gens) s₁ := by
  have nil_or : ∀ b, H b = none ∨ b = a := fun b => by
    cases q : H b with
    | none => exact .inl rfl
    | some u => exact .inr (hA b (by rw [q]; simp))
  have low : ∀ {b : Addr} {o : Obj}, s₁.heap.get? b = some o → H b = none → (hidT s₁.heap H).get? b = some o := fun e n => hidT_get e n
  have nsD : ∀ {b : Addr} {m : Str → Option Value}, s₁.heap.Ns b m → (hidT s₁.heap H).Ns b m := fun {b m} ⟨o, es, ep, e, d, r⟩ => by
    refine ⟨o, es, ep, low e ((nil_or b).elim id fun z => ?_), d, r⟩
    rw [z, ha] at e
    cases e
    cases (show Data.seq vs.toArray _ = Data.dict es ep from d)
  have kin : K.In (hidT s₁.heap H) := fun b o e => low (KX b o e) (by
    cases q : H b with
    | none => rfl
    | some u =>
      have z := hA b (by rw [q]; simp)
      rw [z] at e q
      rw [hK (by rw [q]; simp)] at e
      cases e)
  have md : Mod K mg (hidT s₁.heap H) := ⟨kin, nsD hns, ⟨mb, nsD hb, hbb⟩, let ⟨mc, h1, h2⟩ := hlim; ⟨mc, nsD h1, h2⟩⟩
  have e0 : Env0 P w K mg (hidT s₁.heap H) callerA [] s₁ H := ⟨rfl, md, fun b o e => of_hidT e, Nat.le_of_eq (hidT_size _ _), trivial, fun b hb => absurd (show b ∈ ([] : List Addr) from hb) (by simp), hok, .of_eq hg⟩
  refine codeAny_mono ((F _ kin (nsD hns)).run callerA [] s₁ H ⟨[.ref a], []⟩ [.ref a] [.ref a] _ _ rfl hr e0 (hbind s₁ (.ref a)) (.cons rfl .nil) hsp) fun r s' h => ?_
  match r, h with
  | .error e, h =>
    obtain ⟨_, _, _, _, _, _, _, _, _, _, _, _, z⟩ := h
    exact z.elim
  | .ok (.ret u), ⟨v, H', os, bare, un, hok', r', q⟩ =>
    have q' : v = .bl true := q
    subst q'
    cases (show u = Value.bool true from r')
    refine ⟨rfl, OldK.of_keep fun b o e => ?_, os, bare⟩
    cases q : H b with
    | none => exact un.keep b o e q (by intro z; exact absurd (show b ∈ ([] : List Addr) from z) (by simp)) (by simp)
    | some u =>
      rcases hO b with z | ⟨ob, xs, z⟩
      · rw [q] at z; cases z
      · obtain ⟨e1, _⟩ := hok b _ z
        obtain ⟨e2, _⟩ := hok' b _ (un.frzs b ob _ z)
        rw [e] at e1; cases e1
        exact e2
  | .ok .next, h => exact False.elim h
  | .ok .brk, h => exact False.elim h
  | .ok .cont, h => exact False.elim h
/-- the end of a law's row -/
theorem law_end {l : PySem.W.OpenLaw} {n k : Nat} {q : Program} {loose : List Str} {XP : (Str → Option Value) → Heap → Prop} {YP : World → Heap → Prop} {d : DefRec} {K : Params → PySem.W.Frag} {sp : World → Sp} {x : Str}
    (hn : l.most = some n) (hn2 : n ≤ sizeLine) (hdf : d.params.defaults = []) (hr : Room k callerA)
    (hY : ∀ (w : World) (h : Heap), YP w h → (K w.params).In h)
    (F : ∀ (w : World) (mg : Str → Option Value) (fa : Addr) (h : Heap), (K w.params).In h → h.Ns mainGlobals mg → mg d.name = some (.ref fa) →
      ∃ fd : FuncData, (∀ (s : Shared) (u : Value), BindsTo s fd ⟨[u], []⟩ [(x, u)]) ∧
        ∀ base : Heap, (K w.params).In base → base.Ns mainGlobals mg → FnG l.prog w (K w.params) mg base k fa fd [x] (sp w))
    (hsp : ∀ (w : World) (H : Hp) (a : Addr) (ns : List Int), ns.length ≤ n → Only H → SqL (K w.params) H a (ns.map V.int) → SK (K w.params) ⟨fun _ => False, w⟩ H a (ns.map V.int) → sp w [.ref a] H (fun v _ => v = .bl true) fun _ _ _ => False) :
    PySem.W.WalkO q loose XP YP l.row.toRowW d [] (fun f vs => PySem.call f vs) := by
  refine Att.attach_call hn hdf fun w s₀ s₁ mg mb fa o pm cd doc a vs ns G Y ho hd hcd hmg hobj hints hlen hg => ?_
  have KX := hY w _ Y
  obtain ⟨fd, hb, hF⟩ := F w mg fa _ KX G.T.g hmg
  have lenV := hints.length
  have rv := vals_ints hints
  have hl : ns.length ≤ sizeLine := Nat.le_trans hlen hn2
  cases hk : (K w.params).lookup a with
  | some o =>
    have e := KX a o hk
    rw [hobj] at e
    cases e
    have hS : SqL (K w.params) (fun _ => none) a (ns.map V.int) := .inr ⟨_, vs.toArray, _, hk, rfl, rfl, rfl, by rw [List.size_toArray, lenV]; exact hl, by simpa using rv⟩
    exact law_core KX G.T.g G.T.b G.T.builtins G.T.nolimit hg hobj hr hF hb (fun _ => none) (fun _ => .inl rfl) (fun b u z => by cases z) (fun b z => absurd rfl z) (fun z => absurd rfl z) (hsp w _ a ns hlen (fun _ => .inl rfl) hS (.inr hS))
  | none =>
    have at1 : (fun b => if b = a then some (HO.frz { cls := .type "list", data := .seq vs.toArray } (.lst (ns.map V.int))) else none : Hp) a = some (HO.frz { cls := .type "list", data := .seq vs.toArray } (.lst (ns.map V.int))) := if_pos rfl
    have on : Only (fun b => if b = a then some (HO.frz { cls := .type "list", data := .seq vs.toArray } (.lst (ns.map V.int))) else none : Hp) := fun b => by
      by_cases hb : b = a
      · exact .inr ⟨_, _, if_pos hb⟩
      · exact .inl (if_neg hb)
    refine law_core KX G.T.g G.T.b G.T.builtins G.T.nolimit hg hobj hr hF hb _ on (fun b u z => ?_) (fun b z => ?_) (fun _ => hk) (hsp w _ a ns hlen on (.inl (.inr ⟨_, at1⟩)) (.inl ⟨⟨_, at1⟩, id⟩))
    · by_cases hb : b = a
      · cases (if_pos hb).symm.trans z
        subst hb
        exact ⟨hobj, by rw [List.length_map]; exact hl, vs, _, rv, hobj⟩
      · cases (if_neg hb).symm.trans z
    · by_cases hb : b = a
      · exact hb
      · exact absurd (if_neg hb) z
end Ds
end
section
set_option Elab.async false
set_option linter.all false
set_option maxRecDepth 100000
set_option maxHeartbeats 4000000
namespace Ds
open PySem PySem.Spec PyProof.Rows L2
structure Fit (k w : Nat) (d : PyData) : Prop where
  sh : d.showable = true
  lv : d.leavesShort 40 = true
  dp : d.depth ≤ k
  wt : d.weight ≤ w
  nd : d.hasDict = false
theorem Fit.mono {k w k' w' : Nat} {d : PyData} (f : Fit k w d) (h1 : k ≤ k') (h2 : w ≤ w') : Fit k' w' d := ⟨f.sh, f.lv, Nat.le_trans f.dp h1, Nat.le_trans f.wt h2, f.nd⟩
theorem fit_int {i : Int} (h : i.natAbs < 10 ^ 30) : Fit 0 100 (.int i) := by
  have l : i.natAbs.log2 < 100 := by
    by_cases z : i.natAbs = 0
    · rw [z]; decide
    · exact (Nat.log2_lt z).mpr (Nat.lt_trans h (by decide))
  refine ⟨?_, ?_, Nat.le_refl _, ?_, rfl⟩
  · simp only [PyData.showable, decide_eq_true_eq]; omega
  · simp only [PyData.leavesShort, decide_eq_true_eq]
    have e := int_text_length_le10 (k := 30) (by decide) h
    show (Str.ofString (toString i)).length ≤ 40
    rw [PySem.ofString_length]; omega
  · simp only [PyData.weight]; split <;> omega
theorem fit_str {x : Str} {w : Nat} (h : ∀ c ∈ x.cps.toList, c < 16 ^ 8) (hw : x.cps.size ≤ w) : Fit 0 w (.str x) :=
  ⟨rfl, by simpa only [PyData.leavesShort, List.all_eq_true, decide_eq_true_eq] using h, Nat.le_refl _, hw, rfl⟩
theorem fit_all {k w : Nat} : ∀ {ds : List PyData}, (∀ d ∈ ds, Fit k w d) → PyData.showableAll ds = true ∧ PyData.leavesShortAll 40 ds = true ∧ PyData.depthAll ds ≤ k ∧ PyData.weightAll ds ≤ (w + 1) * ds.length ∧ PyData.hasDictAll ds = false
  | [], _ => ⟨rfl, rfl, Nat.zero_le _, Nat.zero_le _, rfl⟩
  | d :: ds, h => by
    have f := h d List.mem_cons_self
    obtain ⟨a, b, c, e, g⟩ := fit_all fun x hx => h x (List.mem_cons_of_mem _ hx)
    refine ⟨by simp only [PyData.showableAll, f.sh, a, Bool.and_self], by simp only [PyData.leavesShortAll, f.lv, b, Bool.and_self], ?_, ?_, by simp only [PyData.hasDictAll, f.nd, g, Bool.or_self]⟩
    · have := f.dp; simp only [PyData.depthAll]; omega
    · have := f.wt; simp only [PyData.weightAll, List.length_cons, Nat.mul_add]; omega
theorem fit_tup {k w n : Nat} {ds : List PyData} (h : ∀ d ∈ ds, Fit k w d) (hn : ds.length ≤ n) : Fit (k + 1) ((w + 1) * n) (.tuple ds) := by
  obtain ⟨a, b, c, e, g⟩ := fit_all h
  have := Nat.mul_le_mul_left (w + 1) hn
  exact ⟨by simpa only [PyData.showable] using a, by simpa only [PyData.leavesShort] using b, by simp only [PyData.depth]; omega, by simp only [PyData.weight]; omega, by simpa only [PyData.hasDict] using g⟩
theorem loop_inv {g : GT} {b : SS} : ∀ {ds : List PyData} {P : Nat → En → Prop} {S : En}, P 0 S → (∀ i d S, ds[i]? = some d → P i S → ∃ S1 S2, g d S = .nx S1 ∧ b S1 = .nx S2 ∧ P (i + 1) S2) → ∃ S', loopL g b ds S = .nx S' ∧ P ds.length S'
  | [], P, S, h0, _ => ⟨S, rfl, h0⟩
  | d :: ds, P, S, h0, st => by
    obtain ⟨S1, S2, e1, e2, h1⟩ := st 0 d S rfl h0
    obtain ⟨S', e, h⟩ := loop_inv (g := g) (b := b) (ds := ds) (P := fun i => P (i + 1)) h1 fun i d S z h => st (i + 1) d S (by simpa using z) h
    exact ⟨S', by rw [loopL, e1]; show (match b S1 with | .nx S2 => loopL g b ds S2 | .ct S2 => loopL g b ds S2 | .bk S2 => .nx S2 | r => r) = _; rw [e2]; exact e, h⟩
theorem lc_inv {g : GT} {t : STt} {e : SE} {vs : List Nat} : ∀ {ds : List PyData} {P : Nat → List PyData → En → Prop} {acc : List PyData} {S : En}, P 0 acc S →
    (∀ i d acc S, ds[i]? = some d → P i acc S → ∃ S2 b S3, g d S = .nx S2 ∧ t S2 = .ok b S3 ∧ (b = false → P (i + 1) acc (wipeS vs S3)) ∧ (b = true → ∃ y S4, e S3 = .ok y S4 ∧ P (i + 1) (acc ++ [y]) (wipeS vs S4))) →
    ∃ ys S', lcL g t e vs ds S = .ok ys S' ∧ P ds.length (acc ++ ys) S'
  | [], P, acc, S, h0, _ => ⟨[], S, rfl, by simpa using h0⟩
  | d :: ds, P, acc, S, h0, st => by
    obtain ⟨S2, b, S3, e1, e2, h1, h2⟩ := st 0 d acc S rfl h0
    have st' : ∀ i d acc S, ds[i]? = some d → P (i + 1) acc S → _ := fun i d acc S z h => st (i + 1) d acc S (by simpa using z) h
    rw [lcL, e1]
    show ∃ ys S', (t S2).bind _ = .ok ys S' ∧ _
    rw [e2]
    cases b with
    | false =>
      obtain ⟨ys, S', q, h⟩ := lc_inv (g := g) (t := t) (e := e) (vs := vs) (ds := ds) (P := fun i => P (i + 1)) (h1 rfl) st'
      exact ⟨ys, S', by simpa using q, h⟩
    | true =>
      obtain ⟨y, S4, e3, h3⟩ := h2 rfl
      obtain ⟨ys, S', q, h⟩ := lc_inv (g := g) (t := t) (e := e) (vs := vs) (ds := ds) (P := fun i => P (i + 1)) h3 st'
      exact ⟨y :: ys, S', by simp [e3, q], by simpa using h⟩
/-- a comprehension that leaves the rest alone -/
theorem lc_map {g : GT} {e : SE} {vs : List Nat} {f : Nat → PyData → PyData} {S : En} {ds : List PyData} (h : ∀ i d, ds[i]? = some d → ∃ S2 S4, g d S = .nx S2 ∧ e S2 = .ok (f i d) S4 ∧ wipeS vs S4 = S) :
    lcL g sYes e vs ds S = .ok (ds.mapIdx f) S := by
  obtain ⟨ys, S', q, h1, h2⟩ := lc_inv (g := g) (t := sYes) (e := e) (vs := vs) (ds := ds) (P := fun i acc S' => S' = S ∧ acc = (ds.take i).mapIdx f) (acc := []) (S := S) ⟨rfl, by simp⟩ fun i d acc S' z ⟨h1, h2⟩ => by
    subst h1 h2
    obtain ⟨S2, S4, e1, e2, e3⟩ := h i d z
    refine ⟨S2, true, S2, e1, rfl, (fun z => by cases z), fun _ => ⟨_, S4, e2, e3, ?_⟩⟩
    obtain ⟨hi, rfl⟩ := List.getElem?_eq_some_iff.mp z
    rw [List.take_succ_eq_append_getElem hi, List.mapIdx_append]
    simp [List.length_take, Nat.min_eq_left (Nat.le_of_lt hi)]
  rw [q, h1]
  simp at h2
  rw [h2]
end Ds
end
section
set_option Elab.async false
set_option linter.all false
set_option maxRecDepth 100000
set_option maxHeartbeats 4000000
namespace Ds
open PySem PySem.Spec PyProof.Rows L2
inductive Tag {α : Sort u} (a : α) : Type where
  | mk
/-- bind, whose second part no rule looks into before its time -/
def R.bnd {α β : Type} (x : R α) (f : α → En → R β) (_ : Tag f := .mk) : R β := x.bind f
def R.stt {α : Type} (x : R α) (f : α → En → RS) (_ : Tag f := .mk) : RS := x.st f
@[simp] theorem bnd_ok {α β : Type} {a : α} {S : En} {f : α → En → R β} {t : Tag f} : (R.ok a S).bnd f t = f a S := rfl
@[simp] theorem bnd_ex {α β : Type} {c : Ec} {S : En} {f : α → En → R β} {t : Tag f} : (R.ex c S : R α).bnd f t = .ex c S := rfl
@[simp] theorem bnd_no {α β : Type} {f : α → En → R β} {t : Tag f} : (R.no : R α).bnd f t = .no := rfl
@[simp] theorem stt_ok {α : Type} {a : α} {S : En} {f : α → En → RS} {t : Tag f} : (R.ok a S).stt f t = f a S := rfl
@[simp] theorem stt_ex {α : Type} {c : Ec} {S : En} {f : α → En → RS} {t : Tag f} : (R.ex c S : R α).stt f t = .ex c S := rfl
@[simp] theorem stt_no {α : Type} {f : α → En → RS} {t : Tag f} : (R.no : R α).stt f t = .no := rfl
def RS.sq (r : RS) (t : SS) : RS := match r with
  | .nx S' => t S'
  | r => r
@[simp] theorem sq_nx {S : En} {t : SS} : (RS.nx S).sq t = t S := rfl
@[simp] theorem sq_rt {S : En} {x : Sl} {t : SS} : (RS.rt x S).sq t = .rt x S := rfl
@[simp] theorem sq_no {t : SS} : RS.no.sq t = .no := rfl
@[simp] theorem sq_bk {S : En} {t : SS} : (RS.bk S).sq t = .bk S := rfl
@[simp] theorem sq_ct {S : En} {t : SS} : (RS.ct S).sq t = .ct S := rfl
@[simp] theorem sq_ex {S : En} {c : Ec} {t : SS} : (RS.ex c S).sq t = .ex c S := rfl
@[simp] theorem r_sSeq {s t : SS} {S : En} : sSeq s t S = (s S).sq t := by unfold sSeq RS.sq; cases s S <;> rfl
def RS.fin (r : RS) : R Sl := match r with
  | .rt r S => .ok r S
  | .nx S => .ok (.val .none) S
  | .ex c S => .ex c S
  | _ => .no
@[simp] theorem fin_rt {S : En} {x : Sl} : (RS.rt x S).fin = .ok x S := rfl
@[simp] theorem fin_nx {S : En} : (RS.nx S).fin = .ok (.val .none) S := rfl
@[simp] theorem fin_ex {S : En} {c : Ec} : (RS.ex c S).fin = .ex c S := rfl
@[simp] theorem fin_no : RS.no.fin = .no := rfl
@[simp] theorem r_mB {N : Nat} {s : SS} {S : En} : mB N s S = (s (S ++ List.replicate (N - S.length) .nil)).fin := rfl
@[simp] theorem val?_v {d : PyData} : val? (some (.val d)) = some d := rfl
@[simp] theorem lst?_o {d : List PyData} : lst? (some (.own d)) = some d := rfl
@[simp] theorem lst?_i {d : List PyData} : lst? (some (.io d)) = some d := rfl
@[simp] theorem lst?_v {d : List PyData} : lst? (some (.val (.list d))) = some d := rfl
@[simp] theorem own?_o {d : List PyData} : own? (some (.own d)) = some d := rfl
@[simp] theorem own?_i {d : List PyData} : own? (some (.io d)) = some d := rfl
@[simp] theorem own?_v {d : PyData} : own? (some (.val d)) = none := rfl
@[simp] theorem own?_n : own? (some .nil) = none := rfl
@[simp] theorem own1?_o {d : List PyData} : own1? (some (.own d)) = some d := rfl
@[simp] theorem noio_v {d : PyData} : noio (some (.val d)) = true := rfl
@[simp] theorem noio_o {d : List PyData} : noio (some (.own d)) = true := rfl
@[simp] theorem noio_n : noio (some .nil) = true := rfl
@[simp] theorem nn_v {d : PyData} : nn (some (.val d)) = true := rfl
@[simp] theorem nn_n : nn (some .nil) = true := rfl
@[simp] theorem nn_o {d : List PyData} : nn (some (.own d)) = true := rfl
@[simp] theorem nn_i {d : List PyData} : nn (some (.io d)) = true := rfl
@[simp] theorem bare_v {d : PyData} : bare (some (.val d)) = true := rfl
@[simp] theorem bare_n : bare (some .nil) = true := rfl
@[simp] theorem r_put {i : Nat} {x : Sl} {S : En} : put i x S = if noio S[i]? = true then .nx (S.set i x) else .no := rfl
@[simp] theorem r_asB {b : Bool} : asB (.bool b) = some b := rfl
@[simp] theorem r_asV {d : PyData} : asV (.val d) = some d := rfl
@[simp] theorem r_asN {d : List PyData} : asN (.own d) = some d := rfl
@[simp] theorem r_asL {d : List PyData} : asL (.list d) = some d := rfl
@[simp] theorem r_asT {d : List PyData} : asT (.tuple d) = some d := rfl
@[simp] theorem r_asTE {d : List PyData} : asTE [.tuple d] = some (enumD d) := rfl
@[simp] theorem r_seqOf1 {d : List PyData} : seqOf [.tuple d] = some d := rfl
@[simp] theorem r_seqOf2 {d : List PyData} : seqOf [.list d] = some d := rfl
@[simp] theorem r_ty0 : tyN .none = "NoneType" := rfl
@[simp] theorem r_ty1 {b : Bool} : tyN (.bool b) = "bool" := rfl
@[simp] theorem r_ty2 {b : Int} : tyN (.int b) = "int" := rfl
@[simp] theorem r_ty3 {b : Str} : tyN (.str b) = "str" := rfl
@[simp] theorem r_ty4 {b : List PyData} : tyN (.list b) = "list" := rfl
@[simp] theorem r_ty5 {b : List PyData} : tyN (.tuple b) = "tuple" := rfl
@[simp] theorem r_ty6 {b : List (PyData × PyData)} : tyN (.dict b) = "dict" := rfl
@[simp] theorem r_gNm {i : Nat} {d : PyData} {S : En} : gNm i d S = if bare S[i]? = true then .nx (S.set i (.val d)) else .no := rfl
@[simp] theorem noEx_no {α : Type} : noEx (.no : R α) = .no := rfl
@[simp] theorem r_toSls0 {S : En} : toSls S [] = some [] := rfl
def tcons (x : Option Sl) (r : Option En) : Option En := match x, r with
  | some x, some r => some (x :: r)
  | _, _ => none
@[simp] theorem tcons_s {x : Sl} {r : En} : tcons (some x) (some r) = some (x :: r) := rfl
@[simp] theorem r_toSls {S : En} {g : Ag} {gs : List Ag} : toSls S (g :: gs) = tcons (toSl S g) (toSls S gs) := rfl
@[simp] theorem r_toSl1 {S : En} {d : PyData} : toSl S (.v d) = some (.val d) := rfl
@[simp] theorem r_toSl2 {S : En} {i : Nat} : toSl S (.r i) = (own? S[i]?).map .io := rfl
@[simp] theorem r_refs0 : refs [] = [] := rfl
@[simp] theorem r_refs1 {d : PyData} {gs : List Ag} : refs (.v d :: gs) = refs gs := rfl
@[simp] theorem r_refs2 {i : Nat} {gs : List Ag} : refs (.r i :: gs) = i :: refs gs := rfl
@[simp] theorem r_argS {S : En} {gs : List Ag} : argS S gs = if (refs gs).Nodup then toSls S gs else none := rfl
@[simp] theorem r_back0 {T S : En} : back [] T S = S := rfl
@[simp] theorem r_back1 {d : PyData} {x : Sl} {gs : List Ag} {T S : En} : back (.v d :: gs) (x :: T) S = back gs T S := by cases x <;> rfl
@[simp] theorem r_back2 {i : Nat} {es : List PyData} {gs : List Ag} {T S : En} : back (.r i :: gs) (.io es :: T) S = back gs T (upL i es S) := rfl
theorem back_pure : ∀ {gs : List Ag} {T S : En}, refs gs = [] → back gs T S = S
  | [], T, S, _ => rfl
  | .v d :: gs, [], S, _ => rfl
  | .v d :: gs, x :: T, S, h => by rw [r_back1]; exact back_pure (by simpa using h)
  | .r i :: gs, T, S, h => by simp at h
@[simp] theorem back_v1 {a : PyData} {T S : En} : back [.v a] T S = S := back_pure rfl
@[simp] theorem back_v2 {a b : PyData} {T S : En} : back [.v a, .v b] T S = S := back_pure rfl
@[simp] theorem back_v3 {a b c : PyData} {T S : En} : back [.v a, .v b, .v c] T S = S := back_pure rfl
@[simp] theorem back_v4 {a b c d : PyData} {T S : En} : back [.v a, .v b, .v c, .v d] T S = S := back_pure rfl
@[simp] theorem back_v5 {a b c d e : PyData} {T S : En} : back [.v a, .v b, .v c, .v d, .v e] T S = S := back_pure rfl
def bkK (gs : List Ag) (S1 : En) (r : R Sl) : R Sl := match r with
  | .ok d T => .ok d (back gs T S1)
  | .ex c T => .ex c (back gs T S1)
  | .no => .no
@[simp] theorem bkK_ok {gs : List Ag} {S1 T : En} {d : Sl} : bkK gs S1 (.ok d T) = .ok d (back gs T S1) := rfl
@[simp] theorem bkK_ex {gs : List Ag} {S1 T : En} {c : Ec} : bkK gs S1 (.ex c T) = .ex c (back gs T S1) := rfl
def callG (m : Mf) (gs : List Ag) (S1 : En) (o : Option En) : R Sl := match o with
  | none => .no
  | some S0 => bkK gs S1 (m S0)
@[simp] theorem callG_some {m : Mf} {gs : List Ag} {S1 S0 : En} : callG m gs S1 (some S0) = bkK gs S1 (m S0) := rfl
@[simp] theorem callG_none {m : Mf} {gs : List Ag} {S1 : En} : callG m gs S1 none = .no := rfl
@[simp] theorem r_sCall {m : Mf} {sg : SG} {S : En} : sCall m sg S = (sg S).bnd fun gs S1 => callG m gs S1 (argS S1 gs) := by
  unfold sCall
  cases sg S with
  | no => rfl
  | ex c S => rfl
  | ok gs S1 =>
    show (match argS S1 gs with | none => R.no | some S0 => match m S0 with | .ok d T => R.ok d (back gs T S1) | .ex c T => R.ex c (back gs T S1) | .no => R.no) = callG m gs S1 (argS S1 gs)
    unfold callG bkK
    cases argS S1 gs <;> rfl
def upS (es : List PyData) (o : Option Sl) (i : Nat) (S : En) : En := match o with
  | some (.own _) => S.set i (.own es)
  | some (.io _) => S.set i (.io es)
  | _ => S
@[simp] theorem upS_o {es d : List PyData} {i : Nat} {S : En} : upS es (some (.own d)) i S = S.set i (.own es) := rfl
@[simp] theorem upS_i {es d : List PyData} {i : Nat} {S : En} : upS es (some (.io d)) i S = S.set i (.io es) := rfl
@[simp] theorem r_upL {i : Nat} {es : List PyData} {S : En} : upL i es S = upS es S[i]? i S := rfl
@[simp] theorem r_gN0 {S : En} : gN0 [] S = .nx S := rfl
@[simp] theorem r_loop0 {g : GT} {b : SS} {S : En} : loopL g b [] S = .nx S := rfl
@[simp] theorem r_sVar {i : Nat} {S : En} : sVar i S = (R.opt (val? S[i]?) S) := rfl
@[simp] theorem r_sLVar {i : Nat} {S : En} : sLVar i S = (R.opt (lst? S[i]?) S) := rfl
@[simp] theorem r_sK {d : PyData} {S : En} : sK d S = (.ok d S) := rfl
@[simp] theorem r_sEL {s : SE} {S : En} : sEL s S = ((s S).bnd fun d S' => R.opt (asL d) S') := rfl
@[simp] theorem r_sNE {s : SN} {S : En} : sNE s S = ((s S).bnd fun ds S' => .ok (.list ds) S') := rfl
@[simp] theorem r_sBin {g : PyData → PyData → Option PyData} {sa sb : SE} {S : En} : sBin g sa sb S = ((sa S).bnd fun d S1 => (sb S1).bnd fun e S2 => R.opt (g d e) S2) := rfl
@[simp] theorem r_sTst {s : SE} {S : En} : sTst s S = ((s S).bnd fun d S' => R.opt (asB d) S') := rfl
@[simp] theorem r_sOr {ta tb : STt} {S : En} : sOr ta tb S = ((ta S).bnd fun c S1 => if c = true then .ok true S1 else tb S1) := rfl
@[simp] theorem r_sNot {ta : STt} {S : En} : sNot ta S = ((ta S).bnd fun c S1 => .ok (!c) S1) := rfl
@[simp] theorem r_sIfE {t : STt} {sa sb : SE} {S : En} : sIfE t sa sb S = ((t S).bnd fun c S1 => if c = true then sa S1 else sb S1) := rfl
@[simp] theorem r_sNil {S : En} : sNil  S = (.ok [] S) := rfl
@[simp] theorem r_sCons {s : SE} {sr : SN} {S : En} : sCons s sr S = ((s S).bnd fun d S1 => (sr S1).bnd fun ds S2 => .ok (d :: ds) S2) := rfl
@[simp] theorem r_sTup {s : SN} {S : En} : sTup s S = ((s S).bnd fun ds S1 => if ds.length ≤ sizeLine then .ok (.tuple ds) S1 else .no) := rfl
@[simp] theorem r_sLst {s : SN} {S : En} : sLst s S = ((s S).bnd fun ds S1 => if ds.length ≤ sizeLine then .ok ds S1 else .no) := rfl
@[simp] theorem r_sCallB {g : List PyData → Option PyData} {s : SN} {S : En} : sCallB g s S = ((s S).bnd fun ds S1 => R.opt (g ds) S1) := rfl
@[simp] theorem r_sNx {S : En} : sNx  S = (.nx S) := rfl
@[simp] theorem r_sDrop {se : SE} {S : En} : sDrop se S = ((se S).stt fun _ S' => .nx S') := rfl
@[simp] theorem r_sRet {se : SE} {S : En} : sRet se S = ((se S).stt fun d S' => .rt (.val d) S') := rfl
@[simp] theorem r_sRetN {S : En} : sRetN  S = (.rt (.val .none) S) := rfl
@[simp] theorem r_sRetNew {sn : SN} {S : En} : sRetNew sn S = ((sn S).stt fun ds S' => .rt (.own ds) S') := rfl
@[simp] theorem r_sRetOwn {i : Nat} {S : En} : sRetOwn i S = (match own1? S[i]? with
  | some ds => .rt (.own ds) S
  | none => .no) := rfl
@[simp] theorem r_sIf {sb : STt} {s t : SS} {S : En} : sIf sb s t S = ((sb S).stt fun b S' => if b = true then s S' else t S') := rfl
@[simp] theorem r_sSet {i : Nat} {se : SE} {S : En} : sSet i se S = ((se S).stt fun d S' => put i (.val d) S') := rfl
@[simp] theorem r_sSetNew {i : Nat} {sn : SN} {S : En} : sSetNew i sn S = ((sn S).stt fun ds S' => put i (.own ds) S') := rfl
@[simp] theorem r_sApp {i : Nat} {se : SE} {S : En} : sApp i se S = ((se S).bnd fun d S1 => match own? S1[i]? with
  | some ds => if ds.length < sizeLine then .ok .none (upL i (ds ++ [d]) S1) else .no
  | none => .no) := rfl
@[simp] theorem r_sAppend {i : Nat} {se : SE} {S : En} : sAppend i se S = (if (own? S[i]?).isSome = true then sApp i se S else .no) := rfl
@[simp] theorem r_sClear {i : Nat} {S : En} : sClear i S = (match own? S[i]? with
  | some _ => .ok .none (upL i [] S)
  | none => .no) := rfl
@[simp] theorem r_sG0 {S : En} : sG0  S = (.ok [] S) := rfl
@[simp] theorem r_sGv {se : SE} {sg : SG} {S : En} : sGv se sg S = ((se S).bnd fun d S1 => (sg S1).bnd fun gs S2 => .ok (.v d :: gs) S2) := rfl
@[simp] theorem r_sGr {i : Nat} {sg : SG} {S : En} : sGr i sg S = (if (own? S[i]?).isSome = true then (sg S).bnd fun gs S2 => .ok (.r i :: gs) S2 else .no) := rfl
@[simp] theorem r_sCallV {m : Mf} {sg : SG} {S : En} : sCallV m sg S = ((sCall m sg S).bnd fun x S1 => R.opt (asV x) S1) := rfl
@[simp] theorem r_sCallN {m : Mf} {sg : SG} {S : En} : sCallN m sg S = ((sCall m sg S).bnd fun x S1 => R.opt (asN x) S1) := rfl
@[simp] theorem r_sIL {se : SE} {S : En} : sIL se S = ((se S).bnd fun d S1 => R.opt (asL d) S1) := rfl
@[simp] theorem r_sIT {se : SE} {S : En} : sIT se S = ((se S).bnd fun d S1 => R.opt (asT d) S1) := rfl
@[simp] theorem r_sRng1 {sr : SN} {S : En} : sRng1 sr S = ((sr S).bnd fun ds S1 => R.opt (rng1 ds) S1) := rfl
@[simp] theorem r_sRng2 {sr : SN} {S : En} : sRng2 sr S = ((sr S).bnd fun ds S1 => R.opt (rng2 ds) S1) := rfl
@[simp] theorem r_sFor {it : SN} {g : GT} {b : SS} {S : En} : sFor it g b S = ((it S).stt fun ds S1 => loopL g b ds S1) := rfl
@[simp] theorem r_sLc {it : SN} {g : GT} {t : STt} {e : SE} {vs : List Nat} {S : En} : sLc it g t e vs S = ((it S).bnd fun ds S1 =>
  if (vs.all fun v => (own? S1[v]?).isNone && nn S1[v]?) = true ∧ ds.length < sizeLine then (noEx (lcL g t e vs ds (wipeS vs S1))).bnd fun ys S2 => .ok ys (unwipe vs S1 S2) else .no) := rfl
@[simp] theorem r_sYes {S : En} : sYes  S = (.ok true S) := rfl
@[simp] theorem r_sSetIx {i : Nat} {sk se : SE} {S : En} : sSetIx i sk se S = ((se S).stt fun d S1 => if (own? S1[i]?).isSome = true then (sk S1).stt fun k S2 => match own? S2[i]? with
  | some ds => match setI ds k d with
    | some es => .nx (upL i es S2)
    | none => .no
  | none => .no
  else .no) := rfl
@[simp] theorem r_sPar {i j : Nat} {s1 s2 : SN} {S : En} : sPar i j s1 s2 S = ((s1 S).stt fun ds S1 => (noEx (s2 S1)).stt fun es S2 => match put i (.own ds) S2 with
  | .nx S3 => put j (.own es) S3
  | _ => .no) := rfl
@[simp] theorem r_sIxL {sl : SN} {sb : SE} {S : En} : sIxL sl sb S = ((sl S).bnd fun ds S1 => (sb S).bnd fun k _ => R.opt (gIx (.list ds) k) S1) := rfl
@[simp] theorem r_sIxV {i : Nat} {sb : SE} {S : En} : sIxV i sb S = (if (lst? S[i]?).isSome = true then (sb S).bnd fun k S1 => match lst? S1[i]? with
  | some ds => R.opt (gIx (.list ds) k) S1
  | none => .no
  else .no) := rfl
@[simp] theorem r_sNeg {sa : SE} {S : En} : sNeg sa S = ((sa S).bnd fun d S1 => match d with
  | .int i => .ok (.int (-i)) S1
  | _ => .no) := rfl
@[simp] theorem r_sRd {g : List PyData → Option PyData} {sl : SN} {S : En} : sRd g sl S = ((sl S).bnd fun ds S1 => R.opt (g ds) S1) := rfl
@[simp] theorem r_sListN {sr : SN} {S : En} : sListN sr S = ((sr S).bnd fun ds S1 => R.opt (seqOf ds) S1) := rfl
@[simp] theorem r_sIsi {T : String} {sa : SE} {S : En} : sIsi T sa S = ((sa S).bnd fun d S1 => R.opt ((kitB (tyN d) T).map .bool) S1) := rfl
@[simp] theorem r_sCh {g g' : PyData → PyData → Option PyData} {sa sb sc : SE} {S : En} : sCh g g' sa sb sc S = ((sa S).bnd fun x S1 => (sb S1).bnd fun y S2 => match g x y with
  | some (.bool true) => (sc S2).bnd fun z S3 => R.opt (g' y z) S3
  | some (.bool false) => .ok (.bool false) S2
  | _ => .no) := rfl
@[simp] theorem r_sP0 {S : En} : sP0  S = (.ok none S) := rfl
@[simp] theorem r_sP1 {se : SE} {S : En} : sP1 se S = ((se S).bnd fun d S1 => match d with
  | .int i => .ok (some i) S1
  | _ => .no) := rfl
@[simp] theorem r_sCut {sa : SE} {l u : SP} {S : En} : sCut sa l u S = ((sa S).bnd fun d S1 => (l S1).bnd fun lo S2 => (u S2).bnd fun hi S3 => R.opt (gCut d lo hi) S3) := rfl
@[simp] theorem r_sJoin {sa : SE} {sl : SN} {S : En} : sJoin sa sl S = ((sa S).bnd fun d S1 => match d with
  | .str s => (sl S1).bnd fun ds S2 => R.opt (gJoin (.str s) ds) S2
  | _ => .no) := rfl
@[simp] theorem r_sTupRg {sa : SE} {S : En} : sTupRg sa S = ((sa S).bnd fun d S1 => match d with
  | .int n => if 0 ≤ n ∧ n ≤ 16777216 then .ok (.tuple (rng 0 n)) S1 else .no
  | _ => .no) := rfl
@[simp] theorem r_sRepr {sa : SE} {S : En} : sRepr sa S = ((sa S).bnd fun d S1 => if okR d then .ok (.str d.shown) S1 else .no) := rfl
@[simp] theorem r_sIS {se : SE} {S : En} : sIS se S = ((se S).bnd fun d S1 => R.opt (asS d) S1) := rfl
@[simp] theorem r_sIEnT {sr : SN} {S : En} : sIEnT sr S = ((sr S).bnd fun ds S1 => R.opt (asTE ds) S1) := rfl
@[simp] theorem r_sRev {sa : SE} {S : En} : sRev sa S = ((sa S).bnd fun d S1 => R.opt (gRev d) S1) := rfl
end Ds
end
section
set_option Elab.async false
set_option linter.all false
set_option maxRecDepth 100000
set_option maxHeartbeats 4000000
namespace Ds
open PySem PySem.Spec PyProof.Rows L2
/-- how many different ones -/
def dct : List Str → Nat
  | [] => 0
  | x :: xs => dct xs + (if x ∈ xs then 0 else 1)
theorem dct_le : ∀ xs : List Str, dct xs ≤ xs.length
  | [] => Nat.le_refl _
  | x :: xs => by
    have := dct_le xs
    unfold dct
    rw [List.length_cons]
    split <;> omega
/-- the texts behind the first i, the last first -/
def pre (xs : List Str) (i : Nat) : List Str := (xs.take i).reverse
theorem pre_succ {xs : List Str} {i : Nat} (h : i < xs.length) : pre xs (i + 1) = xs.getD i Str.empty :: pre xs i := by
  unfold pre
  rw [List.take_succ_eq_append_getElem h, List.reverse_append]
  simp [List.getD, List.getElem?_eq_getElem h]
section
variable {q : Program} {w : World} {B : Around} {Rr : Result → Shared → Prop} {it : Addr} {fp wr : List Addr} {Gs : Array GenState → Array GenState → Prop} {m : Nat} {Pv : Nat → Value → Prop} {Sv : Nat → Shared → Prop}
theorem set_loop (Wk : WalksS q w B.in1 it fp wr Gs m Pv Sv) (D : Addr) (hD : D ∉ fp) (xs : List Str) (hm : xs.length = m) (hb : m < 2000) (hv : ∀ j u, Pv j u → ∃ t, u = .str (xs.getD j Str.empty) t) :
    ∀ (k j : Nat) (t : Shared), k + j = m → Sv j t → t.heap.SetOf (strKind q w) D (fun z => decide (z ∈ pre xs j)) (dct (pre xs j)) →
      (∀ t', Moved (D :: wr) Gs t t' → t'.heap.SetOf (strKind q w) D (fun z => decide (z ∈ pre xs m)) (dct (pre xs m)) → Rr (.ok (.ret .none)) t') →
      codeAny (model q w) B (.builtin "set.update.loop" ⟨[.ref D, .ref it], []⟩) Rr t := by
  have nD : D ∉ wr := fun z => hD (Wk.sub _ z)
  have sub : ∀ b ∈ wr, b ∈ D :: wr := fun b z => List.mem_cons_of_mem _ z
  have keep : ∀ {t t' : Shared} {S : Str → Bool} {n : Nat}, Moved wr Gs t t' → t.heap.SetOf (strKind q w) D S n → t'.heap.SetOf (strKind q w) D S n := fun mv hS => by
    obtain ⟨o, es, ep, tb, ho, more⟩ := hS
    exact ⟨o, es, ep, tb, mv.heap D _ nD ho, more⟩
  intro k
  induction k with
  | zero =>
    intro j t e st hS fin
    obtain rfl : j = m := by omega
    refine codeAny_builtin PyProof.Rows.F.entry_set_update_loop ?_
    rw [Around.under_plainId PyProof.Rows.F.plain_set_update_loop _]
    change wpAny _ B.in1 (pyNext (.ref it) >>= _) _ _ t
    refine wpAny_bind (Wk.done t _ _ st fun t' mv => ?_)
    change wpAny _ B.in1 (ret Value.none) _ _ t'
    exact wpAny_pure (fin t' (mv.mono sub) (keep mv hS))
  | succ k ih =>
    intro j t e st hS fin
    have lt : j < m := by omega
    refine codeAny_builtin PyProof.Rows.F.entry_set_update_loop ?_
    rw [Around.under_plainId PyProof.Rows.F.plain_set_update_loop _]
    change wpAny _ B.in1 (pyNext (.ref it) >>= _) _ _ t
    refine wpAny_bind (Wk.item j t _ _ lt st fun u t' hu st' mv => ?_)
    obtain ⟨tk, rfl⟩ := hv j u hu
    have hS1 := keep mv hS
    change wpAny _ B.in1 (holding [Value.str (xs.getD j Str.empty) tk] (setAdd D (.str (xs.getD j Str.empty) tk)) >>= _) _ _ t'
    refine wpAny_bind (wpAny_holding ?_)
    unfold setAdd
    refine wpAny_holding (wpAny_bind ((strKind q w).pyHash (k := xs.getD j Str.empty) (strKind_is _ _ _ _) ?_))
    have le := dct_le (pre xs j)
    have le2 : (pre xs j).length ≤ j := by unfold pre; simp; omega
    refine wpAny_setAddHashed_of (knd := strKind q w) (s := { t' with toks := t'.toks + 1 }) (strKind_is _ _ _ _) rfl hS1 (by unfold scanBound; omega) fun h2 sb hS2 => ?_
    have hS3 : h2.SetOf (strKind q w) D (fun z => decide (z ∈ pre xs (j + 1))) (dct (pre xs (j + 1))) := by
      rw [pre_succ (by omega)]
      refine SetOf_congr hS2 (fun z => ?_) ?_
      · simp only [List.mem_cons, Bool.decide_or]
        exact Bool.or_comm _ _
      · show _ = dct (pre xs j) + (if xs.getD j Str.empty ∈ pre xs j then 0 else 1)
        by_cases c : xs.getD j Str.empty ∈ pre xs j
        · rw [if_pos c, if_pos (decide_eq_true c)]; rfl
        · rw [if_neg c, if_neg (by simpa using c)]
    refine wpAny_pure ⟨plainId_quiet PyProof.Rows.F.plain_set_update_loop _, ih (j + 1) _ (by omega) (Wk.frame _ t' _ _ st' (Nat.le_succ _) fun b z o y => ?_) hS3 fun t2 mv2 hS4 => ?_⟩
    · have ne : b ≠ D := fun z2 => hD (z2 ▸ z)
      rw [sb.2 b ne]; exact y
    · refine fin t2 (Moved.trans Wk.gtrans ((mv.mono sub).then_heap (Nat.le_succ _) fun b o z y => ?_) mv2) hS4
      have ne : b ≠ D := fun z2 => z (by rw [z2]; exact List.mem_cons_self)
      rw [sb.2 b ne]; exact y
end
section
variable {q : Program} {w : World} {B : Around} {Ex : Value → Shared → Prop} {t : Shared}
theorem set_of_tuple {l : Addr} {us : Array Value} {xs : List Str} {Q : Value → Shared → Prop} (hh : B.handled = none) (hl : t.heap.IsTuple l us) (hs : StrsAre us.toList xs) (hb : xs.length < 2000)
    (k : ∀ (h2 : Heap) (tk : Nat), h2.SetOf (strKind q w) t.heap.objs.size (fun z => decide (z ∈ pre xs us.size)) (dct (pre xs us.size)) → (∀ b o, b < t.heap.objs.size → t.heap.get? b = some o → h2.get? b = some o) → Q (.ref t.heap.objs.size) { t with heap := h2, toks := tk }) :
    wpAny (model q w) B (call (.type "set") [.ref l]) Q Ex t := by
  obtain ⟨c, tl, mro⟩ := PySem.F.called_set.mro
  have made := PySem.F.called_set.made
  have ssub := PySem.F.called_set.sub
  refine wpAny_call (codeAny_of_tree ?_)
  change wpAny _ _ (callAny (.type "set") _) _ _ _
  refine wpAny_pure ⟨Code.quiet_builtin _ (by decide +kernel), codeAny_builtin PySem.F.entry_type_call ?_⟩
  rw [Around.under_plain (weight_type_call_type "set" [.ref l] []) rfl]
  have n1 := PySem.F.called_set.notType
  have n2 := PySem.F.called_set.canCreate
  have n3 := PySem.F.typeCall_set_1 (.ref l)
  repeat (any_goals (first | assumption | wp_step))
  refine codeAny_mono (code_set_new_1 (.ref l) (E := Ex) (Q₁ := fun ob t1 => ∃ ld : Bool, ob = .ref t.heap.objs.size ∧ t1 = { t with heap := t.heap.push { cls := .type "set", dict := none, data := .set #[] 0 (.fresh 0 0 ld) } }) fun ld => ⟨ld, rfl, rfl⟩) fun rr t1 hr => ?_
  match rr, hr with
  | .error e, hr => exact hr
  | .ok (.ret ob), hr =>
    obtain ⟨ld, rfl, rfl⟩ := hr
    have gS : (t.heap.push { cls := .type "set", dict := none, data := .set #[] 0 (.fresh 0 0 ld) }).get? t.heap.objs.size = some { cls := .type "set", dict := none, data := .set #[] 0 (.fresh 0 0 ld) } := Heap.get?_push_size _ rfl
    have tS : Shared.TypeIs { t with heap := t.heap.push { cls := .type "set", dict := none, data := .set #[] 0 (.fresh 0 0 ld) } } (.ref t.heap.objs.size) "set" := ⟨_, gS, rfl⟩
    have m1 := PySem.F.called_set.init.lookup
    have m2 := PySem.F.called_set.init.bind (.ref t.heap.objs.size)
    repeat (any_goals (first | assumption | wp_step))
    refine codeAny_mono (codeAny_call_builtin (R := wants (fun v t2 => v = .none ∧ ∃ h2 tk, t2 = { t with heap := h2, toks := tk } ∧ h2.SetOf (strKind q w) t.heap.objs.size (fun z => decide (z ∈ pre xs us.size)) (dct (pre xs us.size)) ∧ (∀ b o, b < t.heap.objs.size → t.heap.get? b = some o → h2.get? b = some o)) Ex) PySem.F.called_set.init.plain PySem.F.entry_set_init (check_set_init_1 tS ?_)) fun r2 t2 hr2 => ?_
    · obtain ⟨⟨oc, od, odt, osl⟩, ho, hoc, nl, hod⟩ := hl
      simp only at hoc hod
      subst hoc
      subst hod
      have ho2 : (t.heap.push { cls := .type "set", dict := none, data := .set #[] 0 (.fresh 0 0 ld) }).get? l = some { cls := .type "tuple", dict := od, data := .seq us nl, slots := osl } := Heap.get?_push_of_some _ ho
      have f1 := PySem.F.sub_tuple_set
      have f2 := PySem.F.sub_tuple_frozenset
      have f3 : (Value.type "tuple" == Value.type "dict") = false := by decide
      have tl2 : (t.heap.push { cls := .type "set", dict := none, data := .set #[] 0 (.fresh 0 0 ld) }).IsTuple l us := ⟨_, ho2, rfl, nl, rfl⟩
      unfold Builtin.«set.__init__» noKeywords Builtin.Frozenset.updateFrom
      generalize gPI : pyIter = PI
      wp_walk
      subst gPI
      refine wpAny_pyIter_tuple tl2 (wpAny_bind (wpAny_runValue ?_))
      have lt : l < t.heap.objs.size := Heap.lt_size ho
      have hh3 : B.in1.in1.in1.handled = none := by simp [hh]
      have d1 : l ≠ (t.heap.push { cls := .type "set", dict := none, data := .set #[] 0 (.fresh 0 0 ld) }).objs.size := by
        rw [Heap.size_push]
        exact Nat.ne_of_lt (Nat.lt_succ_of_lt lt)
      have d2 : t.heap.objs.size ∉ [(t.heap.push { cls := .type "set", dict := none, data := .set #[] 0 (.fresh 0 0 ld) }).objs.size, l] := by
        rw [Heap.size_push]
        simp only [List.mem_cons, List.not_mem_nil, or_false, not_or]
        exact And.intro (Nat.ne_of_lt (Nat.lt_succ_self _)) (Nat.ne_of_gt lt)
      have sz : xs.length = us.size := by rw [← StrsAre.len_eq hs, Array.length_toList]
      refine set_loop ((Walks.tuple hh3 _ l d1 us).toS) t.heap.objs.size d2 xs sz (by omega) (fun j u hu => SS.strs_at hs j u (by rw [Array.getElem?_toList]; exact hu)) us.size 0 _ (by omega) ⟨⟨_, Heap.get?_push_size _ rfl, rfl, rfl⟩, (tl2.push _)⟩ ?S0 ?Fin
      case S0 =>
        refine SetOf_congr ((setObjOf_fresh (knd := strKind q w) ld).setOf (Heap.get?_push_of_some _ gS) (by unfold scanBound; omega)) (fun _ => rfl) rfl
      case Fin =>
        intro t3 mv hS
        obtain ⟨h3, g3, d3, k3, o3⟩ := t3
        cases (show g3 = t.gens from mv.gens)
        cases (show d3 = t.drawn from mv.drawn)
        cases (show o3 = t.os from mv.os)
        change wpAny _ _ _ _ _ _
        refine wpAny_pure ?_
        change wpAny _ _ (ret Value.none) _ _ _
        refine wpAny_pure ⟨rfl, h3, k3, rfl, hS, fun b o lb e => mv.heap b o ?_ (Heap.get?_push_of_some _ (Heap.get?_push_of_some _ e))⟩
        rw [Heap.size_push]
        simp only [List.mem_cons, List.not_mem_nil, or_false, not_or]
        exact And.intro (Nat.ne_of_lt lb) (Nat.ne_of_lt (Nat.lt_succ_of_lt lb))
    · match r2, hr2 with
      | .error e, hr2 => exact hr2
      | .ok (.ret v), hr2 =>
        obtain ⟨rfl, h2, tk, rfl, hS, hk⟩ := hr2
        repeat (any_goals (first | assumption | wp_step))
        exact k _ _ hS hk
end
end Ds
end
section
set_option Elab.async false
set_option linter.all false
set_option maxRecDepth 100000
set_option maxHeartbeats 4000000
namespace Ds
open PySem PySem.Spec PyProof.Rows L2
section
variable {X : Cx} {W : WX} {C : Cn} {sa : SE} {a : Expr} {pos : Pos}
/-- len(set(t)) of a tuple of texts -/
def gLS : PyData → Option PyData
  | .tuple ds => match strsOf ds with
    | some ys => if ys.length < 2000 then some (.int (dct (pre ys ys.length) : Nat)) else none
    | none => none
  | _ => none
def sLenSet (sa : SE) : SE := fun S => (sa S).bind fun d S1 => R.opt (gLS d) S1
theorem gLS_some {d z : PyData} (h : gLS d = some z) : ∃ ys : List Str, d = .tuple (ys.map .str) ∧ ys.length < 2000 ∧ z = .int (dct (pre ys ys.length) : Nat) := by
  cases d with
  | tuple ds =>
    change (match strsOf ds with | some ys => if ys.length < 2000 then some (PyData.int (dct (pre ys ys.length) : Nat)) else none | none => none) = some z at h
    cases e : strsOf ds with
    | none => rw [e] at h; cases h
    | some ys =>
      rw [e] at h
      by_cases c : ys.length < 2000
      · simp only [if_pos c] at h
        cases h
        exact ⟨ys, by rw [strsOf_map e], c, rfl⟩
      · simp only [if_neg c] at h
        cases h
  | _ => cases h
theorem rds_strs {K : PySem.W.Frag} {av : Av} {H : Hp} : ∀ {ys : List Str} {vs : List V}, RDs K av H vs (ys.map .str) → vs = ys.map V.str
  | [], vs, h => by cases h; rfl
  | y :: ys, vs, h => by
    cases h with
    | cons h1 h2 =>
      cases h1
      rw [rds_strs h2]
      rfl
def tLS (K : PySem.W.Frag) (ta : TE) : TE := fun σ H Q => ta σ H fun x H1 => ∃ (l : Addr) (ys : List Str), x = .ref l ∧ SqT K H1 l (ys.map V.str) ∧ ys.length < 2000 ∧ Q (.int (dct (pre ys ys.length) : Nat)) H1
theorem pe_ls {ta : TE} {p p2 r : Pos} (hc : X.calm = true) (g1 : Gl X "len") (m1 : X.mg "len" = none) (g2 : Gl X "set") (m2 : X.mg "set" = none) (ha : PE X a ta)
    (na : starEach [a] X.env = (false, eval a X.env) :: starEach [] X.env := by rfl) : PE X (.Call (.Name "len" p) [.Call (.Name "set" p2) [a] [] r] [] pos) (tLS X.K ta) := by
  refine ⟨fun pins s σ H Q I h => Call_ (ld_blt I g1 m1 boot_len ?_)⟩
  refine PyProof.Rows.callWith_builtin1 (PyProof.Rows.args_cons (Call_ (ld_blt I g2 m2 boot_set ?_)) rfl) rfl rfl
  refine PyProof.Rows.callWith_type1 (PyProof.Rows.args_cons (thn (ha.run pins s σ H _ I h) fun v t ⟨x, H1, I1, r1, y1⟩ => PyProof.Rows.args_nil ?_) na) na rfl
  obtain ⟨l, ys, rfl, sq, lt, y2⟩ := y1
  cases r1
  obtain ⟨us, rv, pt, _⟩ := I1.tuple sq
  have el : us.toArray.size = ys.length := by rw [List.size_toArray, ← rv.length, List.length_map]
  refine set_of_tuple (I1.ok.hd hc) pt (by simpa using strsAre_of rv) lt fun h2 tk hS hk => ?_
  refine PyProof.Rows.args_nil ?_
  rw [el] at hS
  obtain ⟨o, es, ep, tb, e1, e2, e3, _, _, _, e4, e5⟩ := hS
  have I2 : Inv X pins σ H1 { t with heap := h2, toks := tk } := I1.kept fun b z e => hk b z (Heap.lt_size e) e
  have le := dct_le (pre ys ys.length)
  have le2 : (pre ys ys.length).length ≤ ys.length := by unfold pre; simp
  exact call_len_set e1 e2 e3 e4 (by rw [e5]; omega) ⟨.int (dct (pre ys ys.length) : Nat), H1, I2.tok _, ⟨_, by rw [e5]⟩, y2⟩
theorem e_lenSet {p p2 r : Pos} (hc : X.calm = true) (g1 : Gl X "len") (m1 : X.mg "len" = none) (g2 : Gl X "set") (m2 : X.mg "set" = none) (ha : PE X a (xE X.K X.mg W C sa))
    (na : starEach [a] X.env = (false, eval a X.env) :: starEach [] X.env := by rfl) : PE X (.Call (.Name "len" p) [.Call (.Name "set" p2) [a] [] r] [] pos) (xE X.K X.mg W C (sLenSet sa)) :=
  pe_imp (pe_ls hc g1 m1 g2 m2 ha na) fun σ H Q ⟨ow, S, rl, q⟩ => seq early_E rl q fun S1 d v H1 r1 x1 rd k => by
    cases e : gLS d with
    | none => rw [e] at k; exact k.elim
    | some z =>
      rw [e] at k
      obtain ⟨ys, rfl, lt, rfl⟩ := gLS_some e
      cases rd with
      | tup h1 h2 =>
        rw [rds_strs h2] at h1
        exact ⟨_, ys, rfl, h1.sq, lt, pst_ok r1 k (.int _)⟩
end
end Ds
end
section
set_option Elab.async false
set_option linter.all false
set_option maxRecDepth 100000
set_option maxHeartbeats 4000000
namespace Ds
open PySem PySem.Spec PyProof.Rows L2
section
variable {X : Cx} {W : WX} {C : Cn} {sa sb : SE} {a b : Expr} {pos : Pos}
/-- t.index(x) of texts, where it is found -/
def gTIx (d e : PyData) : Option PyData := match d, e with
  | .tuple ds, .str z => match strsOf ds with
    | some ys => (ys.findIdx? (· == z)).map fun j => .int (j : Nat)
    | none => none
  | _, _ => none
def sTix (sa sb : SE) : SE := fun S => (sa S).bind fun d S1 => match d with
  | .tuple ds => (sb S1).bind fun e S2 => R.opt (gTIx (.tuple ds) e) S2
  | _ => .no
@[simp] theorem r_sTix {S : En} : sTix sa sb S = ((sa S).bnd fun d S1 => match d with
  | .tuple ds => (sb S1).bnd fun e S2 => R.opt (gTIx (.tuple ds) e) S2
  | _ => .no) := rfl
@[simp] theorem r_sLenSet {S : En} : sLenSet sa S = ((sa S).bnd fun d S1 => R.opt (gLS d) S1) := rfl
@[simp] theorem r_sAsg {g : GT} {S : En} : sAsg g sa S = ((sa S).stt fun d S1 => g d S1) := rfl
end
end Ds
end
section
set_option Elab.async false
set_option linter.all false
set_option maxRecDepth 100000
set_option maxHeartbeats 4000000
namespace Ds
open PySem PySem.Spec PyProof.Rows L2
def nst? : Option Sl → Option (List (List PyData))
  | some (.nst (.ls dss)) => some dss
  | _ => none
section
variable {X : Cx} {W : WX} {C : Cn} {pos : Pos} {a b e c : Expr} {sa sb se : SE} {i : Nat}
def sFrzN (i : Nat) (s : SS) : SS := fun S => match nst? S[i]? with
  | some dss => s (S.set i (.val (.list (dss.map .list))))
  | none => .no
/-- l[k], an inner list, for a change -/
def nstIx (o : Option Sl) (k : PyData) : Option Nat := match nst? o, k with
  | some dss, .int j => if 0 ≤ j ∧ j < dss.length then some j.toNat else none
  | _, _ => none
def sNJ (i : Nat) (sb : SE) : En → R Nat := fun S => if (nst? S[i]?).isSome = true then (sb S).bind fun k S1 => R.opt (nstIx S1[i]? k) S1 else .no
/-- l[k], an inner list, for a reader -/
def sNIx (i : Nat) (sb : SE) : SN := fun S => (sNJ i sb S).bind fun k S1 => R.opt ((nst? S1[i]?).bind fun dss => dss[k]?) S1
/-- l[k].append(e) -/
def sNApp (i : Nat) (sb se : SE) : SE := fun S => (sNJ i sb S).bind fun k S1 => (se S1).bind fun d S2 => match nst? S2[i]? with
  | some dss => match dss[k]? with
    | some ds => if ds.length < sizeLine then .ok .none (S2.set i (.nst (.ls (dss.set k (ds ++ [d]))))) else .no
    | none => .no
  | none => .no
def sNIns (i : Nat) (sb : SE) (sg : SN) : SE := fun S => (sNJ i sb S).bind fun k S1 => (sg S1).bind fun gs S2 => match nst? S2[i]?, gs with
  | some dss, [.int j, d] => match dss[k]? with
    | some ds => if ds.length < sizeLine ∧ 0 ≤ j ∧ j < 2 ^ 63 then .ok .none (S2.set i (.nst (.ls (dss.set k (ds.take j.toNat ++ [d] ++ ds.drop j.toNat))))) else .no
    | none => .no
  | _, _ => .no
end
end Ds
end
section
set_option Elab.async false
set_option linter.all false
set_option maxRecDepth 100000
set_option maxHeartbeats 4000000
namespace Ds
open PySem PySem.Spec PyProof.Rows L2
theorem nodup_idx {α : Type} : ∀ {l : List α}, l.Nodup → ∀ {m n : Nat} {c : α}, l[m]? = some c → l[n]? = some c → m = n
  | [], _, m, n, c, h, _ => by simp at h
  | x :: l, hn, m, n, c, h1, h2 => by
    have q := List.nodup_cons.mp hn
    cases m with
    | zero =>
      cases n with
      | zero => rfl
      | succ n =>
        obtain rfl : x = c := by simpa using h1
        exact absurd (List.mem_of_getElem? (by simpa using h2)) q.1
    | succ m =>
      cases n with
      | zero =>
        obtain rfl : x = c := by simpa using h2
        exact absurd (List.mem_of_getElem? (by simpa using h1)) q.1
      | succ n => rw [nodup_idx q.2 (m := m) (n := n) (by simpa using h1) (by simpa using h2)]
structure Bk (K : PySem.W.Frag) (C C2 : Cn) (ow : Ow) (H : Hp) (D : Addr) (bs : List Addr) (dss : List (List PyData)) : Prop where
  A : ∀ a, C2.A0 a ↔ C.A0 a ∨ a = D ∨ a ∈ bs
  h0 : ∀ a, a ≠ D → a ∉ bs → C2.H0 a = C.H0 a
  hD : C2.H0 D = some (.lst (bs.map V.ref))
  io : C2.io = C.io
  wd : C2.w = C.w
  nd : (D :: bs).Nodup
  nw : ∀ a, (a = D ∨ a ∈ bs) → C.H0 a = none ∧ ¬ C.A0 a
  len : bs.length = dss.length
  inn : ∀ (k : Nat) b ds, bs[k]? = some b → dss[k]? = some ds → ∃ ws, C2.H0 b = some (.lst ws) ∧ RDs K (av C2 ow) H ws ds
section
variable {K : PySem.W.Frag} {C C2 : Cn} {ow : Ow} {S : En} {σ : St} {H H' Hm : Hp} {D a : Addr} {bs : List Addr} {dss : List (List PyData)} {ws : List V} {ds : List PyData}
theorem Bk.mono (b : Bk K C C2 ow H D bs dss) (x : Ext (av C2 ow) H H') : Bk K C C2 ow H' D bs dss :=
  ⟨b.A, b.h0, b.hD, b.io, b.wd, b.nd, b.nw, b.len, fun k c ds e1 e2 => let ⟨ws, h1, h2⟩ := b.inn k c ds e1 e2; ⟨ws, h1, RDs.mono x (Grow.refl _ _) ds ws h2⟩⟩
def Cn.put (C : Cn) (p : Addr) (ws : List V) : Cn := ⟨C.A0, upd C.H0 p (.lst ws), C.io, C.w⟩
/-- what stands at p is exchanged -/
theorem Rl.reset {p : Addr} (r : Rl K C ow S σ H) (hA : C.A0 p) (hio : ∀ i, C.io i ≠ some p) (ws : List V) : Rl K (C.put p ws) ow S σ (upd H p (.lst ws)) := by
  have ap : av C ow p := .inl hA
  have x : Ext (av C ow) H (upd H p (.lst ws)) := fun a o n e => by
    rw [upd_ne (show a ≠ p from fun z => n (by rw [z]; exact ap))]
    exact e
  have np : ∀ i ds, own? S[i]? = some ds → ow i ≠ some p := fun i ds e z => by
    cases q : S[i]? with
    | none => rw [q] at e; cases e
    | some x =>
      rw [q] at e
      cases x with
      | own d => exact (r.frs i d p q z).2 hA
      | io d => exact hio i ((r.ios i d q).trans z)
      | nil => cases e
      | val d => cases e
      | nst d => cases e
      | pair d ds => cases e
  have np3 : ∀ i a, NstAt S i → ow i = some a → a ≠ p := fun i a h e z => (r.ns.frn i a h e).2 (by rw [z]; exact hA)
  have pt : ∀ {a : Addr} {o : Option HO}, a ≠ p → C.H0 a = o → (C.put p ws).H0 a = o := fun {a o} ne e => by
    show upd C.H0 p (.lst ws) a = o
    rw [upd_ne ne]; exact e
  refine ⟨r.len, fun i d e => ?_, fun i ds e => ?_, r.ows, r.inj, fun i ds a h1 h2 => ?_, r.ios, r.iok, fun a h => ?_, fun a o h1 h2 => ?_, r.ns.move r.ns.big (fun _ _ q => q) (fun _ _ => rfl) (fun _ _ _ _ => rfl) (fun j a o q e1 e2 => by rw [upd_ne (np3 j a q e1)]; exact e2) (fun ws' ds q => RDs.mono x (Grow.refl _ _) ds ws' q) (fun j a q e z => ⟨pt (np3 j a q e) z.1, z.2⟩)⟩
  · obtain ⟨v, h1, h2⟩ := r.val i d e
    exact ⟨v, h1, RD.mono x (Grow.refl _ _) d v h2⟩
  · obtain ⟨a, vs, h1, h2, h3, h4⟩ := r.own i ds e
    refine ⟨a, vs, h1, h2, ?_, RDs.mono x (Grow.refl _ _) ds vs h4⟩
    rw [upd_ne (show a ≠ p from fun z => np i ds e (by rw [h1, z]))]
    exact h3
  · obtain ⟨g1, g2⟩ := r.frs i ds a h1 h2
    exact ⟨pt (fun z => g2 (by rw [z]; exact hA)) g1, g2⟩
  · by_cases e : a = p
    · rw [e]; exact ⟨_, upd_same⟩
    · rw [upd_ne e]; exact r.trk a h
  · change upd C.H0 p (.lst ws) a = some o at h1
    by_cases e : a = p
    · rw [e, upd_same] at h1 ⊢
      exact h1
    · rw [upd_ne e] at h1 ⊢
      exact r.ext a o h1 h2
/-- one more inner list -/
theorem Bk.more (b : Bk K C C2 ow Hm D bs dss) (r : Rl K C2 ow S σ Hm) (na : Hm a = none) (rd : RDs K (av C2 ow) Hm ws ds) (hio : ∀ i c, C.io i = some c → C.A0 c) :
    Rl K ((C2.plus a ws).put D ((bs ++ [a]).map V.ref)) ow S σ (upd (upd Hm a (.lst ws)) D (.lst ((bs ++ [a]).map V.ref))) ∧ Bk K C ((C2.plus a ws).put D ((bs ++ [a]).map V.ref)) ow (upd (upd Hm a (.lst ws)) D (.lst ((bs ++ [a]).map V.ref))) D (bs ++ [a]) (dss ++ [ds]) := by
  have f0 := r.fresh0 na
  have aA : ∀ c, c = D ∨ c ∈ bs → a ≠ c := fun c hc z => f0.2 ((b.A a).mpr (.inr (by rw [z]; exact hc)))
  have aD : a ≠ D := aA D (.inl rfl)
  have ab : a ∉ bs := fun z => aA a (.inr z) rfl
  have rp := r.plus na ws
  have hA : (C2.plus a ws).A0 D := .inl ((b.A D).mpr (.inr (.inl rfl)))
  have hioD : ∀ i, (C2.plus a ws).io i ≠ some D := fun i z => by
    change C2.io i = some D at z
    rw [b.io] at z
    exact (b.nw D (.inl rfl)).2 (hio i D z)
  have rr := rp.reset hA hioD ((bs ++ [a]).map V.ref)
  have nd := List.nodup_cons.mp b.nd
  refine ⟨rr, fun c => ?_, fun c h1 h2 => ?_, upd_same, b.io, b.wd, ?_, fun c hc => ?_, by rw [List.length_append, List.length_append, b.len]; rfl, fun k c es e1 e2 => ?_⟩
  · show C2.A0 c ∨ c = a ↔ _
    rw [b.A c, List.mem_append, List.mem_singleton]
    constructor
    · rintro ((h | h | h) | h)
      · exact .inl h
      · exact .inr (.inl h)
      · exact .inr (.inr (.inl h))
      · exact .inr (.inr (.inr h))
    · rintro (h | h | h | h)
      · exact .inl (.inl h)
      · exact .inl (.inr (.inl h))
      · exact .inl (.inr (.inr h))
      · exact .inr h
  · show upd (upd C2.H0 a (.lst ws)) D _ c = _
    rw [upd_ne h1, upd_ne fun z => h2 (by rw [z]; simp)]
    exact b.h0 c h1 fun z => h2 (by simp [z])
  · refine List.nodup_cons.mpr ⟨fun z => ?_, ?_⟩
    · rw [List.mem_append, List.mem_singleton] at z
      exact z.elim nd.1 fun z => aD z.symm
    · rw [List.nodup_append]
      refine ⟨nd.2, by simp, fun x hx y hy z => ?_⟩
      rw [List.mem_singleton] at hy
      exact ab (by rw [← hy, ← z]; exact hx)
  · rcases hc with hc | hc
    · exact b.nw c (.inl hc)
    · rw [List.mem_append, List.mem_singleton] at hc
      rcases hc with hc | hc
      · exact b.nw c (.inr hc)
      · subst hc
        exact ⟨by rw [← b.h0 c aD ab]; exact f0.1, fun z => f0.2 ((b.A c).mpr (.inl z))⟩
  · have x1 : Ext (av C2 ow) Hm (upd Hm a (.lst ws)) := Ext.same (same_new na)
    have g1 : Grow (av C2 ow) (av (C2.plus a ws) ow) Hm := grow_plus na
    have x2 : Ext (av (C2.plus a ws) ow) (upd Hm a (.lst ws)) (upd (upd Hm a (.lst ws)) D (.lst ((bs ++ [a]).map V.ref))) := fun c o n e => by
      rw [upd_ne (show c ≠ D from fun z => n (by rw [z]; exact .inl hA))]
      exact e
    have up : ∀ {us : List V} {fs : List PyData}, RDs K (av C2 ow) Hm us fs → RDs K (av ((C2.plus a ws).put D ((bs ++ [a]).map V.ref)) ow) (upd (upd Hm a (.lst ws)) D (.lst ((bs ++ [a]).map V.ref))) us fs := fun {us fs} q => RDs.mono (x1.trans g1 x2) g1 fs us q
    by_cases hk : k < bs.length
    · rw [List.getElem?_append_left hk] at e1
      rw [List.getElem?_append_left (by rw [← b.len]; exact hk)] at e2
      obtain ⟨us, h1, h2⟩ := b.inn k c es e1 e2
      have hc : c ∈ bs := List.mem_of_getElem? e1
      refine ⟨us, ?_, up h2⟩
      show upd (upd C2.H0 a (.lst ws)) D _ c = _
      rw [upd_ne fun z => nd.1 (by rw [← z]; exact hc), upd_ne (aA c (.inr hc)).symm]
      exact h1
    · rw [List.getElem?_append_right (by omega)] at e1
      rw [List.getElem?_append_right (by rw [← b.len]; omega)] at e2
      have k0 : k - bs.length = 0 := by
        have := (List.getElem?_eq_some_iff.mp e1).1
        simp at this
        omega
      rw [k0] at e1
      rw [← b.len, k0] at e2
      cases e1
      cases e2
      refine ⟨ws, ?_, up rd⟩
      show upd (upd C2.H0 a (.lst ws)) D _ a = _
      rw [upd_ne aD, upd_same]
end
def lcN (g : GT) (t : STt) (e : SN) (vs : List Nat) : List PyData → En → R (List (List PyData))
  | [], S => .ok [] S
  | d :: ds, S => match g d S with
    | .nx S2 => (t S2).bind fun b S3 => if b = true then (e S3).bind fun y S4 => (lcN g t e vs ds (wipeS vs S4)).bind fun ys S5 => .ok (y :: ys) S5 else lcN g t e vs ds (wipeS vs S3)
    | _ => .no
def putNst (i : Nat) (dss : List (List PyData)) (S : En) : RS := if noio S[i]? = true then .nx (S.set i (.nst (.ls dss))) else .no
def sSetNst (i : Nat) (it : SN) (g : GT) (t : STt) (e : SN) (vs : List Nat) : SS := fun S => (it S).st fun ds S1 =>
  if (vs.all fun v => (own? S1[v]?).isNone && nn S1[v]?) = true ∧ ds.length < sizeLine then (noEx (lcN g t e vs ds (wipeS vs S1))).st fun yss S2 => putNst i yss (unwipe vs S1 S2) else .no
end Ds
end
section
set_option Elab.async false
set_option linter.all false
set_option maxRecDepth 100000
set_option maxHeartbeats 4000000
namespace Ds
open PySem PySem.Spec PyProof.Rows L2
section
variable {X : Cx} {K : PySem.W.Frag}
def CPowB (i j : Int) : Prop := 0 ≤ j ∧ j ≤ 1000 ∧ i.natAbs < 2 ^ 1000
theorem bitsB {a n : Int} (ha : a.natAbs < 2 ^ 1000) (h0 : 0 ≤ n) (hn : n ≤ 1000) : (Builtin.Int.intBits a : Int) * n ≤ 2 ^ 27 := by
  have hb : Builtin.Int.intBits a ≤ 1000 := intBits_le ha
  have h1 : (Builtin.Int.intBits a : Int) * n ≤ 1000 * n := Int.mul_le_mul_of_nonneg_right (by omega) h0
  omega
theorem op_powB : OpR X (binaryOp .Pow) (rI CPowB fun i j => .int (i ^ j.toNat)) := opI fun _ _ _ _ _ _ _ hc q => pow_int hc.1 (bitsB hc.2.2 hc.1 hc.2.1) q
def cPowB (i j : Int) : Bool := decide (0 ≤ j ∧ j ≤ 1000 ∧ i.natAbs < 2 ^ 1000)
def gPowB : PyData → PyData → Option PyData := gII cPowB fun i j => i ^ j.toNat
theorem od_powB : OpD K (rI CPowB fun i j => .int (i ^ j.toNat)) gPowB := od_II fun i j h => by
  exact (of_decide_eq_true (p := 0 ≤ j ∧ j ≤ 1000 ∧ i.natAbs < 2 ^ 1000) h)
end
section
variable {X : Cx} {W : WX} {C : Cn} {pos : Pos} {a b e tg : Expr} {sa sb se : SE} {sn : SN} {i : Nat}
theorem relN_cat {ow : Ow} {S : En} {σ : St} {H : Hp} {K : PySem.W.Frag} {vs : List V} {ds : List PyData} {mg : Str → Option Value} {Q : VK} (r : Rl K C ow S σ H) (rd : RDs K (av C ow) H vs ds) (q : pst K mg W C (relN K) ow σ H Q (.ok ds S)) {p : Addr} (n : H p = none) : Q (.ref p) (upd H p (.lst vs)) :=
  pst_same r q (same_new n) ⟨p, vs, H, rfl, n, rfl, Ext.refl _ _, r, rd⟩
def sCatN (sa sb : SE) : SN := fun S => (sa S).bind fun d S1 => (sb S1).bind fun e S2 => match asL d, asL e with
  | some ds, some es => if ds.length + es.length ≤ sizeLine then .ok (ds ++ es) S2 else .no
  | _, _ => .no
def sCatV (i : Nat) (sb : SE) : SN := fun S => if (lst? S[i]?).isSome = true then (sb S).bind fun e S2 => match lst? S2[i]?, asL e with
  | some ds, some es => if ds.length + es.length ≤ sizeLine then .ok (ds ++ es) S2 else .no
  | _, _ => .no
  else .no
theorem n_catV (ha : PE X a (tVar i)) (hb : PE X b (xE X.K X.mg W C sb)) : PE X (.BinOp a .Add b pos) (xN X.K X.mg W C (sCatV i sb)) :=
  pe_imp (pe_op op_catS ha hb) fun σ H Q ⟨ow, S, r, q⟩ => by
    change pst X.K X.mg W C (relN X.K) ow σ H Q (sCatV i sb S) at q
    unfold sCatV at q
    cases e : lst? S[i]? with
    | none => rw [e] at q; exact q.elim
    | some ds0 =>
      rw [e] at q
      obtain ⟨p, vs, h1, _⟩ := r.list e
      refine ⟨.ref p, h1, seq early_N r q fun S2 f y H2 r2 x2 rf k2 => ?_⟩
      cases e1 : lst? S2[i]? with
      | none => rw [e1] at k2; exact k2.elim
      | some ds =>
        cases e2 : asL f with
        | none => rw [e1, e2] at k2; exact k2.elim
        | some es =>
          rw [e1, e2] at k2
          have ef := asL_some e2
          subst ef
          obtain ⟨p2, ws, g1, g2, g3⟩ := r2.list e1
          rw [h1] at g1; cases g1
          cases rf with
          | lst f1 f2 =>
            by_cases z : ds.length + es.length ≤ sizeLine
            · simp only [if_pos z] at k2
              exact ⟨_, _, _, _, rfl, rfl, g2, f1.sq, by rw [g3.len, f2.len]; exact z, fun p n => relN_cat r2 (g3.append f2) k2 n⟩
            · simp only [if_neg z] at k2
              exact k2.elim
def sRepN (s1 : SN) (s2 : SE) : SN := fun S => (s1 S).bind fun ds S1 => (noEx (s2 S1)).bind fun k S2 => match k with
  | .int k => if -(2 ^ 63) ≤ k ∧ k < 2 ^ 63 ∧ ds.length * k.toNat ≤ sizeLine then .ok (List.replicate k.toNat ds).flatten S2 else .no
  | _ => .no
theorem vals_signs {x : Str} {acc : Array Value} (h : ItemsOf (SignAt x) acc x.cps.size) : Vals (x.cps.toList.map fun c => V.str ⟨#[c]⟩) acc.toList := by
  refine vals_of_idx _ _ (by rw [Array.length_toList, List.length_map, Array.length_toList]; exact h.1) fun j u e => ?_
  obtain ⟨c, t, h1, h2⟩ := h.2 j u (by rw [← Array.getElem?_toList]; exact e)
  refine ⟨.str ⟨#[c]⟩, ?_, t, h2⟩
  rw [List.getElem?_map, Array.getElem?_toList, h1]
  rfl
def sListS (sr : SN) : SN := fun S => (sr S).bind fun ds S1 => match ds with
  | [.str x] => if x.cps.size ≤ sizeLine then .ok (signs x) S1 else .no
  | _ => .no
theorem rds_signs {K : PySem.W.Frag} {av : Av} {H : Hp} (cs : List Nat) : RDs K av H (cs.map fun c => V.str ⟨#[c]⟩) (cs.map fun c => PyData.str ⟨#[c]⟩) := by
  induction cs with
  | nil => exact .nil
  | cons c cs ih => exact .cons (.str _) ih
def rng3 (ds : List PyData) : Option (List PyData) := match ds with
  | [.int i, .int j, .int c] => if smallI i = true ∧ smallI j = true ∧ c = -1 then some ((List.range (i - j).toNat).map fun k => .int (i - (k : Nat))) else none
  | _ => none
def sRng3 (sr : SN) : SN := fun S => (sr S).bind fun ds S1 => R.opt (rng3 ds) S1
def gSubI (i : Nat) (sk : SE) : GT := fun d S => match sk S with
  | .ok k S1 => match own? S1[i]? with
    | some ds => match setI ds k d with
      | some es => if (own? S[i]?).isSome = true then .nx (upL i es S1) else .no
      | none => .no
    | none => .no
  | _ => .no
theorem g_subI {k : Expr} {sk : SE} (hk : PE X k (xE X.K X.mg W0 C sk)) (hp : ∀ {u : TE}, PE X k u → PG X tg (gSub (tVar i) u rSetL)) : PG X tg (xT X.K C (gSubI i sk) []) :=
  pg_imp (hp hk) fun v σ H Q ⟨ow, S, d, r, rd, q⟩ => by
    unfold gSubI at q
    cases ek : sk S with
    | no => simp only [ek] at q
    | ex c S' => simp only [ek] at q
    | ok kd S1 =>
      simp only [ek] at q
      cases e1 : own? S1[i]? with
      | none => simp only [e1] at q
      | some ds =>
        simp only [e1] at q
        cases e2 : setI ds kd d with
        | none => simp only [e2] at q
        | some es =>
          simp only [e2] at q
          by_cases e3 : (own? S[i]?).isSome = true
          · rw [if_pos e3] at q
            obtain ⟨ds0, e4⟩ := Option.isSome_iff_exists.mp e3
            obtain ⟨a, vs, h0, h1, h2, h3⟩ := r.own i ds0 e4
            refine ⟨.ref a, h1, ow, S, r, ?_⟩
            show pst X.K X.mg W0 C (relE X.K) ow σ H _ (sk S)
            rw [ek]
            intro kv H1 r1 x1 rk
            obtain ⟨b, ws, g0, g1, g2, g3⟩ := r1.own i ds e1
            rw [h0] at g0; cases g0
            cases rk with
            | int j =>
              unfold setI at e2
              by_cases z : 0 ≤ j ∧ j < ds.length
              · simp only [if_pos z] at e2
                cases e2
                have hw : ws.length = ds.length := g3.len
                obtain ⟨r3, x3⟩ := r1.up (es := ds.set j.toNat d) (vs := ws.set j.toNat v) e1 h0 (RDs.set (RD.mono x1 (Grow.refl _ _) d v rd) j.toNat g3)
                exact ⟨a, ws, j, j.toNat, rfl, rfl, g2, by unfold ixN; rw [if_pos z.1, if_pos (by omega)], q σ _ r3 (x1.trans (Grow.refl _ _) x3) ⟨rfl, fun _ _ => rfl⟩⟩
              · simp only [if_neg z] at e2
                cases e2
            | _ => cases e2
          · rw [if_neg e3] at q
            exact q.elim
theorem plain_sub {sk : SE} : Plain (gSubI i sk) := fun d S => by
  unfold gSubI
  split
  · split
    · split
      · split
        · exact .inl ⟨_, rfl⟩
        · exact .inr rfl
      · exact .inr rfl
    · exact .inr rfl
  · exact .inr rfl
def sAug (g : PyData → PyData → Option PyData) (i : Nat) (se : SE) : SS := fun S => match val? S[i]? with
  | some d => (se S).st fun e S1 => match g d e with
    | some z => put i (.val z) S1
    | none => .no
  | none => .no
end
end Ds
end
section
set_option Elab.async false
set_option linter.all false
set_option maxRecDepth 100000
set_option maxHeartbeats 4000000
namespace Ds
open PySem PySem.Spec PyProof.Rows L2
section
variable {X : Cx} {W : WX} {C : Cn} {pos : Pos} {e tg : Expr} {i : Nat}
def asLE : List PyData → Option (List PyData)
  | [.list ds] => some (enumD ds)
  | _ => none
def sIEnL (sr : SN) : SN := fun S => (sr S).bind fun ds S1 => R.opt (asLE ds) S1
end
end Ds
end
section
set_option Elab.async false
set_option linter.all false
set_option maxRecDepth 100000
set_option maxHeartbeats 4000000
namespace Ds
open PySem PySem.Spec PyProof.Rows L2
section
variable {X : Cx} {W : WX} {C : Cn} {pos : Pos} {elt tg iter e a b c : Expr} {ifs : List Expr} {it sr : SN} {g : GT} {t : STt} {sn : SN} {vs ts : List Nat} {scope : Scope} {own : List (Str × Nat)} {i j l : Nat}
def put1 (i : Nat) (d : PyData) (r : RS) : RS := match r with
  | .nx S => put i (.val d) S
  | _ => .no
def sParV (i j : Nat) (sr : SN) : SS := fun S => (sr S).st fun ds S1 => match ds with
  | [d, e] => put1 j e (put1 i d (.nx S1))
  | _ => .no
def sParV3 (i j l : Nat) (sr : SN) : SS := fun S => (sr S).st fun ds S1 => match ds with
  | [d, e, f] => put1 l f (put1 j e (put1 i d (.nx S1)))
  | _ => .no
end
@[simp] theorem nst?_n {d : List (List PyData)} : nst? (some (.nst (.ls d))) = some d := rfl
@[simp] theorem r_put1 {i : Nat} {d : PyData} {S : En} : put1 i d (.nx S) = if noio S[i]? = true then .nx (S.set i (.val d)) else .no := rfl
@[simp] theorem r_putNst {i : Nat} {d : List (List PyData)} {S : En} : putNst i d S = if noio S[i]? = true then .nx (S.set i (.nst (.ls d))) else .no := rfl
@[simp] theorem r_asLE {d : List PyData} : asLE [.list d] = some (enumD d) := rfl
@[simp] theorem r_sParV {i j : Nat} {sr : SN} {S : En} : sParV i j sr S = ((sr S).stt fun ds S1 => match ds with
  | [d, e] => put1 j e (put1 i d (.nx S1))
  | _ => .no) := rfl
@[simp] theorem r_sParV3 {i j l : Nat} {sr : SN} {S : En} : sParV3 i j l sr S = ((sr S).stt fun ds S1 => match ds with
  | [d, e, f] => put1 l f (put1 j e (put1 i d (.nx S1)))
  | _ => .no) := rfl
@[simp] theorem r_sFrzN {i : Nat} {s : SS} {S : En} : sFrzN i s S = (match nst? S[i]? with
  | some dss => s (S.set i (.val (.list (dss.map .list))))
  | none => .no) := rfl
@[simp] theorem r_sFrz {i : Nat} {s : SS} {S : En} : sFrz i s S = (match own1? S[i]? with
  | some ds => s (S.set i (.val (.list ds)))
  | none => .no) := rfl
@[simp] theorem nstIx_n {dss : List (List PyData)} {j : Int} : nstIx (some (.nst (.ls dss))) (.int j) = if 0 ≤ j ∧ j < dss.length then some j.toNat else none := rfl
@[simp] theorem r_sNJ {i : Nat} {sb : SE} {S : En} : sNJ i sb S = (if (nst? S[i]?).isSome = true then (sb S).bnd fun k S1 => R.opt (nstIx S1[i]? k) S1 else .no) := rfl
@[simp] theorem r_sNIx {i : Nat} {sb : SE} {S : En} : sNIx i sb S = ((sNJ i sb S).bnd fun k S1 => R.opt ((nst? S1[i]?).bind fun dss => dss[k]?) S1) := rfl
@[simp] theorem r_sNApp {i : Nat} {sb se : SE} {S : En} : sNApp i sb se S = ((sNJ i sb S).bnd fun k S1 => (se S1).bnd fun d S2 => match nst? S2[i]? with
  | some dss => match dss[k]? with
    | some ds => if ds.length < sizeLine then .ok .none (S2.set i (.nst (.ls (dss.set k (ds ++ [d]))))) else .no
    | none => .no
  | none => .no) := rfl
@[simp] theorem r_sNIns {i : Nat} {sb : SE} {sg : SN} {S : En} : sNIns i sb sg S = ((sNJ i sb S).bnd fun k S1 => (sg S1).bnd fun gs S2 => match nst? S2[i]?, gs with
  | some dss, [.int j, d] => match dss[k]? with
    | some ds => if ds.length < sizeLine ∧ 0 ≤ j ∧ j < 2 ^ 63 then .ok .none (S2.set i (.nst (.ls (dss.set k (ds.take j.toNat ++ [d] ++ ds.drop j.toNat))))) else .no
    | none => .no
  | _, _ => .no) := rfl
@[simp] theorem r_sSetNst {i : Nat} {it : SN} {g : GT} {t : STt} {e : SN} {vs : List Nat} {S : En} : sSetNst i it g t e vs S = ((it S).stt fun ds S1 =>
  if (vs.all fun v => (own? S1[v]?).isNone && nn S1[v]?) = true ∧ ds.length < sizeLine then (noEx (lcN g t e vs ds (wipeS vs S1))).stt fun yss S2 => putNst i yss (unwipe vs S1 S2) else .no) := rfl
@[simp] theorem r_sCatN {sa sb : SE} {S : En} : sCatN sa sb S = ((sa S).bnd fun d S1 => (sb S1).bnd fun e S2 => match asL d, asL e with
  | some ds, some es => if ds.length + es.length ≤ sizeLine then .ok (ds ++ es) S2 else .no
  | _, _ => .no) := rfl
@[simp] theorem r_sCatV {i : Nat} {sb : SE} {S : En} : sCatV i sb S = (if (lst? S[i]?).isSome = true then (sb S).bnd fun e S2 => match lst? S2[i]?, asL e with
  | some ds, some es => if ds.length + es.length ≤ sizeLine then .ok (ds ++ es) S2 else .no
  | _, _ => .no
  else .no) := rfl
@[simp] theorem r_sRepN {s1 : SN} {s2 : SE} {S : En} : sRepN s1 s2 S = ((s1 S).bnd fun ds S1 => (noEx (s2 S1)).bnd fun k S2 => match k with
  | .int k => if -(2 ^ 63) ≤ k ∧ k < 2 ^ 63 ∧ ds.length * k.toNat ≤ sizeLine then .ok (List.replicate k.toNat ds).flatten S2 else .no
  | _ => .no) := rfl
@[simp] theorem r_sListS {sr : SN} {S : En} : sListS sr S = ((sr S).bnd fun ds S1 => match ds with
  | [.str x] => if x.cps.size ≤ sizeLine then .ok (signs x) S1 else .no
  | _ => .no) := rfl
@[simp] theorem r_sRng3 {sr : SN} {S : En} : sRng3 sr S = ((sr S).bnd fun ds S1 => R.opt (rng3 ds) S1) := rfl
@[simp] theorem r_sIEnL {sr : SN} {S : En} : sIEnL sr S = ((sr S).bnd fun ds S1 => R.opt (asLE ds) S1) := rfl
@[simp] theorem r_sAnd {ta tb : STt} {S : En} : sAnd ta tb S = ((ta S).bnd fun c S1 => if c = true then tb S1 else .ok false S1) := rfl
@[simp] theorem r_sAndV {ta tb : SE} {S : En} : sAndV ta tb S = ((ta S).bnd fun d S1 => match d with
  | .bool true => tb S1
  | .bool false => .ok (.bool false) S1
  | _ => .no) := rfl
@[simp] theorem r_sOrV {ta tb : SE} {S : En} : sOrV ta tb S = ((ta S).bnd fun d S1 => match d with
  | .bool false => tb S1
  | .bool true => .ok (.bool true) S1
  | _ => .no) := rfl
@[simp] theorem r_sNotV {sa : SE} {S : En} : sNotV sa S = ((sa S).bnd fun d S1 => match d with
  | .bool b => .ok (.bool (!b)) S1
  | _ => .no) := rfl
@[simp] theorem r_sPop {i : Nat} {se : SE} {S : En} : sPop i se S = (if (own? S[i]?).isSome = true then (se S).bnd fun d S1 => match own? S1[i]? with
  | some ds => match popI ds d with
    | some (x, es) => .ok x (upL i es S1)
    | none => .no
  | none => .no
  else .no) := rfl
@[simp] theorem r_gSubI {i : Nat} {sk : SE} {d : PyData} {S : En} : gSubI i sk d S = (match sk S with
  | .ok k S1 => match own? S1[i]? with
    | some ds => match setI ds k d with
      | some es => if (own? S[i]?).isSome = true then .nx (upL i es S1) else .no
      | none => .no
    | none => .no
  | _ => .no) := rfl
@[simp] theorem r_sAug {g : PyData → PyData → Option PyData} {i : Nat} {se : SE} {S : En} : sAug g i se S = (match val? S[i]? with
  | some d => (se S).stt fun e S1 => match g d e with
    | some z => put i (.val z) S1
    | none => .no
  | none => .no) := rfl
end Ds
end
section
set_option Elab.async false
set_option linter.all false
set_option maxRecDepth 100000
set_option maxHeartbeats 4000000
namespace Ds
open PySem PySem.Spec PyProof.Rows L2
section
variable {X : Cx} {W : WX} {C : Cn} {a b c : Expr} {sa sb : SE} {i : Nat}
def gLIx (ds : List PyData) (d : PyData) : Option PyData := if flatD d = true ∧ ds.all flatD = true then (ds.findIdx? fun z => PyData.eqv z d).map fun j => .int (j : Nat) else none
theorem RDs.get2 {K : PySem.W.Frag} {av : Av} {H : Hp} : ∀ {vs : List V} {ds : List PyData} {i : Nat} {v : V}, RDs K av H vs ds → vs[i]? = some v → ∃ d, ds[i]? = some d ∧ RD K av H v d
  | _, _, _, _, .nil, e => by simp at e
  | _, _, 0, _, .cons h _, e => by simp at e; subst e; exact ⟨_, rfl, h⟩
  | _, _, i + 1, _, .cons _ h, e => by
    obtain ⟨v, h1, h2⟩ := RDs.get2 (i := i) h (by simpa using e)
    exact ⟨v, by simpa using h1, h2⟩
theorem lix_run {K : PySem.W.Frag} {av : Av} {H : Hp} {p : Addr} {vs : List V} {ds : List PyData} {v : V} {d z : PyData} {Q : VK} (hl : SqL K H p vs) (rs : RDs K av H vs ds) (rv : RD K av H v d) (g : gLIx ds d = some z) (q : ∀ w, RD K av H w z → Q w H) : rIndex K (.ref p) [v] H Q := by
  unfold gLIx at g
  by_cases f : flatD d = true ∧ ds.all flatD = true
  · rw [if_pos f] at g
    cases e : ds.findIdx? fun z => PyData.eqv z d with
    | none => rw [e] at g; cases g
    | some j =>
      rw [e] at g
      cases g
      obtain ⟨lt, h1, h2⟩ := List.findIdx?_eq_some_iff_getElem.mp e
      have ej := List.getElem?_eq_getElem lt
      obtain ⟨w, h3, h4⟩ := rs.get ej
      have fl : ∀ {y : PyData}, y ∈ ds → flatD y = true := fun h => List.all_eq_true.mp f.2 _ h
      refine ⟨p, vs, v, j, w, rfl, rfl, hl, flat_rd rv f.1, flat_rds rs f.2, h3, ?_, fun m z' hm hz => ?_, q _ (.int _)⟩
      · rw [eqv_rd h4 rv (fl (List.getElem_mem _)) f.1]; exact h1
      · obtain ⟨y, h5, h6⟩ := rs.get2 hz
        obtain ⟨lm, h7⟩ := List.getElem?_eq_some_iff.mp h5
        rw [eqv_rd h6 rv (fl (List.mem_of_getElem? h5)) f.1]
        have := h2 m hm
        rw [h7] at this
        simpa using this
  · rw [if_neg f] at g; cases g
def sLixV (i : Nat) (sb : SE) : SE := fun S => if (lst? S[i]?).isSome = true then (sb S).bind fun d S1 => match lst? S1[i]? with
  | some ds => R.opt (gLIx ds d) S1
  | none => .no
  else .no
theorem e_lixV (hp : ∀ {t : TE}, PE X b t → PE X c (tBM X.K "list" (rIndex X.K) (tVar i) (tCons t tNil))) (hb : PE X b (xE X.K X.mg W C sb)) : PE X c (xE X.K X.mg W C (sLixV i sb)) :=
  pe_imp (hp hb) fun σ H Q ⟨ow, S, r, q⟩ => by
    change pst X.K X.mg W C (relE X.K) ow σ H Q (sLixV i sb S) at q
    unfold sLixV at q
    cases e : lst? S[i]? with
    | none => rw [e] at q; exact q.elim
    | some ds0 =>
      rw [e] at q
      obtain ⟨p, vs, h1, h2, _⟩ := r.list e
      refine ⟨.ref p, h1, .inl ⟨rfl, vs, h2⟩, seq early_E r q fun S1 d v H1 r1 x1 rv k => ?_⟩
      cases e1 : lst? S1[i]? with
      | none => rw [e1] at k; exact k.elim
      | some ds =>
        rw [e1] at k
        obtain ⟨p2, ws, g1, g2, g3⟩ := r1.list e1
        rw [h1] at g1; cases g1
        change pst X.K X.mg W C (relE X.K) ow σ H1 Q (R.opt (gLIx ds d) S1) at k
        cases e2 : gLIx ds d with
        | none => rw [e2] at k; exact k.elim
        | some z =>
          rw [e2] at k
          exact lix_run g2 g3 rv e2 fun w rw' => pst_ok r1 k rw'
def sLixE (sa sb : SE) : SE := fun S => (sa S).bind fun e S1 => match e with
  | .list ds => (sb S1).bind fun d S2 => R.opt (gLIx ds d) S2
  | _ => .no
end
@[simp] theorem r_sLixV {i : Nat} {sb : SE} {S : En} : sLixV i sb S = (if (lst? S[i]?).isSome = true then (sb S).bnd fun d S1 => match lst? S1[i]? with
  | some ds => R.opt (gLIx ds d) S1
  | none => .no
  else .no) := rfl
@[simp] theorem r_sLixE {sa sb : SE} {S : En} : sLixE sa sb S = ((sa S).bnd fun e S1 => match e with
  | .list ds => (sb S1).bnd fun d S2 => R.opt (gLIx ds d) S2
  | _ => .no) := rfl
end Ds
end
section
set_option Elab.async false
set_option linter.all false
set_option maxRecDepth 100000
set_option maxHeartbeats 4000000
namespace Ds
open PySem PySem.Spec PyProof.Rows L2
section
variable {X : Cx} {W : WX} {C : Cn} {pos : Pos} {e tg : Expr} {se : SE} {sr : SN}
def asLT (d : PyData) : Option (List PyData) := match d with
  | .list ds => some ds
  | .tuple ds => some ds
  | _ => none
def sISq (se : SE) : SN := fun S => (se S).bind fun d S1 => R.opt (asLT d) S1
theorem i_seq (h : PE X e (xE X.K X.mg W C se)) : PI X tg e (xI X.K X.mg W C (sISq se)) := by
  have h1 := i_list (tg := tg) (W := W) (C := C) h
  have h2 := i_tup (tg := tg) (W := W) (C := C) h
  refine ⟨fun pins s σ H R I q => ?_⟩
  obtain ⟨ow, S, r, q⟩ := q
  change pst X.K X.mg W C (relI X.K) ow σ H R (sISq se S) at q
  unfold sISq at q
  cases es : se S with
  | no => rw [es] at q; exact q.elim
  | ex c S' =>
    refine h1.run pins s σ H R I ⟨ow, S, r, ?_⟩
    show pst X.K X.mg W C (relI X.K) ow σ H R (sIL se S)
    unfold sIL
    rw [es] at q ⊢
    exact q
  | ok d S' =>
    rw [es, bind_ok] at q
    cases d with
    | list ds =>
      refine h1.run pins s σ H R I ⟨ow, S, r, ?_⟩
      show pst X.K X.mg W C (relI X.K) ow σ H R (sIL se S)
      unfold sIL
      rw [es]
      exact q
    | tuple ds =>
      refine h2.run pins s σ H R I ⟨ow, S, r, ?_⟩
      show pst X.K X.mg W C (relI X.K) ow σ H R (sIT se S)
      unfold sIT
      rw [es]
      exact q
    | _ => exact q.elim
end
@[simp] theorem r_sISq {se : SE} {S : En} : sISq se S = ((se S).bnd fun d S1 => R.opt (asLT d) S1) := rfl
@[simp] theorem r_asLT1 {ds : List PyData} : asLT (.list ds) = some ds := rfl
@[simp] theorem r_asLT2 {ds : List PyData} : asLT (.tuple ds) = some ds := rfl
end Ds
end
section
set_option linter.all false
set_option Elab.async false
set_option maxRecDepth 100000
open PySem PySem.Spec PyProof.Rows L2
namespace Ds
def c_is_whole : SS :=
  (sRet (sAndV (sIsi "int" (sVar 0)) (sNotV (sIsi "bool" (sVar 0)))))
def m_is_whole : Mf := mB 1 c_is_whole
def c_is_name : SS :=
  (sSeq (sIf (sOr (sNot (sTst (sIsi "str" (sVar 0)))) (sNot (sTst (sCh gLe gLe (sK (.int 1)) (sCallB gLen (sCons (sVar 0) sNil)) (sK (.int 8))))))
    (sRet (sK (.bool false)))
    sNx)
  (sRet (sRd lAll (sLc (sIS (sVar 0)) (gNm 1) sYes (sBin (gIn false) (sVar 1) (sK (.str (Str.ofString "abcdefghijklmnopqrstuvwxyz")))) [1]))))
def m_is_name : Mf := mB 2 c_is_name
def c_is_number : SS :=
  (sRet (sAndV (sCallV m_is_whole (sGv (sVar 0) sG0)) (sCh gLe gLe (sVar 1) (sVar 0) (sVar 2))))
def m_is_number : Mf := mB 3 c_is_number
def c_are_different_names : SS :=
  (sSeq (sIf (sOr (sNot (sTst (sIsi "tuple" (sVar 0)))) (sNot (sTst (sRd lAll (sLc (sISq (sVar 0)) (gNm 1) sYes (sCallV m_is_name (sGv (sVar 1) sG0)) [1])))))
    (sRet (sK (.bool false)))
    sNx)
  (sRet (sBin gEq (sLenSet (sVar 0)) (sCallB gLen (sCons (sVar 0) sNil)))))
def m_are_different_names : Mf := mB 2 c_are_different_names
def c_is_office : SS :=
  (sSeq (sIf (sOr (sNot (sTst (sIsi "tuple" (sVar 0)))) (sTst (sBin gGe (sCallB gLen (sCons (sVar 0) sNil)) (sK (.int 40)))))
    (sRet (sK (.bool false)))
    sNx)
  (sRet (sRd lAll (sLc (sIEnT (sCons (sVar 0) sNil)) (gTp (gNC (gNm 1) (gNC (gNm 2) gN0))) sYes (sCallV m_is_number (sGv (sVar 2) (sGv (sK (.int 0)) (sGv (sVar 1) sG0)))) [1, 2]))))
def m_is_office : Mf := mB 3 c_is_office
def c_need_office : SS :=
  (sIf (sNot (sTst (sCallV m_is_office (sGv (sVar 0) sG0))))
    sStop
    sNx)
def m_need_office : Mf := mB 1 c_need_office
def c_is_seating : SS :=
  (sSeq (sDrop (sCallV m_need_office (sGv (sVar 0) sG0)))
  (sRet (sAndV (sCallV m_are_different_names (sGv (sVar 1) sG0)) (sBin gEq (sCallB gLen (sCons (sVar 1) sNil)) (sBin gAdd (sCallB gLen (sCons (sVar 0) sNil)) (sK (.int 1)))))))
def m_is_seating : Mf := mB 2 c_is_seating
def c_need_seating : SS :=
  (sIf (sNot (sTst (sCallV m_is_seating (sGv (sVar 0) (sGv (sVar 1) sG0)))))
    sStop
    sNx)
def m_need_seating : Mf := mB 2 c_need_seating
def c_is_order : SS :=
  (sSeq (sDrop (sCallV m_need_seating (sGv (sVar 0) (sGv (sVar 1) sG0))))
  (sRet (sAndV (sCallV m_are_different_names (sGv (sVar 2) sG0)) (sRd lAll (sLc (sISq (sVar 2)) (gNm 3) sYes (sBin (gInT false) (sVar 3) (sVar 1)) [3])))))
def m_is_order : Mf := mB 4 c_is_order
def c_need_order : SS :=
  (sIf (sNot (sTst (sCallV m_is_order (sGv (sVar 0) (sGv (sVar 1) (sGv (sVar 2) sG0))))))
    sStop
    sNx)
def m_need_order : Mf := mB 3 c_need_order
end Ds
end
section
set_option linter.all false
set_option Elab.async false
set_option maxRecDepth 100000
open PySem PySem.Spec PyProof.Rows L2
namespace Ds
def c__law_draw : SS :=
  (sSeq (sIf (sTst (sBin gGt (sIxV 0 (sK (.int 0))) (sK (.int 0))))
    (sSeq (sSet 3 (sBin gMod (sIxV 0 (sK (.int 0))) (sVar 1)))
    (sSeq (sSetIx 0 (sK (.int 0)) (sBin gDiv (sIxV 0 (sK (.int 0))) (sVar 1)))
    (sRet (sVar 3))))
    sNx)
  (sSeq (sSetIx 0 (sK (.int 2)) (sBin gAdd (sIxV 0 (sK (.int 2))) (sK (.int 1))))
  (sSeq (sSet 2 (sBin gMod (sBin gPowB (sBin gAdd (sIxV 0 (sK (.int 1))) (sBin gMul (sK (.int 49979687)) (sIxV 0 (sK (.int 2))))) (sK (.int 3))) (sBin gAdd (sBin gPow (sK (.int 10)) (sK (.int 38))) (sK (.int 133)))))
  (sSeq (sSet 2 (sBin gMod (sBin gPowB (sBin gAdd (sVar 2) (sBin gMul (sK (.int 67867967)) (sIxV 0 (sK (.int 2))))) (sK (.int 5))) (sBin gAdd (sBin gPow (sK (.int 10)) (sK (.int 37))) (sK (.int 43)))))
  (sRet (sBin gMod (sBin gDiv (sVar 2) (sK (.int 1048576))) (sVar 1)))))))
def m__law_draw : Mf := mB 4 c__law_draw
def c__law_office : SS :=
  (sSeq (sSet 2 (sNE (sLst (sCons (sBin gAdd (sK (.int 1)) (sCallV m__law_draw (sGr 0 (sGv (sCallB gMin (sCons (sVar 1) (sCons (sK (.int 6)) sNil))) sG0)))) (sCons (sBin gAdd (sK (.int 1)) (sCallV m__law_draw (sGr 0 (sGv (sVar 1) sG0)))) (sCons (sVar 1) sNil))))))
  (sSeq (sParV 5 6 (sCons (sBin gIx (sVar 2) (sCallV m__law_draw (sGr 0 (sGv (sK (.int 3)) sG0)))) (sCons (sCallV m__law_draw (sGr 0 (sGv (sK (.int 5)) sG0))) sNil)))
  (sSeq (sSetNew 3 (sLst sNil))
  (sSeq (sFor (sRng2 (sCons (sK (.int 1)) (sCons (sVar 5) sNil))) (gNm 4)
    (sSeq (sParV3 7 8 9 (sCons (sCallV m__law_draw (sGr 0 (sGv (sVar 4) sG0))) (sCons (sCallV m__law_draw (sGr 0 (sGv (sK (.int 3)) sG0))) (sCons (sCallV m__law_draw (sGr 0 (sGv (sCallB gMin (sCons (sVar 4) (sCons (sK (.int 4)) sNil))) sG0))) sNil))))
    (sDrop (sAppend 3 (sBin gIx (sNE (sLst (sCons (sBin gSub_ (sVar 4) (sK (.int 1))) (sCons (sK (.int 0)) (sCons (sVar 7) (sCons (sCallB gMax (sCons (sK (.int 0)) (sCons (sBin gSub_ (sBin gSub_ (sVar 4) (sK (.int 1))) (sVar 8)) sNil))) (sCons (sVar 9) sNil))))))) (sVar 6))))))
  (sRet (sRd lTup (sLVar 3)))))))
def m__law_office : Mf := mB 10 c__law_office
def c__law_names : SS :=
  (sSeq (sSetNew 2 (sCatN (sNE (sListS (sCons (sK (.str (Str.ofString "abcdefghijklmnopqrstuvwxyz"))) sNil))) (sNE (sLst (sCons (sK (.str (Str.ofString "ab"))) (sCons (sK (.str (Str.ofString "ba"))) (sCons (sK (.str (Str.ofString "aa"))) (sCons (sK (.str (Str.ofString "zz"))) (sCons (sK (.str (Str.ofString "zzzzzzzz"))) (sCons (sK (.str (Str.ofString "zzzzzzza"))) (sCons (sK (.str (Str.ofString "open"))) (sCons (sK (.str (Str.ofString "call"))) (sCons (sK (.str (Str.ofString "days"))) sNil)))))))))))))
  (sSeq (sSetNew 2 (sCatV 2 (sNE (sLst (sCons (sK (.str (Str.ofString "order"))) (sCons (sK (.str (Str.ofString "silent"))) (sCons (sK (.str (Str.ofString "center"))) (sCons (sK (.str (Str.ofString "at"))) (sCons (sK (.str (Str.ofString "none"))) sNil)))))))))
  (sRet (sRd lTup (sLc (sRng1 (sCons (sVar 1) sNil)) (gNm 3) sYes (sPop 2 (sCallV m__law_draw (sGr 0 (sGv (sRd lLen (sLVar 2)) sG0)))) [3])))))
def m__law_names : Mf := mB 4 c__law_names
def c__law_called : SS :=
  (sSeq (sSetNew 2 (sListN (sCons (sVar 1) sNil)))
  (sSeq (sSet 3 (sNE (sLst (sCons (sRd lLen (sLVar 2)) (sCons (sCallV m__law_draw (sGr 0 (sGv (sBin gAdd (sRd lLen (sLVar 2)) (sK (.int 1))) sG0))) (sCons (sRd lLen (sLVar 2)) (sCons (sCallB gMin (sCons (sRd lLen (sLVar 2)) (sCons (sCallV m__law_draw (sGr 0 (sGv (sK (.int 4)) sG0))) sNil))) sNil)))))))
  (sRet (sRd lTup (sLc (sRng1 (sCons (sBin gIx (sVar 3) (sCallV m__law_draw (sGr 0 (sGv (sK (.int 4)) sG0)))) sNil)) (gNm 4) sYes (sPop 2 (sCallV m__law_draw (sGr 0 (sGv (sRd lLen (sLVar 2)) sG0)))) [4])))))
def m__law_called : Mf := mB 5 c__law_called
end Ds
end
section
set_option Elab.async false
set_option linter.all false
set_option maxRecDepth 100000
set_option maxHeartbeats 4000000
namespace Ds
open PySem PySem.Spec PyProof.Rows L2
abbrev mkP (p : Int × Int) : PyData := .tuple [.int p.1, .int p.2]
def prs : List PyData → Option (List (Int × Int))
  | [] => some []
  | .tuple [.int a, .int b] :: ds => (prs ds).map ((a, b) :: ·)
  | _ => none
def leP (p q : Int × Int) : Bool := !SrtO.lexB q p
def srtP (ps : List (Int × Int)) : List (Int × Int) := ps.mergeSort leP
section
variable {X : Cx} {W : WX} {C : Cn} {a b : Expr} {sr : SN} {sa sb : SE} {pos : Pos}
def srtOf : List PyData → Option (List PyData)
  | [.list es] => (prs es).map fun ps => (srtP ps).map mkP
  | _ => none
def sSrtP (sr : SN) : SN := fun S => (sr S).bind fun ds S1 => R.opt (srtOf ds) S1
end
end Ds
end
section
set_option Elab.async false
set_option linter.all false
set_option maxRecDepth 100000
set_option maxHeartbeats 4000000
namespace Ds
open PySem PySem.Spec PyProof.Rows L2
section
variable {X : Cx} {W : WX} {C : Cn} {e : Expr} {es : List Expr} {sa : SE} {sr : SN} {p pos : Pos}
def sStarA (sa : SE) (sr : SN) : SN := fun S => (sa S).bind fun d S1 => match seqOf [d] with
  | some xs => (sr S1).bind fun ds S2 => .ok (xs ++ ds) S2
  | none => .no
@[simp] theorem r_sStarA {S : En} : sStarA sa sr S = ((sa S).bnd fun d S1 => match seqOf [d] with
  | some xs => (sr S1).bnd fun ds S2 => .ok (xs ++ ds) S2
  | none => .no) := rfl
end
end Ds
end
section
set_option Elab.async false
set_option linter.all false
set_option maxRecDepth 100000
set_option maxHeartbeats 4000000
namespace Ds
open PySem PySem.Spec PyProof.Rows L2
def sRaise (c : Str) : SS := fun S => .ex (⟨c, none⟩ : Ec) S
@[simp] theorem r_sRaise {c : Str} {S : En} : sRaise c S = .ex (⟨c, none⟩ : Ec) S := rfl
end Ds
end
section
set_option Elab.async false
set_option linter.all false
set_option maxRecDepth 100000
set_option maxHeartbeats 4000000
namespace Ds
open PySem PySem.Spec PyProof.Rows L2
/-- a kept error as data -/
def excD (c : Ec) : PyData := match c.f with
  | none => .dict [(.none, .str c.n)]
  | some (f, i) => .dict [(.none, .str c.n), (.str f, .int i)]
@[simp] theorem excD_none {c : Str} : excD ⟨c, none⟩ = .dict [(.none, .str c)] := rfl
@[simp] theorem excD_some {c f : Str} {i : Int} : excD ⟨c, some (f, i)⟩ = .dict [(.none, .str c), (.str f, .int i)] := rfl
end Ds
end
section
set_option Elab.async false
set_option linter.all false
set_option maxRecDepth 100000
set_option maxHeartbeats 4000000
namespace Ds
open PySem PySem.Spec PyProof.Rows L2
def excN : PyData → Option Str
  | .dict ((.none, .str c) :: _) => some c
  | _ => none
def sIsX (f : Str → Option Bool) (sa : SE) : SE := fun S => (sa S).bind fun d S1 => R.opt (((excN d).bind f).map .bool) S1
@[simp] theorem r_sIsX {f : Str → Option Bool} {sa : SE} {S : En} : sIsX f sa S = ((sa S).bnd fun d S1 => R.opt (((excN d).bind f).map .bool) S1) := rfl
@[simp] theorem excN_some {c : Str} {fs : List (PyData × PyData)} : excN (.dict ((.none, .str c) :: fs)) = some c := rfl
end Ds
end
section
set_option Elab.async false
set_option linter.all false
set_option maxRecDepth 100000
set_option maxHeartbeats 4000000
namespace Ds
open PySem PySem.Spec PyProof.Rows L2
section
variable {X : Cx} {W : WX} {C : Cn} {a b c : Expr} {sa sb : SE}
def gCnt (ds : List PyData) (d : PyData) : Option PyData := if flatD d = true ∧ ds.all flatD = true then some (.int ((ds.countP fun z => PyData.eqv z d) : Nat)) else none
def sCntE (sa sb : SE) : SE := fun S => (sa S).bind fun e S1 => match e with
  | .list ds => (sb S1).bind fun d S2 => R.opt (gCnt ds d) S2
  | _ => .no
@[simp] theorem r_sCntE {S : En} : sCntE sa sb S = ((sa S).bnd fun e S1 => match e with
  | .list ds => (sb S1).bnd fun d S2 => R.opt (gCnt ds d) S2
  | _ => .no) := rfl
end
end Ds
end
section
set_option Elab.async false
set_option linter.all false
set_option maxRecDepth 100000
set_option maxHeartbeats 4000000
namespace Ds
open PySem PySem.Spec PyProof.Rows L2
def leS (a b : Str) : Bool := !(ltCps b.cps.toList a.cps.toList)
def srtS (xs : List Str) : List Str := xs.mergeSort leS
section
variable {X : Cx} {W : WX} {C : Cn} {a b : Expr} {sr : SN} {sa sb : SE} {pos : Pos}
def srtSOf : List PyData → Option (List PyData)
  | [.list es] => (strsOf es).map fun ss => (srtS ss).map .str
  | [.tuple es] => (strsOf es).map fun ss => (srtS ss).map .str
  | _ => none
def sSrtS (sr : SN) : SN := fun S => (sr S).bind fun ds S1 => R.opt (srtSOf ds) S1
@[simp] theorem r_sSrtS {sr : SN} {S : En} : sSrtS sr S = (sr S).bind fun ds S1 => R.opt (srtSOf ds) S1 := rfl
end
end Ds
end
section
set_option Elab.async false
set_option linter.all false
set_option maxRecDepth 100000
set_option maxHeartbeats 4000000
namespace Ds
open PySem PySem.Spec PyProof.Rows L2
section
variable {X : Cx} {W : WX} {C : Cn} {pos : Pos} {i j : Nat}
def sParVN (i j : Nat) (s1 : SE) (s2 : SN) : SS := fun S => (s1 S).st fun d S1 => (noEx (s2 S1)).st fun es S2 => match put i (.val d) S2 with
  | .nx S3 => put j (.own es) S3
  | _ => .no
theorem s_parVN {e1 e2 : Expr} {s1 : SE} {s2 : SN} {tgs : List Expr} {k2 pt2} (h1 : PE X e1 (xE X.K X.mg W C s1)) (h2 : PE X e2 (xN X.K X.mg W C s2))
    (hp : ∀ {t u : TE}, PE X e1 t → PE X e2 u → PS X (.Assign tgs (.Tuple [e1, e2] k2 pt2) pos) (tPar i j (tCons t (tCons u tNil)))) : PS X (.Assign tgs (.Tuple [e1, e2] k2 pt2) pos) (xS X.K X.mg W C (sParVN i j s1 s2)) :=
  ps_imp (hp h1 h2) fun D σ H ⟨ow, S, r, q⟩ => by
    change sst X.K X.mg W C ow H D ((s1 S).st fun d S1 => (noEx (s2 S1)).st fun es S2 => match put i (.val d) S2 with | .nx S3 => put j (.own es) S3 | _ => .no) at q
    refine ⟨ow, S, r, ?_⟩
    show pst X.K X.mg W C (relE X.K) ow σ H _ (s1 S)
    cases ea : s1 S with
    | no => rw [ea] at q; exact q
    | ex c S' => rw [ea] at q; exact fun H' r' x => q ow σ H' r' x (Grow.refl _ _)
    | ok d S1 =>
      rw [ea] at q
      rintro v H1 r1 x1 rd
      refine ⟨ow, S1, r1, ?_⟩
      show pst X.K X.mg W C (relN X.K) ow σ H1 _ (s2 S1)
      rw [st_ok] at q
      cases eb : s2 S1 with
      | no => rw [eb] at q; exact q
      | ex c S' => rw [eb] at q; exact q.elim
      | ok es S2 =>
        rw [eb, noEx_ok, st_ok] at q
        rintro w H2 r2 x2 ⟨b, ws, Hn, g1, g2, g3, g4, g5, g6⟩
        subst g1
        subst g3
        refine ⟨v, .ref b, rfl, ?_⟩
        unfold put at q
        by_cases hi : noio S2[i]? = true
        · simp only [if_pos hi] at q
          by_cases hj : noio (S2.set i (.val d))[j]? = true
          · simp only [if_pos hj] at q
            have rv := g5.putV hi (RD.mono g4 (Grow.refl _ _) d v rd)
            have lt1 : ∀ a, av C (owSet ow i none) a → av C ow a := fun a z => (av_set z).elim id fun z => by cases z
            have rb := rv.putN (i := j) hj g2 (rds_less g6 lt1)
            have ex : Ext (av C ow) H Hn := x1.trans (Grow.refl _ _) g4
            refine q _ _ _ rb ?_ ?_
            · exact ex.trans (Grow.refl _ _) (Ext.same (same_new g2))
            · exact Grow.trans (Grow.refl _ _) ex ((grow_set fun a z => by cases z).trans (Ext.refl _ _) (grow_set fun c z => by cases z; exact g2))
          · simp only [if_neg hj] at q
            exact q.elim
        · simp only [if_neg hi] at q
          exact q.elim
end
@[simp] theorem r_sParVN {i j : Nat} {s1 : SE} {s2 : SN} {S : En} : sParVN i j s1 s2 S = ((s1 S).stt fun d S1 => (noEx (s2 S1)).stt fun es S2 => match put i (.val d) S2 with
  | .nx S3 => put j (.own es) S3
  | _ => .no) := rfl
end Ds
end
section
set_option Elab.async false
set_option linter.all false
set_option maxRecDepth 100000
set_option maxHeartbeats 4000000
namespace Ds
open PySem PySem.Spec PyProof.Rows L2
section
variable {prog : Program} {w : World} {A : Around} {E : Value → Shared → Prop} {s : Shared}
theorem extend_wp {l b : Addr} {its its2 : Array Value} {n n2 : Nat} {o : Obj} {T : String} {P : Fin → Shared → Prop} (hl : s.heap.get? l = some { cls := .type "list", dict := none, data := .seq its n, slots := #[] }) (ho : s.heap.get? b = some o) (hc : o.cls = .type T) (hd : o.data = .seq its2 n2)
    (hT : T = "list" ∨ T = "tuple") (hz : its.size + its2.size ≤ sizeLine) (h : P (.done (.ret .none)) { s with heap := s.heap.update l (Obj.mapSeq (· ++ its2)) }) : wpAny (model prog w) A (Builtin.«list.extend» ⟨[.ref l, .ref b], []⟩) P E s := by
  show wpAny _ _ (Builtin.List.listExtendWith (.ref l) (.ref b) .none) _ _ s
  unfold Builtin.List.listExtendWith
  refine wpAny_bind (wpAny_typeOf (T := T) ⟨o, ho, hc⟩ ?_)
  rw [if_pos (by rcases hT with rfl | rfl <;> simp)]
  refine wpAny_bind (listItems_at ho hd (wpAny_bind (listItems_at hl rfl ?_)))
  have hlong : ¬ (!its.isEmpty && Builtin.List.listTooLong (its.size + its2.size)) = true := by
    rw [notLongL hz, Bool.and_false]
    exact Bool.false_ne_true
  rw [if_neg hlong]
  exact wpAny_bind (listUpdate_at hl rfl (wpAny_pure h) (by omega) (by rw [Array.size_append]; omega))
end
def rExtS (K : PySem.W.Frag) : V → List V → Hp → VK → Prop := fun x vs H Q => ∃ l b xs zs, x = .ref l ∧ vs = [.ref b] ∧ H l = some (.lst xs) ∧ (SqL K H b zs ∨ SqT K H b zs) ∧ xs.length + zs.length ≤ sizeLine ∧ Q .non (upd H l (.lst (xs ++ zs)))
section
variable {X : Cx}
theorem mt_extS : MtM X "list.extend" (rExtS X.K) := by
  intro pins s σ H x vs v us Q I rx rv h
  obtain ⟨l, b, xs, zs, rfl, rfl, hH, hB, hz, q⟩ := h
  cases rx
  obtain ⟨u, rfl, ru⟩ := rv.one
  cases ru
  obtain ⟨z, its, n, r, hl, e⟩ := I.lstM hH
  obtain ⟨its2, o, n2, T, r2, ho, hc, hd, hT⟩ : ∃ (its2 : List Value) (o : Obj) (n2 : Nat) (T : String), Vals zs its2 ∧ s.heap.get? b = some o ∧ o.cls = .type T ∧ o.data = .seq its2.toArray n2 ∧ (T = "list" ∨ T = "tuple") := by
    rcases hB with hB | hB
    · obtain ⟨its2, r2, ⟨o, n2, ho, hc, _, hd⟩, _⟩ := I.list hB
      exact ⟨its2, o, n2, "list", r2, ho, hc, hd, .inl rfl⟩
    · obtain ⟨its2, r2, ⟨o, ho, hc, n2, hd⟩, _⟩ := I.tuple hB
      exact ⟨its2, o, n2, "tuple", r2, ho, hc, hd, .inr rfl⟩
  refine wpAny_call_entry F.slot_list_extend ⟨_, e, rfl⟩ F.entry_list_extend (extend_wp e ho hc hd hT (by rw [List.size_toArray, List.size_toArray]; have := r.length; have := r2.length; omega) ⟨_, rfl, ?_⟩) (F.args_list_extend_2 _ _)
  exact ⟨.non, _, I.lset (its' := its ++ its2) hH e (by simp) (r.append r2) (by rw [List.length_append]; omega), rfl, q⟩
end
section
variable {X : Cx} {W : WX} {C : Cn} {pos : Pos} {e c : Expr} {se : SE} {i : Nat}
def sExtE (i : Nat) (se : SE) : SE := fun S => (se S).bind fun d S1 => match own? S1[i]?, asLT d with
  | some ds, some es => if ds.length + es.length ≤ sizeLine then .ok .none (upL i (ds ++ es) S1) else .no
  | _, _ => .no
def sExt (i : Nat) (se : SE) : SE := fun S => if (own? S[i]?).isSome = true then sExtE i se S else .no
theorem e_ext (hp : ∀ {t : TE}, PE X e t → PE X c (tBM X.K "list" (rExtS X.K) (tVar i) (tCons t tNil))) (he : PE X e (xE X.K X.mg W C se)) : PE X c (xE X.K X.mg W C (sExt i se)) :=
  pe_imp (hp he) fun σ H Q ⟨ow, S, r, q⟩ => by
    change pst X.K X.mg W C (relE X.K) ow σ H Q (if (own? S[i]?).isSome = true then sExtE i se S else .no) at q
    cases e : own? S[i]? with
    | none => rw [e] at q; exact q.elim
    | some ds =>
      rw [e] at q
      obtain ⟨a, vs, h0, h1, h2, h3⟩ := r.own i ds e
      refine ⟨.ref a, h1, .inl ⟨rfl, vs, SqL.of h2⟩, seq early_E r q fun S1 d x H1 r1 x1 rd k1 => ?_⟩
      cases e1 : own? S1[i]? with
      | none => rw [e1] at k1; exact k1.elim
      | some ds1 =>
        rw [e1] at k1
        obtain ⟨b, ws, g0, g1, g2, g3⟩ := r1.own i ds1 e1
        rw [h0] at g0; cases g0
        cases rd with
        | @lst p xs es l1 l2 =>
          change pst X.K X.mg W C (relE X.K) ow σ H1 Q (if ds1.length + es.length ≤ sizeLine then .ok .none (upL i (ds1 ++ es) S1) else .no) at k1
          by_cases z : ds1.length + es.length ≤ sizeLine
          · simp only [if_pos z] at k1
            obtain ⟨r2, x2⟩ := r1.up (es := ds1 ++ es) (vs := ws ++ xs) e1 h0 (g3.append l2)
            exact ⟨a, p, ws, xs, rfl, rfl, g2, .inl l1.sq, by rw [g3.len, l2.len]; exact z, k1 _ _ r2 x2 .non⟩
          · simp only [if_neg z] at k1
            exact k1.elim
        | @tup p xs es l1 l2 =>
          change pst X.K X.mg W C (relE X.K) ow σ H1 Q (if ds1.length + es.length ≤ sizeLine then .ok .none (upL i (ds1 ++ es) S1) else .no) at k1
          by_cases z : ds1.length + es.length ≤ sizeLine
          · simp only [if_pos z] at k1
            obtain ⟨r2, x2⟩ := r1.up (es := ds1 ++ es) (vs := ws ++ xs) e1 h0 (g3.append l2)
            exact ⟨a, p, ws, xs, rfl, rfl, g2, .inr l1.sq, by rw [g3.len, l2.len]; exact z, k1 _ _ r2 x2 .non⟩
          · simp only [if_neg z] at k1
            exact k1.elim
        | _ => exact k1.elim
end
@[simp] theorem r_sExt {i : Nat} {se : SE} {S : En} : sExt i se S = if (own? S[i]?).isSome = true then (se S).bnd fun d S1 => match own? S1[i]?, asLT d with
  | some ds, some es => if ds.length + es.length ≤ sizeLine then .ok .none (upL i (ds ++ es) S1) else .no
  | _, _ => .no
  else .no := rfl
end Ds
end
section
set_option Elab.async false
set_option linter.all false
set_option maxRecDepth 100000
set_option maxHeartbeats 4000000
namespace Ds
open PySem PySem.Spec PyProof.Rows L2
def gLSI : PyData → Option PyData
  | .list ds => match intsOf ds with
    | some ns => if ns.Nodup ∧ ns.length ≤ 4000 then some (.int (ns.length : Nat)) else none
    | none => none
  | _ => none
section
variable {X : Cx} {W : WX} {C : Cn} {a : Expr} {sa : SE} {p p2 r pos : Pos}
def sLenSetI (sa : SE) : SE := fun S => (sa S).bind fun d S1 => R.opt (gLSI d) S1
@[simp] theorem r_sLenSetI {sa : SE} {S : En} : sLenSetI sa S = (sa S).bnd fun d S1 => R.opt (gLSI d) S1 := rfl
end
end Ds
end
section
set_option Elab.async false
set_option linter.all false
set_option maxRecDepth 100000
set_option maxHeartbeats 4000000
namespace Ds
open PySem PySem.Spec PyProof.Rows L2
section
variable {X : Cx} {W : WX} {C : Cn} {pos p2 : Pos} {e e2 tg : Expr} {se : SE} {i j : Nat}
def sRetP (se : SE) (j : Nat) : SS := fun S => (se S).st fun d S1 => match own1? S1[j]? with
  | some ds => .rt (.pair d ds) S1
  | none => .no
def sAsgP (i j : Nat) (m : Mf) (sg : SG) : SS := fun S => (sCall m sg S).st fun x S1 => match x with
  | .pair d ds => if noio S1[i]? = true ∧ noio S1[j]? = true ∧ i ≠ j then .nx ((S1.set i (.val d)).set j (.own ds)) else .no
  | _ => .no
variable {x : Str} {p : Pos} {f : Addr} {fd : FuncData} {ps : List Str} {k n : Nat} {m : Mf} {sg : SG} {es : List Expr}
@[simp] theorem r_sRetP {S : En} : sRetP se j S = ((se S).stt fun d S1 => match own1? S1[j]? with
  | some ds => .rt (.pair d ds) S1
  | none => .no) := rfl
@[simp] theorem r_sAsgP {S : En} : sAsgP i j m sg S = ((sCall m sg S).stt fun x S1 => match x with
  | .pair d ds => if noio S1[i]? = true ∧ noio S1[j]? = true ∧ i ≠ j then .nx ((S1.set i (.val d)).set j (.own ds)) else .no
  | _ => .no) := rfl
end
end Ds
end
section
set_option Elab.async false
set_option linter.all false
set_option maxRecDepth 100000
set_option maxHeartbeats 4000000
namespace Ds
open PySem PySem.Spec PyProof.Rows L2
/-- new lists may have grown by n -/
def Mut (H1 : Hp) (n : Nat) (H H' : Hp) : Prop := ∀ a o, H a = some o → H' a = some o ∨ (H1 a = none ∧ ∃ us us', o = .lst us ∧ H' a = some (.lst us') ∧ us'.length ≤ us.length + n)
section
variable {K : PySem.W.Frag} {H1 H H' H2 : Hp} {n m k : Nat}
theorem Mut.refl : Mut H1 n H H := fun _ _ e => .inl e
theorem Mut.trans (a : Mut H1 n H H') (b : Mut H1 m H' H2) : Mut H1 (n + m) H H2 := fun p o e => by
  rcases a p o e with q | ⟨q0, us, us', rfl, q2, q3⟩
  · rcases b p o q with z | ⟨z0, us, us', z1, z2, z3⟩
    · exact .inl z
    · exact .inr ⟨z0, us, us', z1, z2, by omega⟩
  · rcases b p _ q2 with z | ⟨z0, vs, vs', z1, z2, z3⟩
    · exact .inr ⟨q0, us, us', rfl, z, by omega⟩
    · cases z1
      exact .inr ⟨q0, us, vs', rfl, z2, by omega⟩
theorem Mut.mono (a : Mut H1 n H H') (h : n ≤ m) : Mut H1 m H H' := fun p o e => (a p o e).imp id fun ⟨q0, us, us', q1, q2, q3⟩ => ⟨q0, us, us', q1, q2, by omega⟩
theorem Mut.new {p : Addr} {o : HO} (h : H p = none) : Mut H1 n H (upd H p o) := fun a o e => .inl (same_new h a o e)
theorem Mut.put {p : Addr} {us us' : List V} (h : H p = some (.lst us)) (h1 : H1 p = none) (l : us'.length ≤ us.length + n) : Mut H1 n H (upd H p (.lst us')) := fun a o e => by
  by_cases z : a = p
  · subst z
    rw [h] at e
    cases e
    exact .inr ⟨h1, us, us', rfl, upd_same, l⟩
  · exact .inl (by rw [upd_ne z]; exact e)
theorem Mut.tup (a : Mut H1 n H H') {p : Addr} {o : Obj} {xs : List V} (e : H p = some (.frz o (.tup xs))) : H' p = some (.frz o (.tup xs)) := (a p _ e).elim id fun ⟨_, _, _, z, _⟩ => by cases z
end
end Ds
end
section
set_option Elab.async false
set_option linter.all false
set_option maxRecDepth 100000
set_option maxHeartbeats 4000000
namespace Ds
open PySem PySem.Spec PyProof.Rows L2
abbrev mkX (p : Int × PyData) : PyData := .tuple [.int p.1, p.2]
def prsX : List PyData → Option (List (Int × PyData))
  | [] => some []
  | .tuple [.int a, d] :: ds => (prsX ds).map ((a, d) :: ·)
  | _ => none
def leX (p q : Int × PyData) : Bool := decide (p.1 ≤ q.1)
def srtX (ps : List (Int × PyData)) : List (Int × PyData) := ps.mergeSort leX
section
variable {X : Cx} {W : WX} {C : Cn} {a : Expr} {sr : SN} {pos : Pos}
def srtOfX : List PyData → Option (List PyData)
  | [.list es] => match prsX es with
    | some ps => if (ps.map Prod.fst).Nodup then some ((srtX ps).map mkX) else none
    | none => none
  | _ => none
def sSrtX (sr : SN) : SN := fun S => (sr S).bind fun ds S1 => R.opt (srtOfX ds) S1
end
@[simp] theorem r_sSrtX {sr : SN} {S : En} : sSrtX sr S = ((sr S).bnd fun ds S1 => R.opt (srtOfX ds) S1) := rfl
end Ds
end
section
set_option Elab.async false
set_option linter.all false
set_option maxRecDepth 100000
set_option maxHeartbeats 4000000
namespace Ds
open PySem PySem.Spec PyProof.Rows L2
section
variable {X : Cx} {W : WX} {C : Cn} {pos : Pos} {i j l : Nat} {a : Expr} {sa : SE}
def sLstRg (sa : SE) : SN := fun S => (sa S).bind fun d S1 => match d with
  | .int n => if 0 ≤ n ∧ n ≤ 16777216 then .ok (rng 0 n) S1 else .no
  | _ => .no
def sPar3N (i j l : Nat) (s1 : SE) (s2 s3 : SN) : SS := fun S => (s1 S).st fun d S1 => (noEx (s2 S1)).st fun es S2 => (noEx (s3 S2)).st fun fs S3 => match put i (.val d) S3 with
  | .nx S4 => match put j (.own es) S4 with
    | .nx S5 => put l (.own fs) S5
    | _ => .no
  | _ => .no
end
@[simp] theorem r_sLstRg {sa : SE} {S : En} : sLstRg sa S = ((sa S).bnd fun d S1 => match d with
  | .int n => if 0 ≤ n ∧ n ≤ 16777216 then .ok (rng 0 n) S1 else .no
  | _ => .no) := rfl
@[simp] theorem r_sPar3N {i j l : Nat} {s1 : SE} {s2 s3 : SN} {S : En} : sPar3N i j l s1 s2 s3 S = ((s1 S).stt fun d S1 => (noEx (s2 S1)).stt fun es S2 => (noEx (s3 S2)).stt fun fs S3 => match put i (.val d) S3 with
  | .nx S4 => match put j (.own es) S4 with
    | .nx S5 => put l (.own fs) S5
    | _ => .no
  | _ => .no) := rfl
end Ds
end
section
set_option linter.all false
set_option Elab.async false
set_option maxRecDepth 100000
open PySem PySem.Spec PyProof.Rows L2
namespace Ds
def c_depths : SS :=
  (sSeq (sSetNew 1 (sLst (sCons (sK (.int 0)) sNil)))
  (sSeq (sFor (sISq (sVar 0)) (gNm 2)
    (sDrop (sAppend 1 (sBin gAdd (sIxV 1 (sVar 2)) (sK (.int 1))))))
  (sRetOwn 1)))
def m_depths : Mf := mB 3 c_depths
end Ds
end
section
set_option Elab.async false
set_option linter.all false
set_option maxRecDepth 100000
set_option maxHeartbeats 4000000
namespace Ds
open PySem PySem.Spec PyProof.Rows L2
section
variable {X : Cx}
def facN (n : Nat) : Nat := Builtin.Math.factorialNat n
def rFac : List V → Hp → VK → Prop := fun xs H Q => ∃ i : Int, xs = [.int i] ∧ 0 ≤ i ∧ i ≤ 20000 ∧ Q (.int ((facN i.toNat : Nat) : Int)) H
theorem cr_fac : CallR X (.builtin "math.factorial") rFac := by
  intro pins s σ H xs us Q I r h
  obtain ⟨i, rfl, h0, h1, q⟩ := h
  obtain ⟨u, rfl, ⟨t, rfl⟩⟩ := vals1 r
  exact PySem.W.mc_factorial h0 h1 fun _ => ⟨.int _, H, I.tok _, ⟨_, rfl⟩, q⟩
end
section
variable {K : PySem.W.Frag}
def gFac (ds : List PyData) : Option PyData := match ds with
  | [.int i] => if 0 ≤ i ∧ i ≤ 20000 then some (.int ((facN i.toNat : Nat) : Int)) else none
  | _ => none
theorem cd_fac : CallD K rFac gFac := fun av H xs ds z Q tr r g q => by
  match ds, r, g with
  | [.int i], .cons (.int _) .nil, g =>
    change (if 0 ≤ i ∧ i ≤ 20000 then some (PyData.int ((facN i.toNat : Nat) : Int)) else none) = some z at g
    by_cases c : 0 ≤ i ∧ i ≤ 20000
    · rw [if_pos c] at g
      cases g
      exact ⟨i, rfl, c.1, c.2, q _ H (Same.refl H) (.int _)⟩
    · rw [if_neg c] at g
      cases g
/-- the greatest of a list -/
def lMax (ds : List PyData) : Option PyData := match intsOf ds with
  | some (n :: ns) => some (.int (ns.foldl max n))
  | _ => none
theorem foldl_max : ∀ (ns : List Int) (n : Int), (n ≤ ns.foldl max n ∧ ∀ y ∈ ns, y ≤ ns.foldl max n) ∧ (ns.foldl max n = n ∨ ns.foldl max n ∈ ns)
  | [], n => ⟨⟨Int.le_refl _, fun y h => by cases h⟩, .inl rfl⟩
  | m :: ns, n => by
    obtain ⟨⟨a, b⟩, c⟩ := foldl_max ns (max n m)
    have h1 : n ≤ max n m := by omega
    have h2 : m ≤ max n m := by omega
    refine ⟨⟨Int.le_trans h1 a, fun y hy => ?_⟩, ?_⟩
    · rcases List.mem_cons.mp hy with e | e
      · rw [e]; exact Int.le_trans h2 a
      · exact b y e
    · have ef : (m :: ns).foldl max n = ns.foldl max (max n m) := rfl
      rw [ef]
      rcases c with e | e
      · rw [e]
        by_cases z : n ≤ m
        · right
          rw [show max n m = m by omega]
          simp
        · left
          omega
      · exact .inr (List.mem_cons_of_mem _ e)
theorem ld_max : LstD K (rMax K) lMax := fun av H p vs ds z Q tr h r g q => by
  unfold lMax at g
  cases e : intsOf ds with
  | none => rw [e] at g; cases g
  | some bs =>
    rw [e] at g
    cases bs with
    | nil => cases g
    | cons n ns =>
      cases g
      have ed := intsOf_map e
      subst ed
      have ev := r.ints
      subst ev
      obtain ⟨⟨a, b⟩, c⟩ := foldl_max ns n
      refine ⟨p, n :: ns, rfl, h, by simp, fun m hm hg => ?_⟩
      have hm' : m = ns.foldl max n := by
        have h1 : ns.foldl max n ∈ n :: ns := c.elim (fun w => by rw [w]; simp) fun w => List.mem_cons_of_mem _ w
        have h2 := hg _ h1
        rcases List.mem_cons.mp hm with w | w
        · subst w; omega
        · have := b m w; omega
      subst hm'
      exact q _ H (Same.refl H) (.int _)
end
section
variable {X : Cx} {W : WX} {C : Cn} {pos p : Pos} {e a b tg : Expr} {es : List Expr} {sr : SN} {sa sb : SE}
theorem e_callMB {id : String} {x : Str} {rr : List V → Hp → VK → Prop} {gg : List PyData → Option PyData} (hc : CallR X (.builtin id) rr) (hd : CallD X.K rr gg) (hg : Gl X x) (hm : X.mg x = some (.builtin id)) (ha : PA X (a :: es) (xA X.K X.mg W C sr)) (hdb : (x == ("__debug__" : Str)) = false := by decide)
    (he : starEach (a :: es) X.env = (false, eval a X.env) :: starEach es X.env := by rfl) (hpl : (backTo pos (starEach es X.env)).any (·.1) = false := by rfl) : PE X (.Call (.Name x p) (a :: es) [] pos) (xE X.K X.mg W C (sCallB gg sr)) :=
  pe_imp (pe_callMB hc hg hm ha hdb he hpl) fun _ _ _ h => callB_tCB hd h
def rngR (lo hi : Int) : List PyData := (List.range (hi - lo).toNat).map fun k => .int (hi - 1 - (k : Nat))
def sRev1 (sa : SE) : SN := fun S => (sa S).bind fun d S1 => match d with
  | .int j => if 0 ≤ j ∧ smallI j = true then .ok (rngR 0 j) S1 else .no
  | _ => .no
end
@[simp] theorem r_sRev1 {sa : SE} {S : En} : sRev1 sa S = ((sa S).bnd fun d S1 => match d with
  | .int j => if 0 ≤ j ∧ smallI j = true then .ok (rngR 0 j) S1 else .no
  | _ => .no) := rfl
end Ds
end
section
set_option Elab.async false
set_option linter.all false
set_option maxRecDepth 100000
set_option maxHeartbeats 4000000
namespace Ds
open PySem PySem.Spec PyProof.Rows L2
def dct? : Option Sl → Option (List (Key × PyData))
  | some (.nst (.dc kvs)) => some kvs
  | _ => none
def toK : PyData → Option Key
  | .int i => some (.inl i)
  | .str s => some (.inr s)
  | _ => none
def dGet (kvs : List (Key × PyData)) (k : Key) : Option PyData := (kvs.find? fun kv => decide (kv.1 = k)).map (·.2)
def dPut (kvs : List (Key × PyData)) (k : Key) (v : PyData) : List (Key × PyData) :=
  if (kvs.any fun kv => decide (kv.1 = k)) = true then kvs.map (fun kv => if kv.1 = k then (kv.1, v) else kv) else kvs ++ [(k, v)]
def mergeD (kvs more : List (Key × PyData)) : List (Key × PyData) := more.foldl (fun acc kv => dPut acc kv.1 kv.2) kvs
/-- pairs of a key and a value -/
def prsD : List PyData → Option (List (Key × PyData))
  | [] => some []
  | .tuple [k, v] :: ds => match toK k, prsD ds with
    | some k, some r => some ((k, v) :: r)
    | _, _ => none
  | _ => none
section
variable {K : PySem.W.Frag} {av av' : Av} {H H' : Hp}
inductive DkP (K : PySem.W.Frag) (av : Av) (H : Hp) : List (Key × V) → List (Key × PyData) → Prop
  | nil : DkP K av H [] []
  | cons {k : Key} {v : V} {d : PyData} {ks : List (Key × V)} {kvs : List (Key × PyData)} : RD K av H v d → DkP K av H ks kvs → DkP K av H ((k, v) :: ks) ((k, d) :: kvs)
theorem DkP.of : ∀ {ks : List (Key × V)} {kvs : List (Key × PyData)}, DkR K av H ks kvs → DkP K av H ks kvs
  | [], [], _ => .nil
  | [], _ :: _, h => by have := h.key; simp at this
  | _ :: _, [], h => by have := h.key; simp at this
  | (k, v) :: ks, (k2, d) :: kvs, h => by
    have e := h.key
    rw [List.map_cons, List.map_cons] at e
    injection e with e1 e2
    obtain rfl : k = k2 := e1
    have r := h.val
    rw [List.map_cons, List.map_cons] at r
    cases r with
    | cons r1 r2 => exact .cons r1 (DkP.of ⟨e2, r2⟩)
theorem DkP.len : ∀ {ks : List (Key × V)} {kvs : List (Key × PyData)}, DkP K av H ks kvs → ks.length = kvs.length
  | _, _, .nil => rfl
  | _, _, .cons _ t => congrArg (· + 1) t.len
theorem DkP.any {k : Key} : ∀ {ks : List (Key × V)} {kvs : List (Key × PyData)}, DkP K av H ks kvs → (ks.any fun kv => decide (kv.1 = k)) = (kvs.any fun kv => decide (kv.1 = k))
  | _, _, .nil => rfl
  | _, _, .cons _ t => by rw [List.any_cons, List.any_cons, DkP.any t]
theorem DkP.repl {k : Key} {v : V} {d : PyData} (r : RD K av H v d) : ∀ {ks : List (Key × V)} {kvs : List (Key × PyData)}, DkP K av H ks kvs → DkP K av H (ks.map fun kv => if kv.1 = k then (kv.1, v) else kv) (kvs.map fun kv => if kv.1 = k then (kv.1, d) else kv)
  | _, _, .nil => .nil
  | _, _, .cons (k := j) q t => by
    rw [List.map_cons, List.map_cons]
    by_cases e : j = k
    · rw [if_pos e, if_pos e]; exact .cons r (DkP.repl r t)
    · rw [if_neg e, if_neg e]; exact .cons q (DkP.repl r t)
theorem DkP.snoc {k : Key} {v : V} {d : PyData} (r : RD K av H v d) : ∀ {ks : List (Key × V)} {kvs : List (Key × PyData)}, DkP K av H ks kvs → DkP K av H (ks ++ [(k, v)]) (kvs ++ [(k, d)])
  | _, _, .nil => .cons r .nil
  | _, _, .cons q t => .cons q (DkP.snoc r t)
theorem DkP.put {k : Key} {v : V} {d : PyData} {ks : List (Key × V)} {kvs : List (Key × PyData)} (h : DkP K av H ks kvs) (r : RD K av H v d) : DkP K av H (putK ks k v) (dPut kvs k d) := by
  unfold putK dPut
  rw [h.any]
  by_cases e : (kvs.any fun kv => decide (kv.1 = k)) = true
  · rw [if_pos e, if_pos e]; exact h.repl r
  · rw [if_neg e, if_neg e]; exact h.snoc r
theorem DkP.get {k : Key} {d : PyData} : ∀ {ks : List (Key × V)} {kvs : List (Key × PyData)}, DkP K av H ks kvs → dGet kvs k = some d → ∃ v, valV ks k = some v ∧ RD K av H v d
  | _, _, .nil, e => by cases e
  | _, _, .cons (k := j) (v := v) (d := c) (kvs := kvs) q t, e => by
    by_cases z : j = k
    · have : dGet ((j, c) :: kvs) k = some c := by unfold dGet; rw [List.find?_cons_of_pos (by simp [z])]; rfl
      rw [this] at e
      cases e
      exact ⟨v, valV_pos z, q⟩
    · have : dGet ((j, c) :: kvs) k = dGet kvs k := by unfold dGet; rw [List.find?_cons_of_neg (by simp [z])]
      rw [this] at e
      obtain ⟨w, h1, h2⟩ := DkP.get t e
      exact ⟨w, by rw [valV_neg z]; exact h1, h2⟩
end
section
variable {X : Cx} {W : WX} {C : Cn} {pos pos2 : Pos} {i : Nat} {e k : Expr} {se sk : SE} {sn : SN}
def sSetDct (i : Nat) (sn : SN) : SS := fun S => (sn S).st fun ds S1 => match prsD ds with
  | some kvs => if noio S1[i]? = true then .nx (S1.set i (.nst (.dc (mergeD [] kvs)))) else .no
  | none => .no
def sDGt (i : Nat) (sk : SE) : SE := fun S => if (dct? S[i]?).isSome = true then (sk S).bind fun k S1 => R.opt ((dct? S1[i]?).bind fun kvs => (toK k).bind fun κ => dGet kvs κ) S1 else .no
def sDPt (i : Nat) (sk se : SE) : SS := fun S => (se S).st fun d S1 => if (dct? S1[i]?).isSome = true then (sk S1).st fun k S2 => match dct? S2[i]?, toK k with
  | some kvs, some κ => if kvs.length < sizeLine then .nx (S2.set i (.nst (.dc (dPut kvs κ d)))) else .no
  | _, _ => .no
  else .no
/-- list(d) -/
def sDKs (i : Nat) : SN := fun S => match dct? S[i]? with
  | some kvs => .ok (kvs.map fun kv => kD kv.1) S
  | none => .no
/-- list(d.values()) -/
def sDVs (i : Nat) : SN := fun S => match dct? S[i]? with
  | some kvs => .ok (kvs.map (·.2)) S
  | none => .no
end
@[simp] theorem dct?_n {d : List (Key × PyData)} : dct? (some (.nst (.dc d))) = some d := rfl
@[simp] theorem noio_dc {x : Nst} : noio (some (.nst x)) = false := rfl
@[simp] theorem r_sSetDct {i : Nat} {sn : SN} {S : En} : sSetDct i sn S = ((sn S).stt fun ds S1 => match prsD ds with
  | some kvs => if noio S1[i]? = true then .nx (S1.set i (.nst (.dc (mergeD [] kvs)))) else .no
  | none => .no) := rfl
@[simp] theorem r_sDGt {i : Nat} {sk : SE} {S : En} : sDGt i sk S = (if (dct? S[i]?).isSome = true then (sk S).bnd fun k S1 => R.opt ((dct? S1[i]?).bind fun kvs => (toK k).bind fun κ => dGet kvs κ) S1 else .no) := rfl
@[simp] theorem r_sDPt {i : Nat} {sk se : SE} {S : En} : sDPt i sk se S = ((se S).stt fun d S1 => if (dct? S1[i]?).isSome = true then (sk S1).stt fun k S2 => match dct? S2[i]?, toK k with
  | some kvs, some κ => if kvs.length < sizeLine then .nx (S2.set i (.nst (.dc (dPut kvs κ d)))) else .no
  | _, _ => .no
  else .no) := rfl
@[simp] theorem r_sDKs {i : Nat} {S : En} : sDKs i S = (match dct? S[i]? with
  | some kvs => .ok (kvs.map fun kv => kD kv.1) S
  | none => .no) := rfl
@[simp] theorem r_sDVs {i : Nat} {S : En} : sDVs i S = (match dct? S[i]? with
  | some kvs => .ok (kvs.map (·.2)) S
  | none => .no) := rfl
@[simp] theorem toK_int {i : Int} : toK (.int i) = some (.inl i) := rfl
@[simp] theorem toK_str {i : Str} : toK (.str i) = some (.inr i) := rfl
end Ds
end
section
set_option Elab.async false
set_option linter.all false
set_option maxRecDepth 100000
set_option maxHeartbeats 4000000
namespace Ds
open PySem PySem.Spec PyProof.Rows L2
section
variable {X : Cx} {W : WX} {C : Cn} {sa : SE} {a : Expr} {pos : Pos}
def gLSL : PyData → Option PyData
  | .list ds => match strsOf ds with
    | some ys => if ys.length < 2000 then some (.int (dct (pre ys ys.length) : Nat)) else none
    | none => none
  | _ => none
def sLenSetL (sa : SE) : SE := fun S => (sa S).bind fun d S1 => R.opt (gLSL d) S1
end
@[simp] theorem r_sLenSetL {sa : SE} {S : En} : sLenSetL sa S = (sa S).bnd fun d S1 => R.opt (gLSL d) S1 := rfl
end Ds
end
section
set_option Elab.async false
set_option linter.all false
set_option maxRecDepth 100000
set_option maxHeartbeats 4000000
namespace Ds
open PySem PySem.Spec PyProof.Rows L2
section
variable {X : Cx} {W : WX} {C : Cn} {a b c : Expr} {sa sb : SE}
def gCntD (ds : List PyData) (d : PyData) : Option PyData := if okEq d = true ∧ okEq (.list ds) = true then some (.int ((ds.countP fun z => PyData.eqv z d : Nat) : Int)) else none
def sCntD (sa sb : SE) : SE := fun S => (sa S).bind fun e S1 => match e with
  | .list ds => (sb S1).bind fun d S2 => R.opt (gCntD ds d) S2
  | _ => .no
@[simp] theorem r_sCntD {S : En} : sCntD sa sb S = ((sa S).bnd fun e S1 => match e with
  | .list ds => (sb S1).bnd fun d S2 => R.opt (gCntD ds d) S2
  | _ => .no) := rfl
end
end Ds
end
section
set_option Elab.async false
set_option linter.all false
set_option maxRecDepth 100000
set_option maxHeartbeats 4000000
namespace Ds
open PySem PySem.Spec PyProof.Rows L2
section
variable {X : Cx} {W : WX} {C : Cn} {pos : Pos} {i j l : Nat}
def sPar3M (i j l : Nat) (s1 : SE) (s2 : SN) (s3 : SE) : SS := fun S => (s1 S).st fun d S1 => (noEx (s2 S1)).st fun es S2 => (noEx (s3 S2)).st fun f S3 => match put i (.val d) S3 with
  | .nx S4 => match put j (.own es) S4 with
    | .nx S5 => put l (.val f) S5
    | _ => .no
  | _ => .no
end
@[simp] theorem r_sPar3M {i j l : Nat} {s1 : SE} {s2 : SN} {s3 : SE} {S : En} : sPar3M i j l s1 s2 s3 S = ((s1 S).stt fun d S1 => (noEx (s2 S1)).stt fun es S2 => (noEx (s3 S2)).stt fun f S3 => match put i (.val d) S3 with
  | .nx S4 => match put j (.own es) S4 with
    | .nx S5 => put l (.val f) S5
    | _ => .no
  | _ => .no) := rfl
end Ds
end
section
set_option Elab.async false
set_option linter.all false
set_option maxRecDepth 100000
set_option maxHeartbeats 4000000
namespace Ds
open PySem PySem.Spec PyProof.Rows L2
def HotH (A : Around) (H : Hp) : Prop := ∃ (a : Addr) (oe : Obj) (vs : Array Value), A.handled = some (.ref a) ∧ H a = some (kepO a oe) ∧ oe.data = .fields vs ∧ vs[2]? = some .none
def HotS (X : Cx) (C : Cn) : Prop := ∃ (a : Addr) (oe : Obj) (vs : Array Value), X.A.handled = some (.ref a) ∧ C.H0 a = some (kepO a oe) ∧ (∀ i, C.io i ≠ some a) ∧ oe.data = .fields vs ∧ vs[2]? = some .none
theorem HotS.at {X : Cx} {K : PySem.W.Frag} {C : Cn} {ow : Ow} {S : En} {σ : L2.St} {H : Hp} (h : HotS X C) (r : Rl K C ow S σ H) : HotH X.A H := by
  obtain ⟨a, oe, vs, h1, h2, h3, h4⟩ := h
  exact ⟨a, oe, vs, h1, r.ext a _ h2 h3, h4⟩
theorem HotS.plus {X : Cx} {K : PySem.W.Frag} {C : Cn} {ow ow2 : Ow} {S T : En} {σ σ2 : L2.St} {H1 H2 : Hp} {D : Addr} {acc : List V} (h : HotS X C) (r : Rl K C ow S σ H1) (hD : H1 D = none) (r2 : Rl K (C.plus D acc) ow2 T σ2 H2) : HotH X.A H2 := by
  obtain ⟨a, oe, vs, h1, h2, h3, h4⟩ := h
  have e := r.ext a _ h2 h3
  have ne : a ≠ D := fun z => by rw [z, hD] at e; cases e
  refine ⟨a, oe, vs, h1, r2.ext a _ ?_ h3, h4⟩
  show upd C.H0 D (.lst acc) a = _
  rw [upd_ne ne]
  exact h2
theorem HotH.heap {X : Cx} {pins : List (Addr × Obj)} {σ : L2.St} {H : Hp} {s : Shared} (h : HotH X.A H) (I : Inv X pins σ H s) : ∃ a, HotX.HotAt X.A a s.heap := by
  obtain ⟨a, oe, vs, h1, h2, h3, h4⟩ := h
  exact ⟨a, h1, oe, vs, (I.hok a _ h2).1, h3, h4⟩
end Ds
end
section
set_option Elab.async false
set_option linter.all false
set_option maxRecDepth 100000
set_option maxHeartbeats 4000000
namespace Ds
open PySem PySem.Spec PyProof.Rows L2
def sJoinT (sa sb : SE) : SE := fun S => (sa S).bind fun d S1 => match d with
  | .str s => (sb S1).bind fun e S2 => (match e with
    | .tuple ds => R.opt (gJoin (.str s) ds) S2
    | _ => .no)
  | _ => .no
@[simp] theorem r_sJoinT {sa sb : SE} {S : En} : sJoinT sa sb S = ((sa S).bnd fun d S1 => match d with
  | .str s => (sb S1).bnd fun e S2 => (match e with
    | .tuple ds => R.opt (gJoin (.str s) ds) S2
    | _ => .no)
  | _ => .no) := rfl
end Ds
end
section
set_option Elab.async false
set_option linter.all false
set_option maxRecDepth 100000
set_option maxHeartbeats 4000000
namespace Ds
open PySem PySem.Spec PyProof.Rows L2
section
variable {prog : Program} {w : World} {A : Around} {E : Value → Shared → Prop} {s : Shared}
variable {z P O T i j a b : Addr} {f : Bool} {ob : Obj} {n m : Nat} {us vs : Array Value} {u v : Value}
/-- the pairs made so far -/
structure ZG (us vs : Array Value) (S : Addr) (h : Heap) (ts : List Addr) : Prop where
  rise : ts.Pairwise (· < ·)
  above : ∀ t ∈ ts, S < t
  pair : ∀ (n : Nat) (t : Addr), ts[n]? = some t → ∃ u v, us[n]? = some u ∧ vs[n]? = some v ∧ IsPair h t u v
/-- the zip between two turns -/
structure ZS (z P O i j a b S : Addr) (us vs : Array Value) (n : Nat) (h : Heap) : Prop where
  zip : (n = 0 ∧ IsZip h z P O .none ∧ ∃ x y, IsPair h O x y) ∨ ∃ T f ob, IsZipHeld h z P O T f ∧ h.get? T = some ob ∧ S < T
  its : IsPair h P (.ref i) (.ref j)
  one : h.IsTupleIter i a n
  two : h.IsTupleIter j b n
  ta : h.IsTuple a us
  tb : h.IsTuple b vs
/-- what stands below the list being made -/
structure ZB (z P O i j a b S : Addr) : Prop where
  D : ZipApart z P O i j a b
  z : z < S
  P : P < S
  O : O < S
  i : i < S
  j : j < S
  a : a < S
  b : b < S
theorem ZS.keep {S : Addr} {h h' : Heap} (B : ZB z P O i j a b S) (x : ZS z P O i j a b S us vs n h) (k : ∀ c o, c ≠ S → h.get? c = some o → h'.get? c = some o) : ZS z P O i j a b S us vs n h' where
  zip := x.zip.elim (fun ⟨e, q, p1, p2, q2⟩ => .inl ⟨e, k _ _ (Nat.ne_of_lt B.z) q, p1, p2, k _ _ (Nat.ne_of_lt B.O) q2⟩) fun ⟨T, f, ob, q1, q2, q3⟩ => .inr ⟨T, f, ob, k _ _ (Nat.ne_of_lt B.z) q1, k _ _ (Nat.ne_of_gt q3) q2, q3⟩
  its := k _ _ (Nat.ne_of_lt B.P) x.its
  one := x.one.at fun o e => k _ _ (Nat.ne_of_lt B.i) e
  two := x.two.at fun o e => k _ _ (Nat.ne_of_lt B.j) e
  ta := x.ta.at fun o e => k _ _ (Nat.ne_of_lt B.a) e
  tb := x.tb.at fun o e => k _ _ (Nat.ne_of_lt B.b) e
theorem ZG.keep {S : Addr} {h h' : Heap} {ts : List Addr} (g : ZG us vs S h ts) (k : ∀ c o, S < c → h.get? c = some o → h'.get? c = some o) : ZG us vs S h' ts :=
  ⟨g.rise, g.above, fun n t e => by
    obtain ⟨u, v, q1, q2, q3⟩ := g.pair n t e
    exact ⟨u, v, q1, q2, k _ _ (g.above t (List.mem_of_getElem? e)) q3⟩⟩
theorem ZG.more {S : Addr} {h : Heap} {ts : List Addr} {t : Addr} (g : ZG us vs S h ts) (lt : ∀ x ∈ ts, x < t) (hS : S < t) (eu : us[ts.length]? = some u) (ev : vs[ts.length]? = some v) (np : IsPair h t u v) : ZG us vs S h (ts ++ [t]) := by
  refine ⟨List.pairwise_append.mpr ⟨g.rise, List.pairwise_singleton _ _, fun x hx y hy => ?_⟩, fun x hx => ?_, fun n x e => ?_⟩
  · rw [List.mem_singleton.mp hy]
    exact lt x hx
  · rcases List.mem_append.mp hx with hx | hx
    · exact g.above x hx
    · rw [List.mem_singleton.mp hx]
      exact hS
  · rcases Nat.lt_trichotomy n ts.length with q | q | q
    · rw [List.getElem?_append_left q] at e
      exact g.pair n x e
    · subst q
      have e2 : t = x := by simpa using e
      subst e2
      exact ⟨u, v, eu, ev, np⟩
    · rw [List.getElem?_eq_none (by rw [List.length_append, List.length_singleton]; omega)] at e
      cases e
end
section
variable {X : Cx}
def zipD (ds es : List PyData) : List PyData := List.zipWith (fun d e => .tuple [d, e]) ds es
def sLstZip (sr : SN) : SN := fun S => (sr S).bind fun ds S1 => match ds with
  | [.tuple xs, .tuple ys] => if xs.length = ys.length then .ok (zipD xs ys) S1 else .no
  | _ => .no
end
@[simp] theorem r_sLstZip {sr : SN} {S : En} : sLstZip sr S = ((sr S).bnd fun ds S1 => match ds with
  | [.tuple xs, .tuple ys] => if xs.length = ys.length then .ok (zipD xs ys) S1 else .no
  | _ => .no) := rfl
end Ds
end
section
set_option Elab.async false
set_option linter.all false
set_option maxRecDepth 100000
set_option maxHeartbeats 4000000
namespace Ds
open PySem PySem.Spec PyProof.Rows L2
section
variable {X : Cx} {W : WX} {C : Cn} {a e : Expr} {apos cpos : Pos} {td ty : TE} {i : Nat} {sk : SE}
def sDGetN (i : Nat) (sk : SE) : SE := fun S => if (dct? S[i]?).isSome = true then (sk S).bind fun k S1 => match k with
  | .none => if (dct? S1[i]?).isSome = true then .ok .none S1 else .no
  | k => R.opt ((dct? S1[i]?).bind fun kvs => (toK k).bind fun κ => dGet kvs κ) S1
  else .no
end
@[simp] theorem r_sDGetN {i : Nat} {sk : SE} {S : En} : sDGetN i sk S = (if (dct? S[i]?).isSome = true then (sk S).bnd fun k S1 => match k with
  | .none => if (dct? S1[i]?).isSome = true then .ok .none S1 else .no
  | k => R.opt ((dct? S1[i]?).bind fun kvs => (toK k).bind fun κ => dGet kvs κ) S1
  else .no) := rfl
end Ds
end
section
set_option Elab.async false
set_option linter.all false
set_option maxRecDepth 100000
set_option maxHeartbeats 4000000
namespace Ds
open PySem PySem.Spec PyProof.Rows L2
section
variable {K : PySem.W.Frag}
def gLenS : List PyData → Option PyData
  | [.dict [(.bool true, .list ds)]] => some (.int ds.length)
  | ds => gLen ds
theorem cd_lenS : CallD K (rLenD K) gLenS := fun av H xs ds z Q tr r g q => by
  cases r with
  | nil => cases g
  | cons h t =>
    cases t with
    | nil =>
      cases h with
      | @scr a ns h1 =>
        change some (PyData.int (((ns.map PyData.int).length : Nat) : Int)) = some z at g
        cases g
        refine ⟨_, _, rfl, .inl ⟨_, h1.sq, rfl⟩, ?_⟩
        rw [List.length_map]
        have q' := q (.int ((ns.map PyData.int).length : Nat)) H (Same.refl H) (.int _)
        rw [List.length_map] at q'
        exact q'
      | non => exact cd_len av H _ _ z Q tr (.cons .non .nil) g q
      | bl b => exact cd_len av H _ _ z Q tr (.cons (.bl b) .nil) g q
      | int i => exact cd_len av H _ _ z Q tr (.cons (.int i) .nil) g q
      | str x => exact cd_len av H _ _ z Q tr (.cons (.str x) .nil) g q
      | lst a b => exact cd_len av H _ _ z Q tr (.cons (.lst a b) .nil) g q
      | tup a b => exact cd_len av H _ _ z Q tr (.cons (.tup a b) .nil) g q
      | dic a b => cases g
      | exc a b => cases g
      | exf a b c => cases g
      | dct _ _ _ _ _ _ => cases g
    | cons h2 t2 =>
      have : gLenS = gLenS := rfl
      cases h <;> cases g
def gIxS : PyData → PyData → Option PyData
  | .dict [(.bool true, .list ds)], .int i => atI ds i
  | a, b => gIx a b
theorem od_ixS : OpD K (rIx K) gIxS := fun av H x y d e z Q tr rx ry g q => by
  cases rx with
  | @scr a ns h1 =>
    cases ry with
    | int i =>
      obtain ⟨v, e1, e2⟩ := (RDs.mkInts (K := K) (av := av) (H := H) ns).atI (i := i) g
      exact .inl ⟨a, _, i, v, rfl, rfl, h1.sq, e1, q v H (Same.refl H) e2⟩
    | _ => cases g
  | non => exact od_ix av H _ _ _ _ z Q tr .non ry g q
  | bl b => exact od_ix av H _ _ _ _ z Q tr (.bl b) ry g q
  | int i => exact od_ix av H _ _ _ _ z Q tr (.int i) ry g q
  | str x => exact od_ix av H _ _ _ _ z Q tr (.str x) ry g q
  | lst a b => exact od_ix av H _ _ _ _ z Q tr (.lst a b) ry g q
  | tup a b => exact od_ix av H _ _ _ _ z Q tr (.tup a b) ry g q
  | dic a b => cases ry <;> cases g
  | exc a b => cases ry <;> cases g
  | exf a b c => cases ry <;> cases g
  | dct _ _ _ _ _ _ => cases ry <;> cases g
end
@[simp] theorem g_lenScr {ds : List PyData} : gLenS [.dict [(.bool true, .list ds)]] = some (.int ds.length) := rfl
@[simp] theorem g_ixScr {ds : List PyData} {i : Int} : gIxS (.dict [(.bool true, .list ds)]) (.int i) = atI ds i := rfl
end Ds
end
section
set_option Elab.async false
set_option linter.all false
set_option maxRecDepth 100000
set_option maxHeartbeats 4000000
namespace Ds
open PySem PySem.Spec PyProof.Rows L2
section
variable {X : Cx} {W : WX} {C : Cn} {sa sb : SE} {a b : Expr} {pos : Pos}
def sTct (sa sb : SE) : SE := fun S => (sa S).bind fun d S1 => match d with
  | .tuple ds => (sb S1).bind fun e S2 => R.opt (gCnt ds e) S2
  | _ => .no
@[simp] theorem r_sTct {S : En} : sTct sa sb S = ((sa S).bnd fun d S1 => match d with
  | .tuple ds => (sb S1).bnd fun e S2 => R.opt (gCnt ds e) S2
  | _ => .no) := rfl
end
end Ds
end
section
set_option Elab.async false
set_option linter.all false
set_option maxRecDepth 100000
set_option maxHeartbeats 4000000
namespace Ds
open PySem PySem.Spec PyProof.Rows L2
section
variable {X : Cx} {W : WX} {C : Cn} {sa sb : SN} {ta : STt} {a b c : Expr} {pos : Pos}
def sIfN (t : STt) (sa sb : SN) : SN := fun S => (t S).bind fun c S1 => if c = true then sa S1 else sb S1
@[simp] theorem r_sIfN {S : En} : sIfN ta sa sb S = ((ta S).bnd fun c S1 => if c = true then sa S1 else sb S1) := rfl
end
end Ds
end
section
set_option Elab.async false
set_option linter.all false
set_option maxRecDepth 100000
set_option maxHeartbeats 4000000
namespace Ds
open PySem PySem.Spec PyProof.Rows L2
def lexS : List Str → List Str → Bool
  | [], ys => !ys.isEmpty
  | _ :: _, [] => false
  | x :: xs, y :: ys => if x = y then lexS xs ys else !leS y x
def leQ (a b : List Str) : Bool := !lexS b a
def srtQ (ps : List (List Str)) : List (List Str) := ps.mergeSort leQ
end Ds
end
section
set_option Elab.async false
set_option linter.all false
set_option maxRecDepth 100000
set_option maxHeartbeats 4000000
namespace Ds
open PySem PySem.Spec PyProof.Rows L2
abbrev mkQ (p : List Str) : PyData := .tuple (p.map .str)
def prsQ : List PyData → Option (List (List Str))
  | [] => some []
  | .tuple es :: ds => match strsOf es with
    | some p => (prsQ ds).map (p :: ·)
    | none => none
  | _ => none
section
variable {X : Cx} {W : WX} {C : Cn} {a : Expr} {sr : SN} {pos : Pos}
def srtOfQ : List PyData → Option (List PyData)
  | [.list es] => match prsQ es with
    | some ps => if ps.all (fun p => !p.isEmpty) then some ((srtQ ps).map mkQ) else none
    | none => none
  | _ => none
def sSrtQ (sr : SN) : SN := fun S => (sr S).bind fun ds S1 => R.opt (srtOfQ ds) S1
end
@[simp] theorem r_sSrtQ {sr : SN} {S : En} : sSrtQ sr S = ((sr S).bnd fun ds S1 => R.opt (srtOfQ ds) S1) := rfl
end Ds
end
section
set_option Elab.async false
set_option linter.all false
set_option maxRecDepth 100000
set_option maxHeartbeats 4000000
namespace Ds
open PySem PySem.Spec PyProof.Rows L2
section
variable {X : Cx} {W : WX} {C : Cn} {e e2 : Expr} {pos : Pos}
/-- zip, as data -/
def zipM (ds es : List PyData) : List PyData := ds.zipWith (fun d e => .tuple [d, e]) es
def asZL : List PyData → Option (List PyData)
  | [.list ds, .list es] => some (zipM ds es)
  | _ => none
def sIZL (sr : SN) : SN := fun S => (sr S).bind fun ds S1 => R.opt (asZL ds) S1
end
@[simp] theorem r_sIZL {sr : SN} {S : En} : sIZL sr S = ((sr S).bnd fun ds S1 => R.opt (asZL ds) S1) := rfl
end Ds
end
section
set_option Elab.async false
set_option linter.all false
set_option maxRecDepth 100000
set_option maxHeartbeats 4000000
namespace Ds
open PySem PySem.Spec PyProof.Rows L2
section
variable {X : Cx} {W : WX} {C : Cn} {a : Expr} {sl : SN} {pos : Pos}
def sListL (sl : SN) : SN := fun S => (sl S).bind fun ds S1 => .ok ds S1
end
@[simp] theorem r_sListL {sl : SN} {S : En} : sListL sl S = ((sl S).bnd fun ds S1 => .ok ds S1) := rfl
end Ds
end
section
set_option Elab.async false
set_option linter.all false
set_option maxRecDepth 100000
set_option maxHeartbeats 4000000
namespace Ds
open PySem PySem.Spec PyProof.Rows L2
def rTupSt : List V → Hp → VK → Prop := fun xs H Q => ∃ x : Str, xs = [.str x] ∧ x.cps.size ≤ sizeLine ∧ NT H (x.cps.toList.map fun c => V.str ⟨#[c]⟩) Q
theorem call_tupSt {X : Cx} (hc : X.calm = true) : CallR X (.type "tuple") rTupSt := by
  intro pins s σ H xs us Q I r h
  obtain ⟨x, rfl, hz, q⟩ := h
  obtain ⟨u, rfl, t, rfl⟩ := vals1 r
  refine call_tuple_str (I.ok.hd hc) x t (fun h' tk acc kp hi => ?_) hz
  have := q.run (tk := tk) (s := { s with heap := h' }) (I.kept (t' := s.toks) kp) (vals_signs hi) (by rw [List.length_map, Array.length_toList]; exact hz)
  rw [Array.toArray_toList] at this
  exact this
def gTupSt : List PyData → Option PyData
  | [.str x] => if x.cps.size ≤ sizeLine then some (.tuple (signs x)) else none
  | _ => none
theorem cd_tupSt {K : PySem.W.Frag} : CallD K rTupSt gTupSt := fun av H xs ds z Q tr r g q => by
  match ds, r, g with
  | [.str x], .cons (.str _) .nil, g =>
    by_cases h : x.cps.size ≤ sizeLine
    · have e : PyData.tuple (signs x) = z := by simpa only [gTupSt, if_pos h, Option.some.injEq] using g
      subst e
      exact ⟨x, rfl, h, fun l o nl d c => q _ _ (same_new nl) (rd_newT tr (rds_signs _) nl d c)⟩
    · simp only [gTupSt, if_neg h, reduceCtorEq] at g
end Ds
end
section
set_option linter.all false
set_option Elab.async false
set_option maxRecDepth 100000
open PySem PySem.Spec PyProof.Rows L2
namespace Ds
def c__law_potP : SS :=
  (sSeq (sSet 2 (sK (.int 0)))
  (sSeq (sIf (sTst (sBin gLt (sVar 1) (sCallB gLenS (sCons (sVar 0) sNil))))
    (sSet 2 (sBin gIxS (sVar 0) (sVar 1)))
    sNx)
  (sRetNew (sLst (sCons (sCallB gMax (sCons (sK (.int 0)) (sCons (sBin gSub_ (sVar 2) (sBin gPow (sK (.int 10)) (sK (.int 18)))) sNil))) (sCons (sBin gAdd (sBin gAdd (sBin gMod (sVar 2) (sBin gAdd (sBin gPow (sK (.int 10)) (sK (.int 38))) (sK (.int 133)))) (sBin gMul (sK (.int 30011)) (sVar 1))) (sK (.int 3))) (sCons (sK (.int 0)) sNil)))))))
def m__law_potP : Mf := mB 3 c__law_potP
def c__law_drawP : SS :=
  (sSeq (sIf (sTst (sBin gGt (sIxV 0 (sK (.int 0))) (sK (.int 0))))
    (sSeq (sSet 3 (sBin gMod (sIxV 0 (sK (.int 0))) (sVar 1)))
    (sSeq (sSetIx 0 (sK (.int 0)) (sBin gDiv (sIxV 0 (sK (.int 0))) (sVar 1)))
    (sRet (sVar 3))))
    sNx)
  (sSeq (sSetIx 0 (sK (.int 2)) (sBin gAdd (sIxV 0 (sK (.int 2))) (sK (.int 1))))
  (sSeq (sSet 2 (sBin gMod (sBin gPowB (sBin gAdd (sIxV 0 (sK (.int 1))) (sBin gMul (sK (.int 53471161)) (sIxV 0 (sK (.int 2))))) (sK (.int 3))) (sBin gAdd (sBin gPow (sK (.int 10)) (sK (.int 41))) (sK (.int 37)))))
  (sSeq (sSet 2 (sBin gMod (sBin gPowB (sBin gAdd (sVar 2) (sBin gMul (sK (.int 71755423)) (sIxV 0 (sK (.int 2))))) (sK (.int 3))) (sBin gAdd (sBin gPow (sK (.int 10)) (sK (.int 40))) (sK (.int 121)))))
  (sRet (sBin gMod (sBin gDiv (sVar 2) (sK (.int 524287))) (sVar 1)))))))
def m__law_drawP : Mf := mB 4 c__law_drawP
def c__law_officeP : SS :=
  (sSeq (sSet 2 (sCallB gMin (sCons (sVar 1) (sCons (sBin gAdd (sK (.int 1)) (sCallV m__law_drawP (sGr 0 (sGv (sBin gIx (sNE (sLst (sCons (sK (.int 4)) (sCons (sVar 1) sNil)))) (sCallV m__law_drawP (sGr 0 (sGv (sK (.int 2)) sG0)))) sG0)))) sNil))))
  (sSeq (sParVN 4 5 (sCallV m__law_drawP (sGr 0 (sGv (sK (.int 4)) sG0))) (sLst sNil))
  (sSeq (sFor (sRng1 (sCons (sBin gSub_ (sVar 2) (sK (.int 1))) sNil)) (gNm 3)
    (sSeq (sSet 6 (sBin gSub_ (sVar 3) (sCallB gMin (sCons (sVar 3) (sCons (sCallV m__law_drawP (sGr 0 (sGv (sK (.int 4)) sG0))) sNil)))))
    (sDrop (sAppend 5 (sBin gIx (sNE (sLst (sCons (sVar 3) (sCons (sK (.int 0)) (sCons (sCallV m__law_drawP (sGr 0 (sGv (sBin gAdd (sVar 3) (sK (.int 1))) sG0))) (sCons (sVar 6) sNil)))))) (sVar 4))))))
  (sRet (sRd lTup (sLVar 5))))))
def m__law_officeP : Mf := mB 7 c__law_officeP
def c__law_mixedP : SS :=
  (sSeq (sSetNew 2 (sListN (sCons (sVar 1) sNil)))
  (sRetNew (sLc (sRng1 (sCons (sCallB gLen (sCons (sVar 1) sNil)) sNil)) (gNm 3) sYes (sPop 2 (sCallV m__law_drawP (sGr 0 (sGv (sRd lLen (sLVar 2)) sG0)))) [3])))
def m__law_mixedP : Mf := mB 4 c__law_mixedP
def c__law_namesP : SS :=
  (sSeq (sSet 2 (sK (.str (Str.ofString "abcdefghijklmnopqrstuvwxyz"))))
  (sSeq (sSet 3 (sBin gAdd (sBin gAdd (sNE (sLc (sIS (sVar 2)) (gNm 5) sYes (sVar 5) [5])) (sNE (sLc (sIS (sVar 2)) (gNm 5) sYes (sBin gAdd (sK (.str (Str.ofString "a"))) (sVar 5)) [5]))) (sNE (sLc (sIS (sK (.str (Str.ofString "xyz")))) (gNm 4) sYes (sBin gAdd (sK (.str (Str.ofString "zzzzzzz"))) (sVar 4)) [4]))))
  (sRet (sCallB gTupT (sCons (sCut (sNE (sCallN m__law_mixedP (sGr 0 (sGv (sVar 3) sG0)))) sP0 (sP1 (sVar 1))) sNil)))))
def m__law_namesP : Mf := mB 6 c__law_namesP
end Ds
end
section
set_option Elab.async false
set_option linter.all false
set_option maxRecDepth 100000
set_option maxHeartbeats 4000000
namespace Ds
open PySem PySem.Spec PyProof.Rows L2
def lcL2 (g : GT) (t : STt) (it1 : SN) (g1 : GT) (t1 : STt) (e : SE) (vs vs1 : List Nat) : List PyData → En → R (List PyData)
  | [], S => .ok [] S
  | d :: ds, S => match g d S with
    | .nx S2 => (t S2).bind fun b S3 => if b = true then (it1 S3).bind fun es S4 => (lcL g1 t1 e vs1 es (wipeS vs1 S4)).bind fun ys S5 => (lcL2 g t it1 g1 t1 e vs vs1 ds (wipeS vs S5)).bind fun zs S6 => .ok (ys ++ zs) S6 else lcL2 g t it1 g1 t1 e vs vs1 ds (wipeS vs S3)
    | _ => .no
def sLc2 (it : SN) (g : GT) (t : STt) (it1 : SN) (g1 : GT) (t1 : STt) (e : SE) (vs vs1 : List Nat) : SN := fun S => (it S).bind fun ds S1 =>
  if (vs.all fun v => (own? S1[v]?).isNone && nn S1[v]?) = true then (noEx (lcL2 g t it1 g1 t1 e vs vs1 ds (wipeS vs S1))).bind fun ys S2 => if ys.length ≤ sizeLine then .ok ys (unwipe vs S1 S2) else .no else .no
@[simp] theorem r_sLc2 {it it1 : SN} {g g1 : GT} {t t1 : STt} {e : SE} {vs vs1 : List Nat} {S : En} : sLc2 it g t it1 g1 t1 e vs vs1 S = ((it S).bnd fun ds S1 =>
  if (vs.all fun v => (own? S1[v]?).isNone && nn S1[v]?) = true then (noEx (lcL2 g t it1 g1 t1 e vs vs1 ds (wipeS vs S1))).bnd fun ys S2 => if ys.length ≤ sizeLine then .ok ys (unwipe vs S1 S2) else .no else .no) := rfl
end Ds
end
section
set_option Elab.async false
set_option linter.all false
set_option maxRecDepth 100000
set_option maxHeartbeats 4000000
namespace Ds
open PySem PySem.Spec PyProof.Rows L2
abbrev NK := NestedKey
abbrev KsT := List (NK × Addr × V)
section
variable {X : Cx} {pins : List (Addr × Obj)} {σ : St} {H : Hp} {s : Shared}
mutual
theorem nk_is (I : Inv X pins σ H s) {av : Av} : ∀ (κ : NK) (v : V) (u : Value), RD X.K av H v (nkD κ) → RelV v u → NestedIs s.heap κ u
  | .none, _, _, h, r => by rw [nkD] at h; cases h; cases r; exact .none
  | .num i, _, _, h, r => by rw [nkD] at h; cases h; obtain ⟨t, rfl⟩ := r; exact .int i t
  | .text x, _, _, h, r => by rw [nkD] at h; cases h; obtain ⟨t, rfl⟩ := r; exact .text x t
  | .tup ks, _, _, h, r => by
    rw [nkD] at h
    cases h with
    | tup h1 h2 =>
      cases r
      obtain ⟨its, rv, ⟨o, e, c1, n, c3⟩, _⟩ := I.tuple h1.sq
      exact .tup e c1 c3 (by simpa using nks_is I ks _ its h2 rv)
theorem nks_is (I : Inv X pins σ H s) {av : Av} : ∀ (ks : List NK) (vs : List V) (us : List Value), RDs X.K av H vs (nkDs ks) → Vals vs us → NestedAll s.heap ks us
  | [], _, _, h, r => by rw [nkDs] at h; cases h; cases r; exact .nil
  | k :: ks, _, _, h, r => by
    rw [nkDs] at h
    cases h with
    | cons h1 h2 =>
      cases r with
      | cons r1 r2 => exact .cons (nk_is I k _ _ h1 r1) (nks_is I ks _ _ h2 r2)
end
theorem nk_key (I : Inv X pins σ H s) {av : Av} {κ : NK} {b : Addr} (h : RD X.K av H (.ref b) (nkD κ)) (hd : κ.depth ≤ 8) : (nestedKind X.prog X.w).is s.heap κ b := ⟨nk_is I κ _ _ h rfl, hd⟩
def RelK (p : NK × Addr × V) (q : NK × Addr × Value) : Prop := p.1 = q.1 ∧ p.2.1 = q.2.1 ∧ RelV p.2.2 q.2.2
theorem dt_all (I : Inv X pins σ H s) {av : Av} : ∀ {ks : KsT} {xs : List (NK × Addr × Value)} {kvs : List (NK × PyData)}, Paired RelK ks xs → RDs X.K av H (ks.map fun p => .ref p.2.1) (kvs.map fun p => nkD p.1) → ks.map (·.1) = kvs.map (·.1) → (∀ p ∈ ks, ∃ l, p.1 = .tup l ∧ p.1.depth ≤ 8) → ∀ x ∈ xs, (nestedKind X.prog X.w).is s.heap x.1 x.2.1
  | _, _, _, .nil, _, _, _, x, hx => nomatch hx
  | _, _, [], .cons _ _, _, e, _, x, hx => by cases e
  | p :: ks, q :: xs, kv :: kvs, .cons h t, r, e, d, x, hx => by
    rw [List.map_cons, List.map_cons] at r
    rw [List.map_cons, List.map_cons] at e
    injection e with e1 e2
    cases r with
    | cons r1 r2 =>
      rcases List.mem_cons.mp hx with z | z
      · subst z
        obtain ⟨l, _, hd⟩ := d p List.mem_cons_self
        rw [← e1] at r1
        rw [← h.1, ← h.2.1]
        exact nk_key I r1 hd
      · exact dt_all I t r2 e2 (fun p hp => d p (List.mem_cons_of_mem _ hp)) x z
/-- what the heap's object is -/
theorem dt_at (I : Inv X pins σ H s) {av : Av} {a : Addr} {ks : KsT} {kvs : List (NK × PyData)} (e : H a = some (dtO X.w a ks)) (r : DtR X.K av H ks kvs) :
    (a == sysModules) = false ∧ ks.length ≤ sizeLine ∧ ∃ xs, Paired RelK ks xs ∧ s.heap.DictOfH (nestedKind X.prog X.w) a xs := by
  have h : ObjOk X.prog X.w H s.heap a (dtO X.w a ks) := I.hok a _ e
  obtain ⟨⟨h1, h2, xs, o, es, ep, h3, h4, h5, h6, h7, h8⟩, _⟩ := h
  exact ⟨h1, h2, xs, h3, o, es, ep, h4, h5, h6, h7 X.prog, dt_all I h3 r.tup r.key r.isT, h8⟩
theorem dt_new {P : Program} {w : World} {H' : Hp} {h' : Heap} {a : Addr} {ks : KsT} {xs : List (NK × Addr × Value)} (z : ks.length ≤ sizeLine) (hd : (a == sysModules) = false) (rel : Paired RelK ks xs) (dd : h'.DictOfH (nestedKind P w) a xs) : ObjOk P w H' h' a (dtO w a ks) := by
  obtain ⟨o, es, ep, h4, h5, h6, h7, _, h8⟩ := dd
  exact ⟨⟨hd, z, xs, o, es, ep, rel, h4, h5, h6, fun prog => h7, h8⟩, ⟨o, h4⟩, fun h1 h2 ⟨g1, g2, ys, o2, es2, ep2, g3, g4, g5, g6, g7, g8⟩ k => ⟨g1, g2, ys, o2, es2, ep2, g3, k _ g4, g5, g6, g7, g8⟩⟩
def valT {β : Type} (kvs : List (NK × β)) (k : NK) : Option β := (kvs.find? fun kv => decide (kv.1 = k)).map (·.2)
def dGetT (kvs : List (NK × PyData)) (k : NK) : Option PyData := valT kvs k
def dPutT (kvs : List (NK × PyData)) (k : NK) (v : PyData) : List (NK × PyData) :=
  if (valT kvs k).isSome = true then kvs.map (fun kv => if kv.1 = k then (kv.1, v) else kv) else kvs ++ [(k, v)]
def kPutT (ks : KsT) (k : NK) (b : Addr) (v : V) : KsT :=
  if (valT ks k).isSome = true then ks.map (fun kv => if kv.1 = k then (kv.1, kv.2.1, v) else kv) else ks ++ [(k, b, v)]
theorem valT_cons {β : Type} {j k : NK} {v : β} {kvs : List (NK × β)} : valT ((j, v) :: kvs) k = if j = k then some v else valT kvs k := by
  unfold valT
  by_cases h : j = k
  · rw [List.find?_cons_of_pos (by simp [h]), if_pos h]; rfl
  · rw [List.find?_cons_of_neg (by simp [h]), if_neg h]
theorem atKey_eq (xs : List (NK × Addr × Value)) (k : NK) : atKey xs k = valT xs k := rfl
theorem rel_some {k : NK} : ∀ {ks : KsT} {xs : List (NK × Addr × Value)}, Paired RelK ks xs → (valT ks k).isSome = (valT xs k).isSome
  | _, _, .nil => rfl
  | (j, b, v) :: ks, (j2, b2, v2) :: xs, .cons h t => by
    obtain ⟨h1, h2, h3⟩ := h
    simp only at h1 h2
    subst h1
    rw [valT_cons, valT_cons]
    by_cases e : j = k
    · rw [if_pos e, if_pos e]; rfl
    · rw [if_neg e, if_neg e]; exact rel_some t
theorem rel_get {k : NK} {p : Addr × V} : ∀ {ks : KsT} {xs : List (NK × Addr × Value)}, Paired RelK ks xs → valT ks k = some p → ∃ q, valT xs k = some q ∧ p.1 = q.1 ∧ RelV p.2 q.2
  | _, _, .nil, e => by cases e
  | (j, b, v) :: ks, (j2, b2, v2) :: xs, .cons h t, e => by
    obtain ⟨h1, h2, h3⟩ := h
    simp only at h1 h2
    subst h1
    rw [valT_cons] at e ⊢
    by_cases z : j = k
    · rw [if_pos z] at e ⊢
      cases e
      exact ⟨_, rfl, h2, h3⟩
    · rw [if_neg z] at e ⊢
      exact rel_get t e
theorem rel_repl {k : NK} {v : V} {u : Value} (r : RelV v u) : ∀ {ks : KsT} {xs : List (NK × Addr × Value)}, Paired RelK ks xs → Paired RelK (ks.map fun kv => if kv.1 = k then (kv.1, kv.2.1, v) else kv) (xs.map (putAt k u))
  | _, _, .nil => .nil
  | (j, b, x) :: ks, (j2, b2, y) :: xs, .cons h t => by
    obtain ⟨h1, h2, h3⟩ := h
    simp only at h1 h2
    subst h1
    rw [List.map_cons, List.map_cons]
    refine .cons ?_ (rel_repl r t)
    unfold putAt
    by_cases z : j = k
    · rw [if_pos z, if_pos z]; exact ⟨rfl, h2, r⟩
    · rw [if_neg z, if_neg z]; exact ⟨rfl, h2, h3⟩
theorem rel_snoc {p : NK × Addr × V} {q : NK × Addr × Value} (r : RelK p q) : ∀ {ks : KsT} {xs : List (NK × Addr × Value)}, Paired RelK ks xs → Paired RelK (ks ++ [p]) (xs ++ [q])
  | _, _, .nil => .cons r .nil
  | _, _, .cons h t => .cons h (rel_snoc r t)
theorem rel_put {ks : KsT} {xs : List (NK × Addr × Value)} (h : Paired RelK ks xs) (k : NK) (b : Addr) {v : V} {u : Value} (r : RelV v u) : Paired RelK (kPutT ks k b v) (storedH xs k b u) := by
  unfold kPutT storedH
  rw [atKey_eq, rel_some h]
  by_cases e : (valT xs k).isSome = true
  · rw [if_pos e, if_pos e]; exact rel_repl r h
  · rw [if_neg e, if_neg e]; exact rel_snoc ⟨rfl, rfl, r⟩ h
theorem len_put (ks : KsT) (k : NK) (b : Addr) (v : V) : (kPutT ks k b v).length ≤ ks.length + 1 := by
  unfold kPutT
  split
  · rw [List.length_map]; omega
  · rw [List.length_append]; simp
section
variable {K : PySem.W.Frag} {av : Av} {Hh : Hp}
theorem DtR.len {ks : KsT} {kvs : List (NK × PyData)} (h : DtR K av Hh ks kvs) : ks.length = kvs.length := by
  have := congrArg List.length h.key
  rw [List.length_map, List.length_map] at this
  exact this
theorem DtR.nil : DtR K av Hh [] [] := ⟨rfl, .nil, (fun p hp => by cases hp), .nil⟩
theorem DtR.tail {p : NK × Addr × V} {kv : NK × PyData} {ks : KsT} {kvs : List (NK × PyData)} (h : DtR K av Hh (p :: ks) (kv :: kvs)) : p.1 = kv.1 ∧ RD K av Hh (.ref p.2.1) (nkD kv.1) ∧ (∃ l, p.1 = .tup l ∧ p.1.depth ≤ 8) ∧ RD K av Hh p.2.2 kv.2 ∧ DtR K av Hh ks kvs := by
  have e := h.key
  have t := h.tup
  have v := h.val
  rw [List.map_cons, List.map_cons] at e t v
  injection e with e1 e2
  cases t with
  | cons t1 t2 =>
    cases v with
    | cons v1 v2 => exact ⟨e1, t1, h.isT p List.mem_cons_self, v1, e2, t2, fun q hq => h.isT q (List.mem_cons_of_mem _ hq), v2⟩
theorem DtR.cons {p : NK × Addr × V} {kv : NK × PyData} {ks : KsT} {kvs : List (NK × PyData)} (h1 : p.1 = kv.1) (h2 : RD K av Hh (.ref p.2.1) (nkD kv.1)) (h3 : ∃ l, p.1 = .tup l ∧ p.1.depth ≤ 8) (h4 : RD K av Hh p.2.2 kv.2) (h : DtR K av Hh ks kvs) : DtR K av Hh (p :: ks) (kv :: kvs) :=
  ⟨by rw [List.map_cons, List.map_cons, h1, h.key], .cons h2 h.tup, fun q hq => (List.mem_cons.mp hq).elim (fun z => z ▸ h3) (h.isT q), .cons h4 h.val⟩
theorem DtR.some {k : NK} : ∀ {ks : KsT} {kvs : List (NK × PyData)}, DtR K av Hh ks kvs → (valT ks k).isSome = (valT kvs k).isSome
  | [], [], _ => rfl
  | [], _ :: _, h => by have := h.len; cases this
  | _ :: _, [], h => by have := h.len; cases this
  | (j, b, v) :: ks, (j2, d) :: kvs, h => by
    obtain ⟨e, _, _, _, t⟩ := h.tail
    simp only at e
    subst e
    rw [valT_cons, valT_cons]
    by_cases z : j = k
    · rw [if_pos z, if_pos z]; rfl
    · rw [if_neg z, if_neg z]; exact DtR.some t
theorem DtR.get {k : NK} {p : Addr × V} : ∀ {ks : KsT} {kvs : List (NK × PyData)}, DtR K av Hh ks kvs → valT ks k = Option.some p → ∃ d, dGetT kvs k = Option.some d ∧ RD K av Hh p.2 d
  | [], _, _, e => by cases e
  | _ :: _, [], h, _ => by have := h.len; cases this
  | (j, b, v) :: ks, (j2, d) :: kvs, h, e => by
    obtain ⟨e1, _, _, r, t⟩ := h.tail
    simp only at e1
    subst e1
    unfold dGetT
    rw [valT_cons] at e ⊢
    by_cases z : j = k
    · rw [if_pos z] at e ⊢
      cases e
      exact ⟨d, rfl, r⟩
    · rw [if_neg z] at e ⊢
      exact DtR.get t e
theorem DtR.repl {k : NK} {v : V} {d : PyData} (r : RD K av Hh v d) : ∀ {ks : KsT} {kvs : List (NK × PyData)}, DtR K av Hh ks kvs → DtR K av Hh (ks.map fun kv => if kv.1 = k then (kv.1, kv.2.1, v) else kv) (kvs.map fun kv => if kv.1 = k then (kv.1, d) else kv)
  | [], [], h => h
  | [], _ :: _, h => by have := h.len; cases this
  | _ :: _, [], h => by have := h.len; cases this
  | (j, b, x) :: ks, (j2, y) :: kvs, h => by
    obtain ⟨e, t1, t2, t3, t⟩ := h.tail
    simp only at e
    subst e
    rw [List.map_cons, List.map_cons]
    by_cases z : j = k
    · rw [if_pos z, if_pos z]; exact .cons rfl t1 t2 r (DtR.repl r t)
    · rw [if_neg z, if_neg z]; exact .cons rfl t1 t2 t3 (DtR.repl r t)
theorem DtR.snoc {p : NK × Addr × V} {kv : NK × PyData} (h1 : p.1 = kv.1) (h2 : RD K av Hh (.ref p.2.1) (nkD kv.1)) (h3 : ∃ l, p.1 = .tup l ∧ p.1.depth ≤ 8) (h4 : RD K av Hh p.2.2 kv.2) : ∀ {ks : KsT} {kvs : List (NK × PyData)}, DtR K av Hh ks kvs → DtR K av Hh (ks ++ [p]) (kvs ++ [kv])
  | [], [], _ => .cons h1 h2 h3 h4 .nil
  | [], _ :: _, h => by have := h.len; cases this
  | _ :: _, [], h => by have := h.len; cases this
  | _ :: _, _ :: _, h => by
    obtain ⟨g1, g2, g3, g4, t⟩ := h.tail
    exact .cons g1 g2 g3 g4 (DtR.snoc h1 h2 h3 h4 t)
theorem DtR.put {k : NK} {b : Addr} {v : V} {d : PyData} {ks : KsT} {kvs : List (NK × PyData)} (h : DtR K av Hh ks kvs) (rb : RD K av Hh (.ref b) (nkD k)) (hk : ∃ l, k = .tup l ∧ k.depth ≤ 8) (r : RD K av Hh v d) : DtR K av Hh (kPutT ks k b v) (dPutT kvs k d) := by
  unfold kPutT dPutT
  rw [h.some]
  by_cases e : (valT kvs k).isSome = true
  · rw [if_pos e, if_pos e]; exact h.repl r
  · rw [if_neg e, if_neg e]; exact h.snoc (kv := (k, d)) rfl rb hk r
end
mutual
def toN : PyData → Option NK
  | .none => some .none
  | .int i => some (.num i)
  | .str x => some (.text x)
  | .tuple ds => (toNs ds).map .tup
  | _ => none
def toNs : List PyData → Option (List NK)
  | [] => some []
  | d :: ds => match toN d, toNs ds with
    | some k, some ks => some (k :: ks)
    | _, _ => none
end
mutual
theorem toN_eq : ∀ {d : PyData} {k : NK}, toN d = some k → d = nkD k
  | .none, _, h => by rw [toN] at h; cases h; rfl
  | .int i, _, h => by rw [toN] at h; cases h; rfl
  | .str x, _, h => by rw [toN] at h; cases h; rfl
  | .tuple ds, k, h => by
    rw [toN] at h
    cases e : toNs ds with
    | none => rw [e] at h; cases h
    | some ks =>
      rw [e] at h
      cases h
      rw [nkD, toNs_eq e]
  | .bool b, _, h => by rw [toN] at h <;> first | cases h | (intro _ q; cases q) | (intro q; cases q)
  | .list ds, _, h => by rw [toN] at h <;> first | cases h | (intro _ q; cases q) | (intro q; cases q)
  | .dict kvs, _, h => by rw [toN] at h <;> first | cases h | (intro _ q; cases q) | (intro q; cases q)
theorem toNs_eq : ∀ {ds : List PyData} {ks : List NK}, toNs ds = some ks → ds = nkDs ks
  | [], _, h => by rw [toNs] at h; cases h; rfl
  | d :: ds, ks, h => by
    rw [toNs] at h
    cases e1 : toN d with
    | none => rw [e1] at h; cases h
    | some k =>
      cases e2 : toNs ds with
      | none => rw [e1, e2] at h; cases h
      | some l =>
        rw [e1, e2] at h
        cases h
        rw [nkDs, toN_eq e1, toNs_eq e2]
end
/-- a tuple that may be a key -/
def toT (d : PyData) : Option NK := match toN d with
  | some (.tup l) => if (NestedKey.tup l).depth ≤ 8 then some (.tup l) else none
  | _ => none
theorem toT_some {d : PyData} {k : NK} (h : toT d = some k) : d = nkD k ∧ ∃ l, k = .tup l ∧ k.depth ≤ 8 := by
  unfold toT at h
  split at h
  · rename_i l e
    by_cases z : (NestedKey.tup l).depth ≤ 8
    · rw [if_pos z] at h
      cases h
      exact ⟨toN_eq e, l, rfl, z⟩
    · rw [if_neg z] at h; cases h
  · cases h
end
end Ds
end
section
set_option Elab.async false
set_option linter.all false
set_option maxRecDepth 100000
set_option maxHeartbeats 4000000
namespace Ds
open PySem PySem.Spec PyProof.Rows L2
section
variable {K : PySem.W.Frag} {C : Cn} {ow : Ow} {S : En} {σ : St} {H : Hp}
/-- the dict becomes another -/
theorem Rl.upDt (r : Rl K C ow S σ H) {i : Nat} {kvs kvs' : List (NK × PyData)} {ks : KsT} {a : Addr} (h : S[i]? = some (.nst (.dt kvs))) (ha : ow i = some a) (rd : DtR K (av C ow) H ks kvs') :
    Rl K C ow (S.set i (.nst (.dt kvs'))) σ (upd H a (dtO C.w a ks)) ∧ Ext (av C ow) H (upd H a (dtO C.w a ks)) := by
  have hl : i < S.length := (List.getElem?_eq_some_iff.mp h).1
  have i4 := r.lt4 h
  have gs : ∀ j, j ≠ i → (S.set i (.nst (.dt kvs')))[j]? = S[j]? := fun j e => List.getElem?_set_ne (Ne.symm e)
  have gi : (S.set i (.nst (.dt kvs')))[i]? = some (.nst (.dt kvs')) := List.getElem?_set_self hl
  have x : Ext (av C ow) H (upd H a (dtO C.w a ks)) := fun b o n e => by
    rw [upd_ne (show b ≠ a from fun z => n (by rw [z]; exact .inr ⟨_, ha⟩))]
    exact e
  have key : ∀ j, own? (S.set i (.nst (.dt kvs')))[j]? = own? S[j]? := fun j => by
    by_cases hj : j = i
    · subst hj; rw [gi, h]; rfl
    · rw [gs j hj]
  have na : ∀ j, NstAt (S.set i (.nst (.dt kvs'))) j ↔ NstAt S j := fun j => by
    constructor
    · rintro (⟨d, q⟩ | ⟨m, n, d, q1, q2, q3⟩)
      · by_cases hj : j = i
        · subst hj; exact .inl ⟨_, h⟩
        · rw [gs j hj] at q; exact .inl ⟨d, q⟩
      · by_cases hj : m = i
        · subst hj; rw [gi] at q2; cases q2
        · rw [gs m hj] at q2; exact .inr ⟨m, n, d, q1, q2, q3⟩
    · rintro (⟨d, q⟩ | ⟨m, n, d, q1, q2, q3⟩)
      · by_cases hj : j = i
        · subst hj; exact .inl ⟨_, gi⟩
        · exact .inl ⟨d, by rw [gs j hj]; exact q⟩
      · by_cases hj : m = i
        · subst hj; rw [h] at q2; cases q2
        · exact .inr ⟨m, n, d, q1, by rw [gs m hj]; exact q2, q3⟩
  have nb : ∀ j b, j ≠ i → ow j = some b → b ≠ a := fun j b n e z => n (r.inj j _ b e (by rw [z]; exact ha))
  refine ⟨⟨by rw [List.length_set]; exact r.len, fun j d e => ?_, fun j ds e => ?_, fun j b e => ?_, r.inj, fun j ds b h1 h2 => ?_, fun j ds e => ?_, fun j b e => ?_, fun b z => ?_, fun b o h1 h2 => ?_, ⟨by rw [List.length_set]; exact r.ns.big, fun j d e => ?_, fun j d e => ?_, fun j d e => ?_, fun j b h1 h2 => r.ns.frn j b ((na j).mp h1) h2⟩⟩, x⟩
  · by_cases hj : j = i
    · subst hj; rw [gi] at e; cases e
    · rw [gs j hj] at e
      obtain ⟨v, h1, h2⟩ := r.val j d e
      exact ⟨v, h1, RD.mono x (Grow.refl _ _) d v h2⟩
  · rw [key j] at e
    obtain ⟨b, ws, h1, h2, h3, h4⟩ := r.own j ds e
    refine ⟨b, ws, h1, h2, ?_, RDs.mono x (Grow.refl _ _) ds ws h4⟩
    rw [upd_ne (nb j b (fun z => ?_) h1)]
    · exact h3
    · rw [z, h] at e; cases e
  · rw [key j]; exact (r.ows j b e).imp id (na j).mpr
  · by_cases hj : j = i
    · subst hj; rw [gi] at h1; cases h1
    · rw [gs j hj] at h1
      exact r.frs j ds b h1 h2
  · by_cases hj : j = i
    · subst hj; rw [gi] at e; cases e
    · rw [gs j hj] at e
      exact r.ios j ds e
  · obtain ⟨h1, ds, h2⟩ := r.iok j b e
    exact ⟨h1, ds, by rw [gs j fun z => by rw [z, h] at h2; cases h2]; exact h2⟩
  · by_cases e : b = a
    · rw [e]; exact ⟨_, upd_same⟩
    · rw [upd_ne e]; exact r.trk b z
  · have e := r.ext b o h1 h2
    rw [upd_ne (show b ≠ a from fun z => by
      have := (r.ns.frn i a (.inl ⟨_, h⟩) ha).1
      rw [z, this] at h1; cases h1)]
    exact e
  · by_cases hj : j = i
    · subst hj; rw [gi] at e; cases e
    · rw [gs j hj] at e
      obtain ⟨b, bs, h1, h2, h3, h4, h5⟩ := r.ns.nst j d e
      have j4 := r.lt4 e
      refine ⟨b, bs, h1, h2, ?_, h4, fun m c ds q1 q2 => ?_⟩
      · rw [upd_ne (nb j b hj h1)]; exact h3
      · obtain ⟨g1, ws, g2, g3⟩ := h5 m c ds q1 q2
        refine ⟨g1, ws, ?_, RDs.mono x (Grow.refl _ _) ds ws g3⟩
        rw [upd_ne (nb (nx j m) c (fun z => by unfold nx at z; omega) g1)]
        exact g2
  · by_cases hj : j = i
    · subst hj; rw [gi] at e; cases e
    · rw [gs j hj] at e
      obtain ⟨b, us, h1, h2, h3, h4⟩ := r.ns.dct j d e
      exact ⟨b, us, h1, h2, by rw [upd_ne (nb j b hj h1)]; exact h3, h4.key, RDs.mono x (Grow.refl _ _) _ _ h4.val⟩
  · by_cases hj : j = i
    · subst hj
      rw [gi] at e
      cases e
      obtain ⟨b, us, h1, h2, h3, h4⟩ := r.ns.dtt j kvs h
      rw [ha] at h1
      cases h1
      exact ⟨a, ks, ha, h2, upd_same, rd.mono fun ws ds q => RDs.mono x (Grow.refl _ _) ds ws q⟩
    · rw [gs j hj] at e
      obtain ⟨b, us, h1, h2, h3, h4⟩ := r.ns.dtt j d e
      exact ⟨b, us, h1, h2, by rw [upd_ne (nb j b hj h1)]; exact h3, h4.mono fun ws ds q => RDs.mono x (Grow.refl _ _) ds ws q⟩
/-- a new dict is stored in slot i: H is the heap without it -/
theorem Rl.putDt (r : Rl K C ow S σ H) {i : Nat} (hi : noio S[i]? = true) {kvs : List (NK × PyData)} {p : Addr} {ks : KsT} (np : H p = none) (q : DtR K (av C ow) H ks kvs) :
    Rl K C (owSet ow i (some p)) (S.set i (.nst (.dt kvs))) (σ.set i (some (.ref p))) (upd H p (dtO C.w p ks)) := by
  have hl := noio_lt hi
  have hlσ : i < σ.length := by rw [← r.len]; exact hl
  have gs : ∀ j, j ≠ i → (S.set i (.nst (.dt kvs)))[j]? = S[j]? := fun j e => List.getElem?_set_ne (Ne.symm e)
  have gσ : ∀ j, j ≠ i → (σ.set i (some (.ref p)))[j]? = σ[j]? := fun j e => List.getElem?_set_ne (Ne.symm e)
  have gi : (S.set i (.nst (.dt kvs)))[i]? = some (.nst (.dt kvs)) := List.getElem?_set_self hl
  have gσi : (σ.set i (some (.ref p)))[i]? = some (some (.ref p)) := List.getElem?_set_self hlσ
  have oj : ∀ j, j ≠ i → owSet ow i (some p) j = ow j := fun j e => if_neg e
  have oi : owSet ow i (some p) i = some p := if_pos rfl
  have n := r.fresh np
  have f0 := r.fresh0 np
  have sm : Same H (upd H p (dtO C.w p ks)) := same_new np
  have gr : Grow (av C ow) (av C (owSet ow i (some p))) H := fun a z => (av_set z).imp id fun z => by cases z; exact np
  have nj : ∀ j, ow j ≠ some p := fun j z => n (.inr ⟨j, z⟩)
  have hn := noio_nn hi
  have h4 : i < 4096 := Nat.lt_of_lt_of_le hl r.ns.big
  have na : ∀ j, NstAt S j → NstAt (S.set i (.nst (.dt kvs))) j := fun j q => q.of fun m d q => by
    rw [gs m fun z => by rw [z] at q; rw [q] at hn; cases hn]
    exact q
  have nb : ∀ j, NstAt (S.set i (.nst (.dt kvs))) j → j ≠ i → NstAt S j := fun j q hj => by
    rcases q with ⟨d, q⟩ | ⟨m, k, d, q1, q2, q3⟩
    · rw [gs j hj] at q; exact .inl ⟨d, q⟩
    · by_cases hm : m = i
      · subst hm; rw [gi] at q2; cases q2
      · rw [gs m hm] at q2; exact .inr ⟨m, k, d, q1, q2, q3⟩
  refine ⟨by rw [List.length_set, List.length_set]; exact r.len, fun j d e => ?_, fun j es e => ?_, fun j a e => ?_, fun j k a e1 e2 => ?_, fun j es a e1 e2 => ?_, fun j es e => ?_, fun j a e => ?_, fun a z => ?_, fun a o z h => sm a o (r.ext a o z h), ⟨by rw [List.length_set]; exact r.ns.big, fun j d e => ?_, fun j d e => ?_, fun j d e => ?_, fun j a e1 e2 => ?_⟩⟩
  · by_cases hj : j = i
    · subst hj; rw [gi] at e; cases e
    · rw [gs j hj] at e
      obtain ⟨w, e1, e2⟩ := r.val j d e
      exact ⟨w, by rw [gσ j hj]; exact e1, RD.mono (Ext.same sm) gr d w e2⟩
  · by_cases hj : j = i
    · subst hj; rw [gi] at e; cases e
    · rw [gs j hj] at e
      obtain ⟨a, ws, e1, e2, e3, e4⟩ := r.own j es e
      exact ⟨a, ws, by rw [oj j hj]; exact e1, by rw [gσ j hj]; exact e2, sm a _ e3, RDs.mono (Ext.same sm) gr es ws e4⟩
  · by_cases hj : j = i
    · subst hj
      exact .inr (.inl ⟨_, gi⟩)
    · rw [oj j hj] at e
      rw [gs j hj]
      exact (r.ows j a e).imp id (na j)
  · by_cases hj : j = i
    · subst hj
      by_cases hk : k = j
      · exact hk.symm
      · rw [oj k hk] at e2
        rw [oi] at e1; cases e1
        exact absurd e2 (nj k)
    · rw [oj j hj] at e1
      by_cases hk : k = i
      · subst hk
        rw [oi] at e2; cases e2
        exact absurd e1 (nj j)
      · rw [oj k hk] at e2
        exact r.inj j k a e1 e2
  · by_cases hj : j = i
    · subst hj; rw [gi] at e1; cases e1
    · rw [gs j hj] at e1
      rw [oj j hj] at e2
      exact r.frs j es a e1 e2
  · by_cases hj : j = i
    · subst hj; rw [gi] at e; cases e
    · rw [gs j hj] at e
      rw [oj j hj]
      exact r.ios j es e
  · obtain ⟨h1, es, h2⟩ := r.iok j a e
    refine ⟨h1, es, ?_⟩
    rw [gs j fun z => ?_]
    · exact h2
    · rw [z] at h2
      exact absurd h2 (noio_io hi es)
  · obtain ⟨o, e⟩ := r.trk a z
    exact ⟨o, sm a o e⟩
  · by_cases hj : j = i
    · subst hj; rw [gi] at e; cases e
    · rw [gs j hj] at e
      obtain ⟨c, cs, g1, g2, g3, g4, g5⟩ := r.ns.nst j d e
      have j4 := r.lt4 e
      refine ⟨c, cs, by rw [oj j hj]; exact g1, by rw [gσ j hj]; exact g2, sm c _ g3, g4, fun k c' es q1 q2 => ?_⟩
      obtain ⟨f1, us, f2, f3⟩ := g5 k c' es q1 q2
      exact ⟨by rw [oj _ (show nx j k ≠ i from fun z => by unfold nx at z; omega)]; exact f1, us, sm c' _ f2, RDs.mono (Ext.same sm) gr es us f3⟩
  · by_cases hj : j = i
    · subst hj; rw [gi] at e; cases e
    · rw [gs j hj] at e
      obtain ⟨c, us, g1, g2, g3, g4⟩ := r.ns.dct j d e
      exact ⟨c, us, by rw [oj j hj]; exact g1, by rw [gσ j hj]; exact g2, sm c _ g3, g4.key, RDs.mono (Ext.same sm) gr _ _ g4.val⟩
  · by_cases hj : j = i
    · subst hj
      rw [gi] at e
      cases e
      exact ⟨p, ks, oi, gσi, upd_same, q.mono fun ws ds q => RDs.mono (Ext.same sm) gr ds ws q⟩
    · rw [gs j hj] at e
      obtain ⟨c, us, g1, g2, g3, g4⟩ := r.ns.dtt j d e
      exact ⟨c, us, by rw [oj j hj]; exact g1, by rw [gσ j hj]; exact g2, sm c _ g3, g4.mono fun ws ds q => RDs.mono (Ext.same sm) gr ds ws q⟩
  · by_cases hj : j = i
    · subst hj
      rw [oi] at e2
      cases e2
      exact f0
    · rw [oj j hj] at e2
      exact r.ns.frn j a (nb j e1 hj) e2
end
end Ds
end
section
set_option Elab.async false
set_option linter.all false
set_option maxRecDepth 100000
set_option maxHeartbeats 4000000
namespace Ds
open PySem PySem.Spec PyProof.Rows L2
def dtt? : Option Sl → Option (List (NK × PyData))
  | some (.nst (.dt kvs)) => some kvs
  | _ => none
theorem dtt?_some {o : Option Sl} {kvs : List (NK × PyData)} (h : dtt? o = some kvs) : o = some (.nst (.dt kvs)) := by
  match o, h with
  | some (.nst (.dt d)), h => cases h; rfl
section
variable {X : Cx} {o i value e f : Expr} {pos pos' apos cpos : Pos} {td ty tv tx : TE}
def tDNewX (w : World) : TE := fun _ H Q => ∀ p, H p = none → Q (.ref p) (upd H p (dtO w p []))
theorem pe_dnewX : PE X (.Dict [] [] pos) (tDNewX X.w) := ⟨fun pins s σ H Q I h =>
  wpAny_Dict_empty ⟨.ref s.heap.objs.size, _, I.laid (a := s.heap.objs.size) (o := dtO X.w s.heap.objs.size []) (t' := s.toks) (fun _ _ q => Heap.get?_push_of_some _ q) (Nat.le_refl _)
    (dt_new (P := X.prog) (xs := []) (Nat.zero_le _) (beq_eq_false_iff_ne.mpr (Ne.symm (Nat.ne_of_lt I.big))) .nil ⟨_, #[], 0, Heap.get?_push_size _ rfl, ⟨rfl, rfl, rfl⟩, rfl, rfl, (fun x hx => by cases hx), List.nodup_nil⟩), rfl, h _ (I.hok.fresh (Nat.le_refl _))⟩⟩
def sDPutX (X : Cx) (td ty tv : TE) : TS := fun D σ H => tv σ H fun v H1 => td σ H1 fun x H2 => ty σ H2 fun y H3 => ∃ (a b : Addr) (ks : KsT) (kvs : List (NK × PyData)) (av : Av) (κ : NK), x = .ref a ∧ y = .ref b ∧ H3 a = some (dtO X.w a ks) ∧ DtR X.K av H3 ks kvs ∧
  RD X.K av H3 (.ref b) (nkD κ) ∧ κ.depth ≤ 8 ∧ ks.length < sizeLine ∧ D.nx σ (upd H3 a (dtO X.w a (kPutT ks κ b v)))
theorem ps_dputX (hu : X.A.units + 9 < cLine) (ho : PE X o td) (hi : PE X i ty) (hv : PE X value tv) (hs : swapsWith value (some (.Subscript o i pos')) pos.line X.env = pure false) :
    PS X (.Assign [.Subscript o i pos'] value pos) (sDPutX X td ty tv) := by
  refine ⟨fun pins s σ H D I h => ?_⟩
  refine wpAny_Assign_Subscript (thn (hv.run pins s σ H _ I h) fun r s1 ⟨v, H1, I1, rv, q1⟩ => thn (ho.run pins s1 σ H1 _ I1 q1) fun u s2 ⟨x, H2, I2, rx, q2⟩ => thn (hi.run pins s2 σ H2 _ I2 q2) fun iv s3 ⟨y, H3, I3, ry, a, b, ks, kvs, av, κ, ex, ey, e, dr, rb, hd, hl, q3⟩ => ?_) hs
  subst ex ey
  obtain rfl : u = Value.ref a := rx
  obtain rfl : iv = Value.ref b := ry
  obtain ⟨h1, h2, xs, rel, dd⟩ := dt_at I3 e dr
  refine wpAny_setItem_heap (hsz := by rw [← Paired.length rel]; exact h2) (show X.A.units + 1 + 8 < cLine by omega) (nk_key I3 rb hd) dd fun h' dd' hs' => ⟨σ, _, ?_, q3⟩
  have he : ∃ q, h'.get? a = some q := let ⟨q, _, _, hq, _⟩ := dd'; ⟨q, hq⟩
  exact d_write I3 (by rw [e]; exact True.intro) hs' he (dt_new (by have := len_put ks κ b v; omega) h1 (rel_put rel κ b rv) dd')
def tDGetX (X : Cx) (td ty tx : TE) : TE := fun σ H Q => td σ H fun x H1 => ∃ (a : Addr) (ks0 : KsT) (kvs0 : List (NK × PyData)) (av0 : Av), x = .ref a ∧ H1 a = some (dtO X.w a ks0) ∧ DtR X.K av0 H1 ks0 kvs0 ∧ ty σ H1 fun y H2 => tx σ H2 fun z H3 => ∃ (b : Addr) (ks : KsT) (kvs : List (NK × PyData)) (av : Av) (κ : NK), y = .ref b ∧ H3 a = some (dtO X.w a ks) ∧ DtR X.K av H3 ks kvs ∧
  RD X.K av H3 (.ref b) (nkD κ) ∧ κ.depth ≤ 8 ∧ (∀ p, valT ks κ = some p → Q p.2 H3) ∧ (valT ks κ = none → Q z H3)
theorem pe_dgetX (hu : X.A.units + 9 < cLine) (ho : PE X o td) (he : PE X e ty) (hf : PE X f tx) (m : M2 X o "get" apos e f cpos) : PE X (.Call (.Attribute o "get" apos) [e, f] [] cpos) (tDGetX X td ty tx) := by
  refine ⟨fun pins s σ H Q I h => ?_⟩
  refine wpAny_Call_method m.base m.few m.line PySem.F.plainAttrs_dict PySem.F.slot_dict_get PySem.F.type_dict_get (thn (ho.run pins s σ H _ I h) fun u s1 ⟨x, H1, I1, rx, a, ks0, kvs0, av0, ex, e0, d0, q1⟩ => ?_)
  subst ex
  obtain rfl : u = Value.ref a := rx
  obtain ⟨h1, h2, xs, rel, dd⟩ := dt_at I1 e0 d0
  have t2 : ∀ b, Value.ref a = .ref b → ∃ ob, s1.heap.get? b = some ob ∧ ob.dict = none := fun b q => by
    cases q
    obtain ⟨ob, _, _, g1, g2, _⟩ := dd
    exact ⟨ob, g1, g2.2.1⟩
  refine ⟨dd.typeIs, t2, ?_⟩
  rw [m.trees]
  refine Calls.callWith_builtin rfl (Calls.evalArgs_plain (Calls.spliced_cons (thn (he.run pins s1 σ H1 _ I1 q1) fun iv s2 ⟨y, H2, I2, ry, q2⟩ =>
    Calls.spliced_cons (thn (hf.run pins s2 σ H2 _ I2 q2) fun fv s3 ⟨z, H3, I3, rz, b, ks, kvs, av, κ, ey, e3, dr, rb, hd, qs, qn⟩ => Calls.spliced_nil ?_))))
  subst ey
  obtain rfl : iv = Value.ref b := ry
  obtain ⟨h1', h2', xs', rel', dd'⟩ := dt_at I3 e3 dr
  refine call_meetsIn PySem.F.slot_dict_get dd'.typeIs PySem.F.entry_dict_get (PySem.F.args_dict_get_3 _ _ _) (meetsH_dict_get_default (nestedKind X.prog X.w) a b h1' fv) ⟨show X.A.units + 1 + 8 < cLine by omega, κ, xs', nk_key I3 rb hd, dd', ?_⟩
  rw [atKey_eq]
  cases ev : valT ks κ with
  | none =>
    have : valT xs' κ = none := by
      have := rel_some (k := κ) rel'
      rw [ev] at this
      cases q : valT xs' κ with
      | none => rfl
      | some p => rw [q] at this; cases this
    rw [this]
    exact ⟨z, H3, I3.tok _, rz, qn ev⟩
  | some p =>
    obtain ⟨q, g1, g2, g3⟩ := rel_get rel' ev
    rw [g1]
    exact ⟨p.2, H3, I3.tok _, g3, qs p ev⟩
end
section
variable {X : Cx} {W : WX} {C : Cn} {pos pos2 pos' apos cpos : Pos} {i : Nat} {a e k f : Expr} {se sk sx : SE}
def sDtNew (i : Nat) : SS := fun S => if noio S[i]? = true then .nx (S.set i (.nst (.dt []))) else .no
theorem s_dtNew {tg : Expr} (hw : C.w = X.w) (hp : ∀ {t : TE}, PE X (.Dict [] [] pos2) t → PS X (.Assign [tg] (.Dict [] [] pos2) pos) (tAsg t (gName i))) : PS X (.Assign [tg] (.Dict [] [] pos2) pos) (xS X.K X.mg W C (sDtNew i)) :=
  ps_imp (hp pe_dnewX) fun D σ H ⟨ow, S, r, q⟩ p np => by
    change sst X.K X.mg W C ow H D (if noio S[i]? = true then .nx (S.set i (.nst (.dt []))) else .no) at q
    by_cases z : noio S[i]? = true
    · rw [if_pos z] at q
      have r2 := r.putDt z np (DtR.nil (K := X.K) (av := av C ow) (Hh := H))
      rw [hw] at r2
      exact q _ _ _ r2 (Ext.same (same_new np)) (grow_set fun c z => by cases z; exact np)
    · rw [if_neg z] at q
      exact q.elim
def sDtPt (i : Nat) (sk se : SE) : SS := fun S => (se S).st fun d S1 => if (dtt? S1[i]?).isSome = true then (sk S1).st fun k S2 => match dtt? S2[i]?, toT k with
  | some kvs, some κ => if kvs.length < sizeLine then .nx (S2.set i (.nst (.dt (dPutT kvs κ d)))) else .no
  | _, _ => .no
  else .no
theorem s_dtPt (hw : C.w = X.w) (hu : X.A.units + 65 < cLine) (ho : PE X a (tVar i)) (hk : PE X k (xE X.K X.mg W C sk)) (he : PE X e (xE X.K X.mg W C se)) (hs : swapsWith e (some (.Subscript a k pos')) pos.line X.env = pure false) :
    PS X (.Assign [.Subscript a k pos'] e pos) (xS X.K X.mg W C (sDtPt i sk se)) := ps_imp (ps_dputX (by omega) ho hk he hs) fun D σ H ⟨ow, S, r, q⟩ => seqS r q fun S1 d v H1 r1 x1 rd k1 => by
  cases e1 : dtt? S1[i]? with
  | none => rw [e1] at k1; exact k1.elim
  | some kvs =>
    rw [e1] at k1
    obtain ⟨p, ks, h1, h2, _⟩ := r1.ns.dtt i kvs (dtt?_some e1)
    refine ⟨.ref p, h2, seqS r1 k1 fun S2 kd x H2 r2 x2 rk k2 => ?_⟩
    cases e2 : dtt? S2[i]? with
    | none => rw [e2] at k2; exact k2.elim
    | some kv2 =>
      cases e3 : toT kd with
      | none => rw [e2, e3] at k2; exact k2.elim
      | some κ =>
        rw [e2, e3] at k2
        change sst X.K X.mg W C ow H2 D (if kv2.length < sizeLine then .nx (S2.set i (.nst (.dt (dPutT kv2 κ d)))) else .no) at k2
        by_cases z : kv2.length < sizeLine
        · rw [if_pos z] at k2
          obtain ⟨p2, us, f1, f2, f3, f4⟩ := r2.ns.dtt i kv2 (dtt?_some e2)
          rw [h2] at f2; cases f2
          obtain ⟨ek, hl⟩ := toT_some e3
          subst ek
          obtain ⟨l, el, hd⟩ := id hl
          have rk' := rk
          rw [el, nkD] at rk'
          obtain ⟨b, eb⟩ : ∃ b, x = .ref b := by cases rk'; exact ⟨_, rfl⟩
          subst eb
          obtain ⟨r3, x3⟩ := r2.upDt (dtt?_some e2) f1 (f4.put (k := κ) rk hl (RD.mono x2 (Grow.refl _ _) d v rd))
          rw [hw] at f3 r3 x3
          exact ⟨p, b, us, kv2, _, κ, rfl, rfl, f3, f4, rk, hd, by rw [f4.len]; exact z, k2 ow σ _ r3 x3 (Grow.refl _ _)⟩
        · rw [if_neg z] at k2
          exact k2.elim
def sDtGd (i : Nat) (sk sx : SE) : SE := fun S => if (dtt? S[i]?).isSome = true then (sk S).bind fun k S1 => (sx S1).bind fun x S2 => match dtt? S2[i]?, toT k with
  | some kvs, some κ => .ok ((dGetT kvs κ).getD x) S2
  | _, _ => .no
  else .no
theorem e_dtGd (hw : C.w = X.w) (hu : X.A.units + 65 < cLine) (ho : PE X a (tVar i)) (hk : PE X k (xE X.K X.mg W C sk)) (hx : PE X f (xE X.K X.mg W C sx)) (m : M2 X a "get" apos k f cpos) : PE X (.Call (.Attribute a "get" apos) [k, f] [] cpos) (xE X.K X.mg W C (sDtGd i sk sx)) := pe_imp (pe_dgetX (by omega) ho hk hx m) fun σ H Q ⟨ow, S, r, q⟩ => by
  change pst X.K X.mg W C (relE X.K) ow σ H Q (sDtGd i sk sx S) at q
  unfold sDtGd at q
  cases e : dtt? S[i]? with
  | none => rw [e] at q; exact q.elim
  | some kvs =>
    rw [e] at q
    obtain ⟨p, ks, h1, h2, h3, h4⟩ := r.ns.dtt i kvs (dtt?_some e)
    rw [hw] at h3
    refine ⟨.ref p, h2, p, ks, kvs, _, rfl, h3, h4, seq early_E r q fun S1 kd x H1 r1 x1 rk k1 => seq early_E r1 k1 fun S2 xd z H2 r2 x2 rz k2 => ?_⟩
    cases e1 : dtt? S2[i]? with
    | none => rw [e1] at k2; exact k2.elim
    | some kv2 =>
      cases e2 : toT kd with
      | none => rw [e1, e2] at k2; exact k2.elim
      | some κ =>
        rw [e1, e2] at k2
        change pst X.K X.mg W C (relE X.K) ow σ H2 Q (.ok ((dGetT kv2 κ).getD xd) S2) at k2
        obtain ⟨p2, us, f1, f2, f3, f4⟩ := r2.ns.dtt i kv2 (dtt?_some e1)
        rw [h2] at f2; cases f2
        rw [hw] at f3
        obtain ⟨ek, hl⟩ := toT_some e2
        subst ek
        obtain ⟨l, el, hd⟩ := hl
        have rk2 := RD.mono x2 (Grow.refl _ _) _ x rk
        have rk' := rk2
        rw [el, nkD] at rk'
        obtain ⟨b, eb⟩ : ∃ b, x = .ref b := by cases rk'; exact ⟨_, rfl⟩
        subst eb
        refine ⟨b, us, kv2, _, κ, rfl, f3, f4, rk2, hd, fun pv ev => ?_, fun ev => ?_⟩
        · obtain ⟨d, g1, g2⟩ := f4.get ev
          rw [g1] at k2
          exact pst_ok r2 k2 g2
        · have : dGetT kv2 κ = none := by
            have := f4.some (k := κ)
            rw [ev] at this
            unfold dGetT
            cases q : valT kv2 κ with
            | none => rfl
            | some p => rw [q] at this; cases this
          rw [this] at k2
          exact pst_ok r2 k2 rz
/-- list(d) -/
def sDtKs (i : Nat) : SN := fun S => match dtt? S[i]? with
  | some kvs => .ok (kvs.map fun kv => nkD kv.1) S
  | none => .no
end
@[simp] theorem dtt?_n {d : List (NK × PyData)} : dtt? (some (.nst (.dt d))) = some d := rfl
@[simp] theorem r_sDtNew {i : Nat} {S : En} : sDtNew i S = (if noio S[i]? = true then .nx (S.set i (.nst (.dt []))) else .no) := rfl
@[simp] theorem r_sDtPt {i : Nat} {sk se : SE} {S : En} : sDtPt i sk se S = ((se S).stt fun d S1 => if (dtt? S1[i]?).isSome = true then (sk S1).stt fun k S2 => match dtt? S2[i]?, toT k with
  | some kvs, some κ => if kvs.length < sizeLine then .nx (S2.set i (.nst (.dt (dPutT kvs κ d)))) else .no
  | _, _ => .no
  else .no) := rfl
@[simp] theorem r_sDtGd {i : Nat} {sk sx : SE} {S : En} : sDtGd i sk sx S = (if (dtt? S[i]?).isSome = true then (sk S).bnd fun k S1 => (sx S1).bnd fun x S2 => match dtt? S2[i]?, toT k with
  | some kvs, some κ => .ok ((dGetT kvs κ).getD x) S2
  | _, _ => .no
  else .no) := rfl
@[simp] theorem r_sDtKs {i : Nat} {S : En} : sDtKs i S = (match dtt? S[i]? with
  | some kvs => .ok (kvs.map fun kv => nkD kv.1) S
  | none => .no) := rfl
end Ds
end
section
set_option Elab.async false
set_option linter.all false
set_option maxRecDepth 100000
set_option maxHeartbeats 4000000
namespace Ds
open PySem PySem.Spec PyProof.Rows L2
section
variable {K : PySem.W.Frag} {av : Av} {H : Hp}
/-- such a dict's data -/
def dtD (kvs : List (NK × PyData)) : PyData := .dict (kvs.map fun p => (nkD p.1, p.2))
end
end Ds
end
section
set_option Elab.async false
set_option linter.all false
set_option maxRecDepth 100000
set_option maxHeartbeats 4000000
namespace Ds
open PySem PySem.Spec PyProof.Rows L2
def sRaiseN (x f : Str) (se : SE) : SS := fun S => (se S).st fun d S1 => match d with
  | .int n => if n.natAbs.log2 < 1000 then .ex ⟨x, some (f, n)⟩ S1 else .no
  | _ => .no
@[simp] theorem r_sRaiseN {x f : Str} {se : SE} {S : En} : sRaiseN x f se S = ((se S).stt fun d S1 => match d with
  | .int n => if n.natAbs.log2 < 1000 then .ex ⟨x, some (f, n)⟩ S1 else .no
  | _ => .no) := rfl
section
variable {X : Cx} {W : WX} {C : Cn} {x f : Str} {e : Expr} {se : SE} {p pos pos' : Pos}
/-- e.f, e a kept error of the class named x -/
def sFld (x f : Str) (se : SE) : SE := fun S => (se S).bind fun d S1 => match d with
  | .dict [(.none, .str c), (.str g, .int n)] => if c = x ∧ g = f then .ok (.int n) S1 else .no
  | _ => .no
@[simp] theorem r_sFld {x f : Str} {se : SE} {S : En} : sFld x f se S = ((se S).bnd fun d S1 => match d with
  | .dict [(.none, .str c), (.str g, .int n)] => if c = x ∧ g = f then .ok (.int n) S1 else .no
  | _ => .no) := rfl
end
end Ds
end
section
set_option Elab.async false
set_option linter.all false
set_option maxRecDepth 100000
set_option maxHeartbeats 4000000
namespace L2H
open PySem PySem.Spec L2
theorem RoomH.units {k : Nat} {A : Around} (r : RoomH k A) : A.units + 64 < cLine := by have := r.un; omega
end L2H
end
section
set_option Elab.async false
set_option linter.all false
set_option maxRecDepth 100000
set_option maxHeartbeats 4000000
namespace Ds
open PySem PySem.Spec PyProof.Rows L2
section
variable {X : Cx} {W : WX} {C : Cn} {a b e : Expr} {st : Stmt} {sa s1 s2 : SE} {t1 t2 : SS} {sl : SN} {pos : Pos}
theorem s_setIxP {X : Cx} {W : WX} {C : Cn} {tg e k : Expr} {sk se : SE} {i : Nat} {pos : Pos} (hp : ∀ {t u : TE}, PE X e t → PE X k u → PS X (.Assign [tg] e pos) (tAsg t (gSub (tVar i) u rSetL))) (he : PE X e (xE X.K X.mg W C se)) (hk : PE X k (xE X.K X.mg W C sk)) : PS X (.Assign [tg] e pos) (xS X.K X.mg W C (sSetIx i sk se)) := s_setIx he hk hp
end
def sInN (neg : Bool) (sa : SE) (sl : SN) : SE := fun S => (sa S).bind fun d S1 => (sl S1).bind fun es S2 => R.opt (gInT neg d (.list es)) S2
@[simp] theorem r_sInN {neg : Bool} {sa : SE} {sl : SN} {S : En} : sInN neg sa sl S = ((sa S).bnd fun d S1 => (sl S1).bnd fun es S2 => R.opt (gInT neg d (.list es)) S2) := rfl
end Ds
end
section
set_option Elab.async false
set_option linter.all false
set_option maxRecDepth 100000
set_option maxHeartbeats 4000000
namespace Ds
open PySem PySem.Spec PyProof.Rows L2
section
variable {X : Cx} {pins : List (Addr × Obj)} {σ : St} {H : Hp} {s : Shared} {h' : Heap}
/-- an object of ours that stood untracked is tracked from now on -/
theorem adopt {t' : Nat} {p : Addr} {o : HO} (I : Inv X pins σ H s) (hf : FpOk X pins H p) (k : ∀ b ob, b ≠ p → s.heap.get? b = some ob → h'.get? b = some ob) (new : ObjOk X.prog X.w (upd H p o) h' p o) :
    Inv X pins σ (upd H p o) { s with heap := h', toks := t' } := by
  have nit : ∀ b u, H b = some u → b ≠ p := fun b u e z => by rw [z, hf.1] at e; cases e
  refine I.step (g' := s.gens) (d' := s.drawn) (ch := [p]) (fun b hb => ?_) (fun b ob _ _ hc e _ => k b ob (by simpa using hc) e) (fun b ob _ _ hc e _ => ⟨ob.slots, k b ob (by simpa using hc) e⟩)
    (fun b ob hc _ n => ?_) (fun b ob hc e => ⟨ob, k b ob (by simpa using hc) e⟩) (fun b xs e => ?_) (fun b ob u e => ?_) (fun b ps e => ⟨#[], ?_⟩) (fun m hm => ?_) (fun b u e => ?_) I.bare
  · obtain rfl : b = p := by simpa using hb
    exact ⟨hf.2.2.2.1, hf.2.1, hf.2.2.2.2.1, hf.2.2.2.2.2⟩
  · rw [upd_ne (by simpa using hc)]; exact n
  · rw [upd_ne (nit _ _ e)]; exact e
  · rw [upd_ne (nit _ _ e)]; exact e
  · rw [upd_ne (nit _ _ e), e]; simp
  · obtain ⟨ob, es, ep, ho, r⟩ := hm
    exact ⟨ob, es, ep, k _ ob (fun z => hf.2.1 z.symm) ho, r⟩
  · by_cases hb : b = p
    · subst hb
      rw [upd_same] at e
      cases e
      exact new
    · rw [upd_ne hb] at e
      refine (I.hok b u e).stay (fun c v hc q => k c v ?_ q) (fun c q => by rw [upd_ne (nit _ _ q)]; exact q) fun c xs q => by rw [upd_ne (nit _ _ q)]; exact q
      rcases hc with z | z
      · rw [z]; exact hb
      · exact nit c _ z
end
section
variable {X : Cx} {k v : Expr} {pos : Pos} {tk tv : TE}
def tDict1 (X : Cx) (tk tv : TE) : TE := fun σ H Q => tPairs [(tk, tv)] σ H fun ps H2 => ∃ (b : Addr) (y : V) (av : Av) (κ : NK), ps = [(.ref b, y)] ∧ RD X.K av H2 (.ref b) (nkD κ) ∧ κ.depth ≤ 8 ∧ ∀ p, H2 p = none → Q (.ref p) (upd H2 p (dtO X.w p [(κ, b, y)]))
theorem pe_dict1 (hu : X.A.units + 9 < cLine) (hk : PE X k tk) (hv : PE X v tv) : PE X (.Dict [some k] [v] pos) (tDict1 X tk tv) := by
  refine ⟨fun pins s σ H Q I q => ?_⟩
  have hm : (s.heap.objs.size == sysModules) = false := beq_eq_false_iff_ne.mpr (Nat.ne_of_gt I.big)
  rw [arm_eval_Dict, zip_pairTrees [some k] [v] X.env pos rfl rfl, dictDisplay_pairs (pairTrees [some k] [v] X.env pos) (fun z => nomatch z) (show 1 < 17 by decide)]
  have go : wpAny (model X.prog X.w) X.A (subDict (pairTrees [some k] [v] X.env pos)) (fun d s' => EP X pins σ Q (.ref d) s') X.xe s := by
    refine wpAny_subDictH (knd := nestedKind X.prog X.w) (show X.A.units + 8 < cLine by omega) (show 1 ≤ 15 by decide) ?_
    have I1 : Inv X ((s.heap.objs.size, { cls := .type "dict", data := .dict #[] }) :: pins) σ H { s with heap := s.heap.push { cls := .type "dict", data := .dict #[] } } := by
      have I0 : Inv X pins σ H { s with heap := s.heap.push { cls := .type "dict", data := .dict #[] } } := I.kept (t' := s.toks) fun b o q => Heap.get?_push_of_some _ q
      refine I0.pins_of fun q hq => ?_
      rcases List.mem_cons.mp hq with e | hq
      · subst e
        exact ⟨Heap.get?_push_size _ rfl, I.hok.fresh (Nat.le_refl _), Nat.ne_of_gt I.lt, I.nofs (Nat.le_refl _), fun v z => nomatch z⟩
      · exact I0.pin q (List.mem_append_right _ hq)
    refine thn ((pps_cons hk hv pps_nil).run _ _ σ H _ I1 q) fun ws s2 ⟨ps, H2, I2, rel, b, y, av, κ, ep, rb, hd, q2⟩ => ?_
    subst ep
    cases rel with
    | @cons a w as bs r t =>
      cases t
      obtain ⟨u1, u2⟩ := w
      obtain ⟨r1, r2⟩ := r
      obtain rfl : u1 = Value.ref b := r1
      have pn := I2.pin (s.heap.objs.size, { cls := .type "dict", data := .dict #[] }) (List.mem_append_right _ List.mem_cons_self)
      have I3 : Inv X pins σ H2 s2 := I2.pins_of fun q hq => I2.pin q (List.mem_append_right _ (List.mem_cons_of_mem _ hq))
      refine ⟨[(κ, b, u2)], ⟨rfl, rfl, nk_key I2 rb hd, True.intro⟩, ⟨_, #[], 0, pn.1, ⟨rfl, rfl, rfl⟩, rfl, rfl, (fun x hx => by cases hx), List.nodup_nil⟩, fun h' tk' dd hs => ⟨.ref s.heap.objs.size, upd H2 s.heap.objs.size (dtO X.w s.heap.objs.size [(κ, b, y)]), ?_, rfl, q2 _ pn.2.1⟩⟩
      exact adopt I3 (I.fpOk (Nat.le_refl _) pn.2.1) (fun c ob hc e => hs.extBut c ob hc e) (dt_new (P := X.prog) (xs := [(κ, b, u2)]) (show 1 ≤ sizeLine by decide) hm (.cons ⟨rfl, rfl, r2⟩ .nil) dd)
  exact wpAny_bind (wpAny_standAt (wpAny_bind (thn go fun d s' z => wpAny_pure z)))
end
section
variable {X : Cx} {pins : List (Addr × Obj)} {σ : St} {H : Hp} {s : Shared}
theorem frz_raw {P : Program} {w : World} {h : Heap} {d : Addr} {o : Obj} {ks : KsT} (k : HOk P w H h) (e : H d = some (.frz o (dtO w d ks))) :
    (d == sysModules) = false ∧ ∃ (es : Array DictEntry) (ep : Nat), h.DictRaw d es ep ∧ o.data = .dict es ep ∧ es.size = ks.length ∧ ∀ (i : Nat) p, ks[i]? = some p → ∃ en : DictEntry, es[i]? = some en ∧ en.key = .ref p.2.1 ∧ RelV p.2.2 en.val := by
  obtain ⟨hd, ⟨h1, h2, xs, o', es, ep, rel, ho, hx, hdt, he, _⟩, _⟩ := k d _ e
  rw [hd] at ho
  cases ho
  have he := he P
  have l1 : es.size = xs.length := size_of_entries he
  have l2 : ks.length = xs.length := Paired.length rel
  refine ⟨h1, es, ep, ⟨o, hd, hx, hdt⟩, hdt, by omega, fun i p ep => ?_⟩
  obtain ⟨b, hb, e1, e2, e3⟩ := paired_get rel ep
  have q := entry_at he i
  rw [hb] at q
  exact ⟨_, q, by rw [e2]; rfl, e3⟩
end
def Itd (w : World) (d : Addr) (o : Obj) (ks : KsT) : It where
  go := fun i H => H d = some (.frz o (dtO w d ks)) ∧ i < ks.length
  yld := fun i G v G' => ∃ (t : Addr) (p : NK × Addr × V) (ob : Obj), v = .ref t ∧ ks[i]? = some p ∧ G t = none ∧ ob.dict = none ∧ ob.cls = .type "tuple" ∧ G' = upd G t (.frz ob (.tup [.ref p.2.1, p.2.2]))
  stop := fun i H => H d = some (.frz o (dtO w d ks)) ∧ ks.length ≤ i
section
variable {P : Program} {w : World} {K : PySem.W.Frag} {d : Addr} {o : Obj} {es : Array DictEntry} {ep : Nat} {el : List Expr} {kk : Nat} {tp : Pos}
theorem turn_items {ks : KsT} (it : Addr) (hod : o.data = .dict es ep) : Turn P w K (.Tuple el kk tp) (Itd w d o ks) [it] it (fun i h => ∃ ok ov, IsItemIter h it d i ks.length ep ok ov) where
  mem := by simp
  obj := fun i h st b hb => by
    obtain rfl : b = it := by simpa using hb
    obtain ⟨ok, ov, e⟩ := st
    exact ⟨_, e, fun v z => nomatch z⟩
  keep := fun i h h' st k => let ⟨ok, ov, e⟩ := st; ⟨ok, ov, k it (by simp) _ e⟩
  item := by
    intro X hP hw hK hc i pins s σ H E I hf st hg
    subst hP hw hK
    obtain ⟨hd, hi⟩ := hg
    obtain ⟨ok, ov, hit⟩ := st
    obtain ⟨hs, es', ep', raw, hdt, hsz, ent⟩ := frz_raw I.hok hd
    obtain ⟨rfl, rfl⟩ := dict_ep hod hdt
    obtain ⟨p, hkv⟩ : ∃ p, ks[i]? = some p := ⟨ks[i], List.getElem?_eq_getElem hi⟩
    obtain ⟨en, hen, hkey, hval⟩ := ent i p hkv
    have lt : it < s.heap.objs.size := Heap.lt_size hit
    have hlt : i < es'.size := by omega
    have een : es'[i] = en := by rw [Array.getElem?_eq_getElem hlt] at hen; exact Option.some.inj hen
    rw [← hsz] at hit
    refine wpAny_pyNext_items_item_raw hit raw hlt fun h' hit' ht hz hk => ?_
    rw [een] at hit' ht
    refine ⟨_, rfl, wpAny_letOwnedTupleGo_items (s := { s with heap := h' }) hit' fun h2 it2 sb => ?_⟩
    have at2 : h2.get? s.heap.objs.size = some { cls := .type "tuple", data := .seq #[en.key, en.val] } := (sb.2 _ (Nat.ne_of_gt lt)).trans ht
    have I1 := I.turnedNew (t' := s.toks) (ch := [it]) (ob := .frz { cls := .type "tuple", data := .seq #[en.key, en.val] } (.tup [.ref p.2.1, p.2.2])) (fun b ob hb z => (sb.2 b (fun y => hb (by simp [y]))).trans (hk b ob (fun y => hb (by simp [y])) z)) hf (Nat.le_refl _)
      ⟨at2, by show 2 ≤ sizeLine; decide, [en.key, en.val], .cons hkey (.cons hval .nil), ⟨_, at2, rfl, _, rfl⟩⟩
    refine ⟨.ref s.heap.objs.size, _, I1, rfl, ⟨_, p, _, rfl, hkv, I.hok.fresh (Nat.le_refl _), rfl, rfl, rfl⟩, ⟨_, _, by rw [← hsz]; exact it2⟩, fun c hcm => ?_⟩
    obtain rfl : c = it := by simpa using hcm
    rw [upd_ne (Nat.ne_of_lt lt)]
    exact (hf c hcm).1
  done := by
    intro X hP hw hK hc i pins s σ H E I hf st hg
    subst hP hw hK
    obtain ⟨hd, hi⟩ := hg
    obtain ⟨ok, ov, hit⟩ := st
    obtain ⟨f0, f1, f2, f3, f4, f5⟩ := hf it (by simp)
    obtain ⟨hs, es', ep', raw, hdt, hsz, ent⟩ := frz_raw I.hok hd
    obtain ⟨rfl, rfl⟩ := dict_ep hod hdt
    rw [← hsz] at hit
    exact wpAny_pyNext_items_end_raw (I.ok.hd hc) hit raw (by omega) fun h' eb => ⟨rfl, I.turned (t' := s.toks) (fun b ob hb e => eb b ob hb e) f0 f1 f3 f4 f5⟩
  self := fun A i s Q E st h => let ⟨_, _, hit⟩ := st; wpAny_pyIter_itemiter hit h
end
section
variable {X : Cx} {e : Expr} {te : TE} {apos cpos tp : Pos} {el : List Expr} {kk : Nat}
/-- e.items(), walked -/
theorem items_core {pins : List (Addr × Obj)} {σ : St} {H : Hp} {s : Shared} {R : It → Hp → Prop} {d : Addr} {o : Obj} {ks : KsT} (I : Inv X pins σ H s) (hd : H d = some (.frz o (dtO X.w d ks))) (q : R (Itd X.w d o ks) H) :
    wpAny (model X.prog X.w) X.A (callWith cpos (.builtin "dict.items") [.ref d] [] []) (fun v s1 => wpAny (model X.prog X.w) X.A (pyIter v) (PIE X pins σ (.Tuple el kk tp) R) X.xe s1) X.xe s := by
  obtain ⟨hs, es, ep, raw, hdt, hsz, ent⟩ := frz_raw I.hok hd
  have I2 : Inv X pins σ H { s with heap := s.heap.push { cls := .type "dict_items", data := .fields #[.ref d] } } := I.kept (t' := s.toks) fun b ob q => Heap.get?_push_of_some _ q
  refine method_meetsIn F.slot_dict_items F.entry_dict_items rfl (PySem.evalArgs_none ⟨rfl, raw.typeIs, F.args_dict_items_1 _, _, meets_dict_items_raw d hs, ⟨es, ep, raw⟩, ?_⟩)
  refine wpAny_pyIter_items_raw ⟨_, Heap.get?_push_size _ rfl, rfl, rfl⟩ (raw.push _) ?_
  exact pi_one (tk := s.toks) I2 _ (turn_items _ hdt) ⟨_, _, by rw [← hsz]; exact Heap.get?_push_size _ rfl⟩ q
/-- .. of a dict that one slot knows: it is locked -/
theorem pi_itemsO (he : PE X e te) (hbase : attributeBase e "items" X.env (eval e X.env) = eval e X.env := by rfl) (hline : (apos.endLine == cpos.line) = true := by rfl) :
    PI X (.Tuple el kk tp) (.Call (.Attribute e "items" apos) [] [] cpos) (fun σ H R => te σ H fun x H1 => ∃ (d : Addr) (ks : KsT), x = .ref d ∧ H1 d = some (dtO X.w d ks) ∧ ∀ o, R (Itd X.w d o ks) (upd H1 d (.frz o (dtO X.w d ks)))) := by
  refine ⟨fun pins s σ H R I h => ?_⟩
  refine wpAny_Call_method (T := "dict") (id := "dict.items") hbase rfl hline F.plainAttrs_dict F.slot_dict_items F.type_dict_items (thn (he.run pins s σ H _ I h) fun u s1 ⟨x, H1, I1, rx, d, ks, ex, hd, q⟩ => ?_)
  subst ex
  obtain rfl : u = Value.ref d := rx
  obtain ⟨o, I2⟩ := I1.lock hd True.intro
  obtain ⟨hs, es, ep, raw, hdt, hsz, ent⟩ := frz_raw I2.hok upd_same
  refine ⟨raw.typeIs, fun b z => ?_, items_core I2 upd_same (q o)⟩
  cases z
  obtain ⟨ob, g1, g2, _⟩ := raw
  exact ⟨ob, g1, g2.2.1⟩
end
def itsT (kvs : List (NK × PyData)) : List PyData := kvs.map fun kv => .tuple [nkD kv.1, kv.2]
theorem DtR.at {K : PySem.W.Frag} {av : Av} {H : Hp} : ∀ {ks : KsT} {kvs : List (NK × PyData)}, DtR K av H ks kvs → ∀ {i : Nat} {p : NK × Addr × V}, ks[i]? = Option.some p → ∃ kv, kvs[i]? = Option.some kv ∧ RD K av H (.ref p.2.1) (nkD kv.1) ∧ RD K av H p.2.2 kv.2
  | [], _, _, i, p, e => by simp at e
  | _ :: _, [], h, _, _, _ => by have := h.len; cases this
  | q :: ks, kv :: kvs, h, 0, p, e => by
    obtain ⟨_, g2, _, g4, _⟩ := h.tail
    cases e
    exact ⟨kv, rfl, g2, g4⟩
  | q :: ks, kv :: kvs, h, i + 1, p, e => h.tail.2.2.2.2.at (i := i) (by simpa using e)
theorem itd_itemsX {K : PySem.W.Frag} {w : World} {av1 : Av} {H : Hp} {a : Addr} {o : Obj} {ks : KsT} {kvs : List (NK × PyData)} (h : H a = some (.frz o (dtO w a ks))) (na : ¬ av1 a) (r : DtR K av1 H ks kvs) : ItD K (Itd w a o ks) av1 H (itsT kvs) := fun av2 H1 x g gw tr => by
  have q := x a _ na h
  have r' := r.mono (fun ws ds z => RDs.mono x g ds ws z gw)
  have hl : (itsT kvs).length = ks.length := by unfold itsT; rw [List.length_map]; exact r'.len.symm
  rw [hl]
  refine ⟨fun i hi => ⟨q, hi⟩, ⟨q, Nat.le_refl _⟩, fun i z v H2 e y => ?_⟩
  obtain ⟨t, p, ob, rfl, ep, nt, o1, o2, rfl⟩ := y
  obtain ⟨kv, e1, e2, e3⟩ := r'.at ep
  have : z = .tuple [nkD kv.1, kv.2] := by
    unfold itsT at e
    rw [List.getElem?_map, e1] at e
    exact (Option.some.inj e).symm
  subst this
  exact ⟨same_new nt, rd_newT tr (.cons e2 (.cons e3 .nil)) nt o1 o2⟩
theorem upd_del2 {H : Hp} {p : Addr} {o : HO} : upd (del H p) p o = upd H p o := by
  funext b
  by_cases e : b = p
  · rw [e, upd_same, upd_same]
  · rw [upd_ne e, upd_ne e, del_ne e]
section
variable {K : PySem.W.Frag} {C : Cn} {ow : Ow} {S : En} {σ : St} {H : Hp}
theorem Rl.dropDt (r : Rl K C ow S σ H) {i : Nat} {kvs : List (NK × PyData)} {a : Addr} (h : S[i]? = some (.nst (.dt kvs))) (ha : ow i = some a) : Rl K C (owSet ow i none) (S.set i .nil) σ (del H a) := by
  have hl : i < S.length := (List.getElem?_eq_some_iff.mp h).1
  have i4 := r.lt4 h
  have gs : ∀ j, j ≠ i → (S.set i .nil)[j]? = S[j]? := fun j e => List.getElem?_set_ne (Ne.symm e)
  have gi : (S.set i .nil)[i]? = some .nil := List.getElem?_set_self hl
  have oj : ∀ j, j ≠ i → owSet ow i none j = ow j := fun j e => if_neg e
  have oi : owSet ow i none i = none := if_pos rfl
  have ap : av C ow a := .inr ⟨i, ha⟩
  have n := r.ns.frn i a (.inl ⟨_, h⟩) ha
  have lt : ∀ b, av C (owSet ow i none) b → av C ow b := fun b z => (av_set z).elim id fun z => by cases z
  have nb : ∀ j b, j ≠ i → ow j = some b → b ≠ a := fun j b n e z => n (r.inj j i b e (by rw [z]; exact ha))
  have dn : ∀ ws ds, RDs K (av C ow) H ws ds → RDs K (av C (owSet ow i none)) (del H a) ws ds := fun ws ds q => RDs.mono (ext_del ap) (fun b z => .inl (lt b z)) ds ws q
  have na : ∀ j, NstAt (S.set i .nil) j → NstAt S j := fun j q => by
    rcases q with ⟨d, q⟩ | ⟨m, n, d, q1, q2, q3⟩
    · by_cases hj : j = i
      · subst hj; rw [gi] at q; cases q
      · rw [gs j hj] at q; exact .inl ⟨d, q⟩
    · by_cases hj : m = i
      · subst hj; rw [gi] at q2; cases q2
      · rw [gs m hj] at q2; exact .inr ⟨m, n, d, q1, q2, q3⟩
  have nn' : ∀ j, j ≠ i → NstAt S j → NstAt (S.set i .nil) j := fun j hj q => by
    rcases q with ⟨d, q⟩ | ⟨m, n, d, q1, q2, q3⟩
    · exact .inl ⟨d, by rw [gs j hj]; exact q⟩
    · exact .inr ⟨m, n, d, q1, by rw [gs m fun z => by rw [z, h] at q2; cases q2]; exact q2, q3⟩
  refine ⟨by rw [List.length_set]; exact r.len, fun j d e => ?_, fun j es e => ?_, fun j b e => ?_, fun j k b e1 e2 => ?_, fun j es b e1 e2 => ?_, fun j es e => ?_, fun j b e => ?_, fun b z => ?_, fun b o z g => ?_, ⟨by rw [List.length_set]; exact r.ns.big, fun j d e => ?_, fun j d e => ?_, fun j d e => ?_, fun j b h1 h2 => ?_⟩⟩
  · by_cases hj : j = i
    · subst hj; rw [gi] at e; cases e
    · rw [gs j hj] at e
      obtain ⟨w, e1, e2⟩ := r.val j d e
      exact ⟨w, e1, RD.mono (ext_del ap) (fun b z => .inl (lt b z)) d w e2⟩
  · by_cases hj : j = i
    · subst hj; rw [gi] at e; cases e
    · rw [gs j hj] at e
      obtain ⟨b, ws, e1, e2, e3, e4⟩ := r.own j es e
      exact ⟨b, ws, by rw [oj j hj]; exact e1, e2, by rw [del_ne (nb j b hj e1)]; exact e3, dn ws es e4⟩
  · by_cases hj : j = i
    · subst hj; rw [oi] at e; cases e
    · rw [oj j hj] at e
      rw [gs j hj]
      exact (r.ows j b e).imp id (nn' j hj)
  · by_cases hj : j = i
    · subst hj; rw [oi] at e1; cases e1
    · by_cases hk : k = i
      · subst hk; rw [oi] at e2; cases e2
      · rw [oj j hj] at e1
        rw [oj k hk] at e2
        exact r.inj j k b e1 e2
  · by_cases hj : j = i
    · subst hj; rw [gi] at e1; cases e1
    · rw [gs j hj] at e1
      rw [oj j hj] at e2
      exact r.frs j es b e1 e2
  · by_cases hj : j = i
    · subst hj; rw [gi] at e; cases e
    · rw [gs j hj] at e
      rw [oj j hj]
      exact r.ios j es e
  · obtain ⟨h1, es, h2⟩ := r.iok j b e
    exact ⟨h1, es, by rw [gs j fun z => by rw [z, h] at h2; cases h2]; exact h2⟩
  · rw [del_ne (show b ≠ a from fun q => n.2 (by rw [← q]; exact z))]
    exact r.trk b z
  · rw [del_ne (show b ≠ a from fun q => by rw [q, n.1] at z; cases z)]
    exact r.ext b o z g
  · by_cases hj : j = i
    · subst hj; rw [gi] at e; cases e
    · rw [gs j hj] at e
      obtain ⟨b, bs, h1, h2, h3, h4, h5⟩ := r.ns.nst j d e
      have j4 := r.lt4 e
      refine ⟨b, bs, by rw [oj j hj]; exact h1, h2, by rw [del_ne (nb j b hj h1)]; exact h3, h4, fun m c ds q1 q2 => ?_⟩
      obtain ⟨g1, ws, g2, g3⟩ := h5 m c ds q1 q2
      have nm : nx j m ≠ i := fun z => by unfold nx at z; omega
      exact ⟨by rw [oj _ nm]; exact g1, ws, by rw [del_ne (nb (nx j m) c nm g1)]; exact g2, dn ws ds g3⟩
  · by_cases hj : j = i
    · subst hj; rw [gi] at e; cases e
    · rw [gs j hj] at e
      obtain ⟨b, us, h1, h2, h3, h4⟩ := r.ns.dct j d e
      exact ⟨b, us, by rw [oj j hj]; exact h1, h2, by rw [del_ne (nb j b hj h1)]; exact h3, h4.key, dn _ _ h4.val⟩
  · by_cases hj : j = i
    · subst hj; rw [gi] at e; cases e
    · rw [gs j hj] at e
      obtain ⟨b, us, h1, h2, h3, h4⟩ := r.ns.dtt j d e
      exact ⟨b, us, by rw [oj j hj]; exact h1, h2, by rw [del_ne (nb j b hj h1)]; exact h3, h4.mono dn⟩
  · by_cases hj : j = i
    · subst hj; rw [oi] at h2; cases h2
    · rw [oj j hj] at h2
      exact r.ns.frn j b (na j h1) h2
structure Locked (K : PySem.W.Frag) (C : Cn) (ow ow' : Ow) (S : En) (σ : St) (H H' : Hp) (a : Addr) (ks : KsT) (kvs : List (NK × PyData)) : Prop where
  rl : Rl K C ow' S σ H'
  dr : DtR K (av C ow') H' ks kvs
  na : ¬ av C ow' a
  ext : Ext (av C ow) H H'
  grow : Grow (av C ow) (av C ow') H
theorem Rl.lockDt (r : Rl K C ow S σ H) {i : Nat} {kvs : List (NK × PyData)} {ks : KsT} {a : Addr} (h : S[i]? = some (.nst (.dt kvs))) (ha : ow i = some a) (dr : DtR K (av C ow) H ks kvs) (o : HO) :
    Locked K C ow (owSet ow i none) (S.set i .nil) σ H (upd H a o) a ks kvs := by
  have lt : ∀ b, av C (owSet ow i none) b → av C ow b := fun b z => (av_set z).elim id fun z => by cases z
  have ap : av C ow a := .inr ⟨i, ha⟩
  have n := r.ns.frn i a (.inl ⟨_, h⟩) ha
  have sm : Same (del H a) (upd H a o) := by rw [← upd_del2]; exact same_new del_same
  refine ⟨(r.dropDt h ha).same sm, dr.mono fun ws ds q => RDs.mono (Ext.same sm) (Grow.refl _ _) ds ws (RDs.mono (av' := av C (owSet ow i none)) (ext_del ap) (fun b z => .inl (lt b z)) ds ws q), fun z => ?_, fun b x nb e => ?_, fun b z => .inl (lt b z)⟩
  · rcases z with z | ⟨j, z⟩
    · exact n.2 z
    · unfold owSet at z
      by_cases hj : j = i
      · rw [if_pos hj] at z; cases z
      · rw [if_neg hj] at z
        exact hj (r.inj j i a z ha)
  · rw [upd_ne (fun z => nb (by rw [z]; exact ap))]; exact e
end
section
variable {X : Cx} {W : WX} {C : Cn} {pos pos2 apos cpos tp p : Pos} {i j : Nat} {e k v : Expr} {sk se : SE}
/-- name = {k: v} -/
def sDt1 (i : Nat) (sk se : SE) : SS := fun S => (sk S).st fun k S1 => (se S1).st fun d S2 => match toT k with
  | some κ => if noio S2[i]? = true then .nx (S2.set i (.nst (.dt [(κ, d)]))) else .no
  | none => .no
theorem dt_one {K : PySem.W.Frag} {av : Av} {H : Hp} {b : Addr} {y : V} {κ : NK} {d : PyData} (rb : RD K av H (.ref b) (nkD κ)) (hk : ∃ l, κ = .tup l ∧ κ.depth ≤ 8) (r : RD K av H y d) : DtR K av H [(κ, b, y)] [(κ, d)] := .cons rfl rb hk r .nil
theorem s_dt1 {tg : Expr} (hw : C.w = X.w) (hu : X.A.units + 65 < cLine) (hk : PE X k (xE X.K X.mg W C sk)) (hv : PE X v (xE X.K X.mg W C se)) (hp : ∀ {t : TE}, PE X (.Dict [some k] [v] pos2) t → PS X (.Assign [tg] (.Dict [some k] [v] pos2) pos) (tAsg t (gName i))) :
    PS X (.Assign [tg] (.Dict [some k] [v] pos2) pos) (xS X.K X.mg W C (sDt1 i sk se)) :=
  ps_imp (hp (pe_dict1 (by omega) hk hv)) fun D σ H ⟨ow, S, r, q⟩ => seqS r q fun S1 kd x H1 r1 x1 rk k1 => seqS r1 k1 fun S2 d y H2 r2 x2 rd k2 => by
    cases e1 : toT kd with
    | none => rw [e1] at k2; exact k2.elim
    | some κ =>
      rw [e1] at k2
      change sst X.K X.mg W C ow H2 D (if noio S2[i]? = true then .nx (S2.set i (.nst (.dt [(κ, d)]))) else .no) at k2
      by_cases z : noio S2[i]? = true
      · rw [if_pos z] at k2
        obtain ⟨rfl, hl⟩ := toT_some e1
        have rk2 := RD.mono x2 (Grow.refl _ _) _ x rk
        obtain ⟨b, rfl⟩ : ∃ b, x = .ref b := by
          obtain ⟨l, rfl, _⟩ := hl
          rw [nkD] at rk; cases rk; exact ⟨_, rfl⟩
        refine ⟨b, y, _, κ, rfl, rk2, hl.elim fun _ z => z.2, fun p np => ?_⟩
        have r3 := r2.putDt z np (dt_one rk2 hl rd)
        rw [hw] at r3
        exact k2 _ _ _ r3 (Ext.same (same_new np)) (grow_set fun c z => by cases z; exact np)
      · rw [if_neg z] at k2
        exact k2.elim
/-- {k: v} as data -/
def sDictD (sk se : SE) : SE := fun S => (sk S).bind fun k S1 => (se S1).bind fun d S2 => match toT k with
  | some κ => .ok (dtD [(κ, d)]) S2
  | none => .no
/-- name = name2, a slot's dict: it is the new name's -/
def sDtMv (i j : Nat) : SS := fun S => match dtt? S[j]? with
  | some kvs => if i ≠ j ∧ noio S[i]? = true then .nx ((S.set j .nil).set i (.nst (.dt kvs))) else .no
  | none => .no
theorem s_dtMv {tg : Expr} (hw : C.w = X.w) (ho : PE X e (tVar j)) (hp : ∀ {t : TE}, PE X e t → PS X (.Assign [tg] e pos) (tAsg t (gName i))) : PS X (.Assign [tg] e pos) (xS X.K X.mg W C (sDtMv i j)) :=
  ps_imp (hp ho) fun D σ H ⟨ow, S, r, q⟩ => by
    change sst X.K X.mg W C ow H D (sDtMv i j S) at q
    unfold sDtMv at q
    cases e1 : dtt? S[j]? with
    | none => rw [e1] at q; exact q.elim
    | some kvs =>
      rw [e1] at q
      dsimp only at q
      by_cases z : i ≠ j ∧ noio S[i]? = true
      · rw [if_pos z] at q
        obtain ⟨p, ks, h1, h2, h3, h4⟩ := r.ns.dtt j kvs (dtt?_some e1)
        refine ⟨.ref p, h2, ?_⟩
        have lt : ∀ b, av C (owSet ow j none) b → av C ow b := fun b z => (av_set z).elim id fun z => by cases z
        have r1 := r.dropDt (dtt?_some e1) h1
        have dr : DtR X.K (av C (owSet ow j none)) (del H p) ks kvs := h4.mono fun ws ds q => RDs.mono (ext_del (av := av C ow) (.inr ⟨j, h1⟩)) (fun b z => .inl (lt b z)) ds ws q
        have r2 := r1.putDt (i := i) (by rw [List.getElem?_set_ne (Ne.symm z.1)]; exact z.2) del_same dr
        rw [upd_del h3] at r2
        exact q _ _ _ r2 (Ext.refl _ _) fun b y => (av_set y).elim (fun y => .inl (lt b y)) fun y => by cases y; exact .inl (.inr ⟨j, h1⟩)
      · rw [if_neg z] at q
        exact q.elim
/-- sum(d.values()), all of them ints -/
theorem sum_pre : ∀ (ns : List Int), preSum (fun i => (ns[i]?).getD 0) ns.length = ns.sum
  | [] => rfl
  | n :: ns => by
    show preSum (fun i => ((n :: ns)[i]?).getD 0) (ns.length + 1) = (n :: ns).sum
    rw [PySem.W.kdu_shift]
    show n + preSum (fun i => (ns[i]?).getD 0) ns.length = _
    rw [sum_pre ns, List.sum_cons]
theorem pe_sumVals {te : TE} (hc : X.calm = true) (he : PE X e te) (hg : Gl X "sum") (hm : X.mg "sum" = none) (hv : bootBuiltins "sum" = some (.builtin "sum")) (hbase : attributeBase e "values" X.env (eval e X.env) = eval e X.env := by rfl) (hline : (apos.endLine == cpos.line) = true := by rfl)
    (hs : starEach [.Call (.Attribute e "values" apos) [] [] cpos] X.env = (false, eval (.Call (.Attribute e "values" apos) [] [] cpos) X.env) :: starEach [] X.env := by rfl) :
    PE X (.Call (.Name "sum" p) [.Call (.Attribute e "values" apos) [] [] cpos] [] pos) (fun σ H Q => te σ H fun x H1 => ∃ (d : Addr) (ks : KsT) (ns : List Int), x = .ref d ∧ H1 d = some (dtO X.w d ks) ∧ ks.map (·.2.2) = ns.map V.int ∧ Q (.int ns.sum) H1) := by
  refine ⟨fun pins s σ H Q I hq => ?_⟩
  refine wpAny_Call_Name_kw (ld_blt I hg hm hv ?_)
  refine PyProof.Rows.callWith_builtin1 ?_ hs rfl
  rw [hs]
  show wpAny _ _ (spliced ((false, eval (.Call (.Attribute e "values" apos) [] [] cpos) X.env) :: backTo pos (starEach [] X.env))) _ _ s
  refine Calls.spliced_cons ?_
  refine wpAny_Call_method (T := "dict") (id := "dict.values") hbase rfl hline F.plainAttrs_dict F.slot_dict_values F.type_dict_values (thn (he.run pins s σ H _ I hq) fun u s1 ⟨x, H1, I1, rx, d, ks, ns, ex, hd, hns, q⟩ => ?_)
  subst ex
  obtain rfl : u = Value.ref d := rx
  have ok := I1.hok d _ hd
  obtain ⟨⟨hz, hs0, xs, od, es, ep, rel, ho, hx, hdt, hes, _⟩, _⟩ := ok
  have raw : s1.heap.DictRaw d es ep := ⟨od, ho, hx, hdt⟩
  have lk : ks.length = xs.length := Paired.length rel
  have ln : ks.length = ns.length := by have := congrArg List.length hns; rwa [List.length_map, List.length_map] at this
  have le : es.size = xs.length := size_of_entries (hes X.prog)
  have I2 : Inv X pins σ H1 { s1 with heap := s1.heap.push { cls := .type "dict_values", data := .fields #[.ref d] } } := I1.kept (t' := s1.toks) fun b ob q => Heap.get?_push_of_some _ q
  refine ⟨raw.typeIs, fun b z => by cases z; exact ⟨od, ho, hx.2.1⟩, ?_⟩
  show wpAny _ _ (callWith cpos (.builtin "dict.values") [.ref d] [] []) _ X.xe s1
  refine method_meetsIn F.slot_dict_values F.entry_dict_values rfl (PySem.evalArgs_none ⟨rfl, raw.typeIs, F.args_dict_values_1 _, _, meets_dict_values_raw d hz, ⟨es, ep, raw⟩, ?_⟩)
  refine Calls.spliced_nil ?_
  refine call_sum_walkAnyS ?_
  have vv : (Shared.heap { s1 with heap := s1.heap.push { cls := .type "dict_values", data := .fields #[.ref d] } }).IsValuesView s1.heap.objs.size d := ⟨_, Heap.get?_push_size _ rfl, rfl, rfl⟩
  have raw2 := raw.push { cls := .type "dict_values", data := .fields #[.ref d] }
  refine wpAny_pyIter_values_raw vv raw2 ?_
  have hlt := raw2.lt_size
  refine ⟨_, _, _, _, es.size, _, _, fun i => (ns[i]?).getD 0, rfl, (Walks.rawValues (A := X.A.in1) (show X.A.in1.handled = none from I1.ok.hd hc) _ d (Nat.ne_of_lt hlt) es ep).toS, ⟨⟨_, Heap.get?_push_size _ rfl, rfl, rfl⟩, raw2.push _⟩, fun b hb => ?_, fun i v pv => ?_, fun s' t' hm => ?_⟩
  · rcases List.mem_cons.mp hb with e | hb
    · rw [e]; exact Heap.lt_size (Heap.get?_push_size _ rfl)
    · rw [List.mem_singleton.mp hb]; exact Nat.lt_trans hlt (Heap.lt_size (Heap.get?_push_size _ rfl))
  · obtain ⟨hi, ev⟩ := pv
    obtain ⟨q, hq⟩ : ∃ q, ks[i]? = some q := ⟨ks[i]'(by omega), List.getElem?_eq_getElem (by omega)⟩
    obtain ⟨b, hb, e1, e2, e3⟩ := paired_get rel hq
    have en := entry_at (hes X.prog) i
    rw [hb, Array.getElem?_eq_getElem hi, Option.map_some] at en
    have en' := Option.some.inj en
    have hn : (ks.map (·.2.2))[i]? = some q.2.2 := by rw [List.getElem?_map, hq]; rfl
    rw [hns, List.getElem?_map] at hn
    cases e4 : ns[i]? with
    | none => rw [e4] at hn; cases hn
    | some m =>
      rw [e4] at hn
      have e5 : q.2.2 = V.int m := (Option.some.inj hn).symm
      rw [e5] at e3
      obtain ⟨t, e6⟩ := e3
      refine ⟨t, ?_⟩
      rw [ev, en']
      show b.2.2 = _
      rw [e6]
      show Value.int m t = Value.int ((ns[i]?).getD 0) t
      rw [e4]
      rfl
  · have hk : ∀ b o, (s1.heap.push { cls := .type "dict_values", data := .fields #[.ref d] }).get? b = some o → s'.heap.get? b = some o := fun b o e =>
      hm.heap b o (fun hI => absurd (Heap.lt_size e) (by rw [List.mem_singleton.mp hI]; exact Nat.lt_irrefl _)) (Heap.get?_push_of_some _ e)
    rw [Moved.eq_with hm]
    have e0 : preSum (fun i => (ns[i]?).getD 0) es.size = ns.sum := by rw [le, ← lk, ln]; exact sum_pre ns
    rw [e0]
    exact ⟨.int ns.sum, H1, I2.kept (t' := s'.toks) hk, ⟨t', rfl⟩, q⟩
def sSumT (i : Nat) : SE := fun S => match dtt? S[i]? with
  | some kvs => match intsOf (kvs.map (·.2)) with
    | some ns => .ok (.int ns.sum) S
    | none => .no
  | none => .no
theorem ints_rd {K : PySem.W.Frag} {av : Av} {H : Hp} : ∀ {ds : List PyData} {vs : List V} {ns : List Int}, RDs K av H vs ds → intsOf ds = some ns → vs = ns.map V.int
  | [], _, _, h, e => by cases h; cases e; rfl
  | d :: ds, _, ns, h, e => by
    cases h with
    | cons h1 h2 =>
      cases d with
      | int m =>
        cases h1
        unfold intsOf at e
        cases e1 : intsOf ds with
        | none => simp [e1] at e
        | some l =>
          simp [e1] at e
          subst e
          rw [ints_rd h2 e1]; rfl
      | _ => simp [intsOf] at e
theorem e_sumT (hw : C.w = X.w) (hc : X.calm = true) (ho : PE X e (tVar i)) (hg : Gl X "sum") (hm : X.mg "sum" = none) (hbase : attributeBase e "values" X.env (eval e X.env) = eval e X.env := by rfl) (hline : (apos.endLine == cpos.line) = true := by rfl)
    (hs : starEach [.Call (.Attribute e "values" apos) [] [] cpos] X.env = (false, eval (.Call (.Attribute e "values" apos) [] [] cpos) X.env) :: starEach [] X.env := by rfl) :
    PE X (.Call (.Name "sum" p) [.Call (.Attribute e "values" apos) [] [] cpos] [] pos) (xE X.K X.mg W C (sSumT i)) :=
  pe_imp (pe_sumVals hc ho hg hm (by decide +kernel) hbase hline hs) fun σ H Q ⟨ow, S, r, q⟩ => by
    change pst X.K X.mg W C (relE X.K) ow σ H Q (sSumT i S) at q
    unfold sSumT at q
    cases e1 : dtt? S[i]? with
    | none => rw [e1] at q; exact q.elim
    | some kvs =>
      rw [e1] at q
      dsimp only at q
      cases e2 : intsOf (kvs.map (·.2)) with
      | none => rw [e2] at q; exact q.elim
      | some ns =>
        rw [e2] at q
        obtain ⟨p, ks, h1, h2, h3, h4⟩ := r.ns.dtt i kvs (dtt?_some e1)
        rw [hw] at h3
        exact ⟨.ref p, h2, p, ks, ns, rfl, h3, ints_rd h4.val e2, pst_ok r q (.int _)⟩
end
section
variable {X : Cx} {W : WX} {C : Cn} {pos apos cpos tp : Pos} {el : List Expr} {kk : Nat} {i : Nat} {e : Expr} {se : SE}
/-- for .. in d.items(), a slot's dict, which is given up -/
def sForT (i : Nat) (g : GT) (b : SS) : SS := fun S => match dtt? S[i]? with
  | some kvs => loopL g b (itsT kvs) (S.set i .nil)
  | none => .no
theorem s_forT {body : List Stmt} {g : GT} {sb : SS} {ts : List Nat} (hw : C.w = X.w) (hp : PassesOwn (model X.prog X.w) X.A X.env X.xe) (hc : X.calm = true) (hpl : Plain g) (ho : PE X e (tVar i)) (hg : PG X (.Tuple el kk tp) (xT X.K C g ts)) (hb : PSs X body (xS X.K X.mg W C sb))
    (hbase : attributeBase e "items" X.env (eval e X.env) = eval e X.env := by rfl) (hline : (apos.endLine == cpos.line) = true := by rfl)
    (hs : ∀ x, foldedSetIterable (.Call (.Attribute e "items" apos) [] [] cpos) X.env x = pure x := by intro _; rfl) : PS X (.For (.Tuple el kk tp) (.Call (.Attribute e "items" apos) [] [] cpos) body [] pos) (xS X.K X.mg W C (sForT i g sb)) :=
  ps_imp (ps_for hp hc (pi_itemsO ho hbase hline) hg hb hs) fun D σ H ⟨ow0, S0, r0, q⟩ => by
    change sst X.K X.mg W C ow0 H D (sForT i g sb S0) at q
    unfold sForT at q
    cases e1 : dtt? S0[i]? with
    | none => rw [e1] at q; exact q.elim
    | some kvs =>
    rw [e1] at q
    dsimp only at q
    obtain ⟨p, ks, h1, h2, h3, h4⟩ := r0.ns.dtt i kvs (dtt?_some e1)
    rw [hw] at h3
    refine ⟨.ref p, h2, p, ks, rfl, h3, fun o => ?_⟩
    have L := r0.lockDt (dtt?_some e1) h1 h4 (.frz o (dtO X.w p ks))
    generalize eow : owSet ow0 i none = ow at L
    generalize eS : S0.set i .nil = S1 at L q
    generalize eH : upd H p (.frz o (dtO X.w p ks)) = H1 at L
    have r1 := L.rl
    have k : sst X.K X.mg W C ow H1 D (loopL g sb (itsT kvs) S1) := sst_from L.ext L.grow q
    have id : ItD X.K (Itd X.w p o ks) (av C ow) H1 (itsT kvs) := itd_itemsX (by rw [← eH]; exact upd_same) L.na L.dr
    generalize itsT kvs = ds at k id
    refine ⟨fun i m σ2 H2 => m = ds.length - i ∧ i ≤ ds.length ∧ ∃ ow2 S2, Rl X.K C ow2 S2 σ2 H2 ∧ Ext (av C ow) H1 H2 ∧ Grow (av C ow) (av C ow2) H1 ∧ sst X.K X.mg W C ow2 H2 D (loopL g sb (ds.drop i) S2),
      ⟨ds.length, by omega, by omega, ow, S1, r1, Ext.refl _ _, Grow.refl _ _, k⟩, ?_⟩
    rintro i m σ2 H2 ⟨rfl, hi, ow2, S2, r2, x2, g2, k2⟩
    obtain ⟨w1, w2, w3⟩ := id (av C ow2) H2 x2 g2 rfl r2.tracked
    by_cases hlt : i < ds.length
    · refine .inr ⟨w1 i hlt, _, fun σ3 H3 z => ⟨ds.length - (i + 1), by omega, z⟩, fun v H3 y => ?_⟩
      have ed : ds[i]? = some ds[i] := List.getElem?_eq_getElem hlt
      obtain ⟨sm, rd⟩ := w3 i ds[i] v H3 ed y
      rw [List.drop_eq_getElem_cons hlt] at k2
      unfold loopL at k2
      refine ⟨ow2, S2, ds[i], r2.same sm, rd, ?_⟩
      rcases hpl ds[i] S2 with ⟨S3, e⟩ | e
      · rw [e] at k2 ⊢
        intro σ3 H4 r3 x3 _
        have x23 : Ext (av C ow2) H2 H4 := (Ext.same sm).trans (Grow.refl _ _) x3
        have g23 : Grow (av C ow2) (av C ow2) H2 := Grow.refl _ _
        refine ⟨ow2, S3, r3, ?_⟩
        have k3 := sst_from x23 g23 k2
        dsimp only at k3
        cases eb : sb S3 with
        | nx S4 =>
          rw [eb] at k3
          exact fun ow4 σ4 H5 r4 x4 g4 => ⟨rfl, hlt, ow4, S4, r4, (x2.trans g2 (x23.trans g23 x4)), g2.trans x2 (g23.trans x23 g4), sst_from x4 g4 k3⟩
        | ct S4 =>
          rw [eb] at k3
          exact fun ow4 σ4 H5 r4 x4 g4 => ⟨rfl, hlt, ow4, S4, r4, (x2.trans g2 (x23.trans g23 x4)), g2.trans x2 (g23.trans x23 g4), sst_from x4 g4 k3⟩
        | bk S4 => rw [eb] at k3; exact k3
        | rt v S4 => rw [eb] at k3; exact k3
        | ex c S4 => rw [eb] at k3; exact k3
        | no => rw [eb] at k3; exact k3
      · rw [e] at k2
        exact k2.elim
    · have e : i = ds.length := by omega
      subst e
      rw [List.drop_length] at k2
      exact .inl ⟨w2, k2 ow2 σ2 H2 r2 (Ext.refl _ _) (Grow.refl _ _)⟩
/-- for .. in d.items(), d such data -/
def itsD : PyData → Option (List PyData)
  | .dict ((.tuple t, x) :: r) => some (((.tuple t, x) :: r).map fun q => .tuple [q.1, q.2])
  | _ => none
def sIDtI (se : SE) : SN := fun S => (se S).bind fun d S1 => R.opt (itsD d) S1
end
@[simp] theorem r_sDt1 {i : Nat} {sk se : SE} {S : En} : sDt1 i sk se S = ((sk S).stt fun k S1 => (se S1).stt fun d S2 => match toT k with
  | some κ => if noio S2[i]? = true then .nx (S2.set i (.nst (.dt [(κ, d)]))) else .no
  | none => .no) := rfl
@[simp] theorem r_sDtMv {i j : Nat} {S : En} : sDtMv i j S = (match dtt? S[j]? with
  | some kvs => if i ≠ j ∧ noio S[i]? = true then .nx ((S.set j .nil).set i (.nst (.dt kvs))) else .no
  | none => .no) := rfl
@[simp] theorem r_sSumT {i : Nat} {S : En} : sSumT i S = (match dtt? S[i]? with
  | some kvs => match intsOf (kvs.map (·.2)) with
    | some ns => .ok (.int ns.sum) S
    | none => .no
  | none => .no) := rfl
@[simp] theorem r_sForT {i : Nat} {g : GT} {b : SS} {S : En} : sForT i g b S = (match dtt? S[i]? with
  | some kvs => loopL g b (itsT kvs) (S.set i .nil)
  | none => .no) := rfl
@[simp] theorem r_sIDtI {se : SE} {S : En} : sIDtI se S = ((se S).bnd fun d S1 => R.opt (itsD d) S1) := rfl
@[simp] theorem r_sDictD {sk se : SE} {S : En} : sDictD sk se S = ((sk S).bnd fun k S1 => (se S1).bnd fun d S2 => match toT k with
  | some κ => .ok (dtD [(κ, d)]) S2
  | none => .no) := rfl
end Ds
end
section
set_option Elab.async false
set_option linter.all false
set_option maxRecDepth 100000
set_option maxHeartbeats 4000000
namespace Ds
open PySem PySem.Spec PyProof.Rows L2
section
variable {X : Cx} {W : WX} {C : Cn} {pos pos2 : Pos} {i j : Nat}
def sParVD (i j : Nat) (s1 : SE) : SS := fun S => (s1 S).st fun d S2 => match put i (.val d) S2 with
  | .nx S3 => if noio S3[j]? = true then .nx (S3.set j (.nst (.dt []))) else .no
  | _ => .no
theorem s_parVDc {e1 : Expr} {s1 : SE} {tgs : List Expr} {k2 pt2} (hw : C.w = X.w) (h1 : PE X e1 (xE X.K X.mg W C s1))
    (hp : ∀ {t u : TE}, PE X e1 t → PE X (.Dict [] [] pos2) u → PS X (.Assign tgs (.Tuple [e1, .Dict [] [] pos2] k2 pt2) pos) (tAsg (tTup (tCons t (tCons u tNil))) (gTup X.K 2 (gCons (gName i) (gCons (gName j) gNil))))) : PS X (.Assign tgs (.Tuple [e1, .Dict [] [] pos2] k2 pt2) pos) (xS X.K X.mg W C (sParVD i j s1)) :=
  ps_imp (hp h1 pe_dnewX) fun D σ H ⟨ow, S, r, q⟩ => by
    change sst X.K X.mg W C ow H D ((s1 S).st fun d S2 => match put i (.val d) S2 with | .nx S3 => if noio S3[j]? = true then .nx (S3.set j (.nst (.dt []))) else .no | _ => .no) at q
    refine ⟨ow, S, r, ?_⟩
    show pst X.K X.mg W C (relE X.K) ow σ H _ (s1 S)
    cases ea : s1 S with
    | no => rw [ea] at q; exact q
    | ex c S' => rw [ea] at q; exact fun H' r' x => q ow σ H' r' x (Grow.refl _ _)
    | ok d S2 =>
      rw [ea, st_ok] at q
      rintro v Hn r2 x1 rd b g2
      refine ⟨by rw [sizeLine_eq]; simp, fun p np => ⟨p, [v, .ref b], rfl, .inl (.inl (by simp [upd])), rfl, v, [.ref b], rfl, .ref b, [], rfl, rfl, ?_⟩⟩
      unfold put at q
      by_cases hi : noio S2[i]? = true
      · simp only [if_pos hi] at q
        by_cases hj : noio (S2.set i (.val d))[j]? = true
        · simp only [if_pos hj] at q
          have rv := r2.putV hi rd
          have rb := rv.putDt (i := j) hj g2 (DtR.nil (K := X.K) (av := av C (owSet ow i none)) (Hh := Hn))
          rw [hw] at rb
          refine q _ _ _ (rb.same (same_new np)) ((x1.trans (Grow.refl _ _) (Ext.same (same_new g2))).trans (Grow.refl _ _) (Ext.same (same_new np))) ?_
          exact Grow.trans (Grow.refl _ _) x1 ((grow_set fun a z => by cases z).trans (Ext.refl _ _) (grow_set fun c z => by cases z; exact g2))
        · simp only [if_neg hj] at q
          exact q.elim
      · simp only [if_neg hi] at q
        exact q.elim
end
@[simp] theorem r_sParVD {i j : Nat} {s1 : SE} {S : En} : sParVD i j s1 S = ((s1 S).stt fun d S2 => match put i (.val d) S2 with
  | .nx S3 => if noio S3[j]? = true then .nx (S3.set j (.nst (.dt []))) else .no
  | _ => .no) := rfl
end Ds
end
section
set_option linter.all false
set_option Elab.async false
set_option maxRecDepth 100000
open PySem PySem.Spec PyProof.Rows L2
namespace Ds
def c_next_calls : SS :=
  (sSeq (sSetNew 2 (sLst sNil))
  (sSeq (sFor (sISq (sVar 1)) (gNm 3)
    (sSeq (sSet 4 (sAndV (sBin gGt (sVar 3) (sK (.int 0))) (sBin (gInT false) (sBin gIx (sVar 0) (sBin gSub_ (sVar 3) (sK (.int 1)))) (sVar 1))))
    (sSeq (sSet 5 (sIfE (sTst (sVar 4)) (sBin gIx (sVar 0) (sBin gSub_ (sVar 3) (sK (.int 1)))) (sVar 3)))
    (sDrop (sAppend 2 (sTup (sCons (sVar 3) (sCons (sVar 4) (sCons (sRd lTup (sLc (sISq (sVar 1)) (gNm 6) (sTst (sBin gNe (sVar 6) (sVar 5))) (sVar 6) [6])) sNil)))))))))
  (sRetOwn 2)))
def m_next_calls : Mf := mB 7 c_next_calls
end Ds
end
section
set_option linter.all false
set_option Elab.async false
set_option maxRecDepth 100000
open PySem PySem.Spec PyProof.Rows L2
namespace Ds
def c__law_allP : SS :=
  (sSeq (sSet 1 (sNE (sLst (sCons (sTup sNil) sNil))))
  (sSeq (sFor (sRng1 (sCons (sCallB gLen (sCons (sVar 0) sNil)) sNil)) (gNm 2)
    (sSeq (sSetNew 3 (sLst sNil))
    (sSeq (sFor (sISq (sVar 1)) (gNm 4)
      (sDrop (sExt 3 (sNE (sLc (sISq (sVar 0)) (gNm 5) (sTst (sBin (gInT true) (sVar 5) (sVar 4))) (sBin gAdd (sVar 4) (sTup (sCons (sVar 5) sNil))) [5])))))
    (sFrz 3 (sSet 1 (sVar 3))))))
  (sRet (sVar 1))))
def m__law_allP : Mf := mB 6 c__law_allP
def c__law_depthsP : SS :=
  (sSeq (sSetNew 1 (sLst (sCons (sK (.int 0)) sNil)))
  (sSeq (sFor (sISq (sVar 0)) (gNm 2)
    (sDrop (sAppend 1 (sBin gAdd (sIxV 1 (sVar 2)) (sK (.int 1))))))
  (sRetOwn 1)))
def m__law_depthsP : Mf := mB 3 c__law_depthsP
def c__law_costsP : SS :=
  (sSeq (sPar 5 6 (sListN (sCons (sVar 2) sNil)) (sLst sNil))
  (sSeq (sFor (sISq (sVar 3)) (gNm 4)
    (sSeq (sSet 7 (sLixV 5 (sVar 4)))
    (sSeq (sDrop (sAppend 6 (sBin gIx (sVar 1) (sVar 7))))
    (sIf (sTst (sBin gGt (sVar 7) (sK (.int 0))))
      (sSeq (sSet 8 (sBin gIx (sVar 0) (sBin gSub_ (sVar 7) (sK (.int 1)))))
      (sAsg (gTp (gNC (gSubI 5 (sVar 7)) (gNC (gSubI 5 (sVar 8)) gN0))) (sTup (sCons (sIxV 5 (sVar 8)) (sCons (sVar 4) sNil)))))
      sNx))))
  (sRet (sRd lTup (sLVar 6)))))
def m__law_costsP : Mf := mB 9 c__law_costsP
def c_need_costs : SS :=
  (sSeq (sIf (sOr (sNot (sTst (sIsi "tuple" (sVar 1)))) (sTst (sBin gNe (sCallB gLen (sCons (sVar 1) sNil)) (sCallB gLen (sCons (sVar 0) sNil)))))
    sStop
    sNx)
  (sIf (sNot (sTst (sRd lAll (sLc (sISq (sVar 1)) (gNm 2) sYes (sAndV (sCallV m_is_whole (sGv (sVar 2) sG0)) (sBin gGe (sVar 2) (sK (.int 0)))) [2]))))
    sStop
    sNx))
def m_need_costs : Mf := mB 3 c_need_costs
def c_count_with_costs : SS :=
  (sSeq (sDrop (sCallV m_need_order (sGv (sVar 0) (sGv (sVar 1) (sGv (sVar 2) sG0)))))
  (sSeq (sDrop (sCallV m_need_costs (sGv (sVar 2) (sGv (sVar 3) sG0))))
  (sSeq (sIf (sTst (sBin gGt (sCallB gLen (sCons (sVar 1) sNil)) (sK (.int 7))))
    sStop
    sNx)
  (sSeq (sSet 4 (sNE (sCallN m_depths (sGv (sVar 0) sG0))))
  (sSeq (sDt1 5 (sTupRg (sCallB gLen (sCons (sVar 1) sNil))) (sK (.int 1)))
  (sSeq (sFor (sISq (sVar 3)) (gNm 6)
    (sSeq (sDtNew 7)
    (sSeq (sForT 5 (gTp (gNC (gNm 8) (gNC (gNm 9) gN0)))
      (sFor (sIL (sNE (sCallN m_next_calls (sGv (sVar 0) (sGv (sVar 8) sG0))))) (gTp (gNC (gNm 10) (gNC (gNm 11) (gNC (gNm 12) gN0))))
        (sIf (sTst (sBin gEq (sBin gIx (sVar 4) (sVar 10)) (sVar 6)))
          (sDtPt 7 (sVar 12) (sBin gAdd (sDtGd 7 (sVar 12) (sK (.int 0))) (sVar 9)))
          sNx)))
    (sDtMv 5 7))))
  (sRet (sBin gMul (sSumT 5) (sCallB gFac (sCons (sBin gSub_ (sCallB gLen (sCons (sVar 1) sNil)) (sCallB gLen (sCons (sVar 2) sNil))) sNil))))))))))
def m_count_with_costs : Mf := mB 13 c_count_with_costs
def c__law_rightP : SS :=
  (sSeq (sSet 2 (sCallV m__law_officeP (sGr 0 (sGv (sVar 1) sG0))))
  (sSeq (loopW (sAnd (sTst (sBin gEq (sVar 1) (sK (.int 7)))) (sTst (sBin gLt (sCallB gLen (sCons (sVar 2) sNil)) (sK (.int 6)))))
    (sSet 2 (sBin gAdd (sVar 2) (sTup (sCons (sCallV m__law_drawP (sGr 0 (sGv (sBin gAdd (sCallB gLen (sCons (sVar 2) sNil)) (sK (.int 1))) sG0))) sNil)))) 100)
  (sSeq (sSet 3 (sCallV m__law_namesP (sGr 0 (sGv (sBin gAdd (sCallB gLen (sCons (sVar 2) sNil)) (sK (.int 1))) sG0))))
  (sSeq (sSet 4 (sCallB gTupT (sCons (sCut (sNE (sCallN m__law_mixedP (sGr 0 (sGv (sVar 3) sG0)))) sP0 (sP1 (sBin gSub_ (sCallB gLen (sCons (sVar 3) sNil)) (sCallV m__law_drawP (sGr 0 (sGv (sBin gIx (sNE (sLst (sCons (sK (.int 1)) (sCons (sBin gAdd (sCallB gLen (sCons (sVar 3) sNil)) (sK (.int 1))) sNil)))) (sCallV m__law_drawP (sGr 0 (sGv (sK (.int 2)) sG0)))) sG0)))))) sNil)))
  (sSeq (sParVD 10 11 (sNE (sCallN m__law_depthsP (sGv (sVar 2) sG0))))
  (sSeq (sFor (sISq (sCallV m__law_allP (sGv (sVar 3) sG0))) (gNm 5)
    (sSeq (sSet 9 (sCallV m__law_costsP (sGv (sVar 2) (sGv (sVar 10) (sGv (sVar 5) (sGv (sVar 4) sG0))))))
    (sDtPt 11 (sVar 9) (sBin gAdd (sDtGd 11 (sVar 9) (sK (.int 0))) (sK (.int 1))))))
  (sSeq (sSetNew 6 (sLc (sRng1 (sCons (sK (.int 3)) sNil)) (gNm 7) sYes (sCallV m__law_costsP (sGv (sVar 2) (sGv (sVar 10) (sGv (sRd lTup (sCallN m__law_mixedP (sGr 0 (sGv (sVar 3) sG0)))) (sGv (sVar 4) sG0))))) [7]))
  (sSeq (sFor (sRng1 (sCons (sK (.int 4)) sNil)) (gNm 7)
    (sSeq (sSetNew 12 (sListN (sCons (sIxV 6 (sBin gMod (sVar 7) (sK (.int 3)))) sNil)))
    (sSeq (sFor (sRng1 (sCons (sBin gMul (sBin gAdd (sK (.int 1)) (sCallV m__law_drawP (sGr 0 (sGv (sK (.int 3)) sG0)))) (sCallB gInt1 (sCons (sBin gNe (sVar 4) (sTup sNil)) sNil))) sNil)) (gNm 13)
      (sSetIx 12 (sCallV m__law_drawP (sGr 0 (sGv (sRd lLen (sLVar 12)) sG0))) (sCallV m__law_drawP (sGr 0 (sGv (sBin gAdd (sRd lMax (sLVar 10)) (sK (.int 2))) sG0)))))
    (sDrop (sAppend 6 (sRd lTup (sLVar 12)))))))
  (sSeq (sIf (sTst (sBin gNe (sVar 4) (sTup sNil)))
    (sSetNew 6 (sCatV 6 (sNE (sLst (sCons (sBin gAdd (sCut (sIxV 6 (sK (.int 0))) sP0 (sP1 (sNeg (sK (.int 1))))) (sTup (sCons (sBin gPow (sK (.int 10)) (sK (.int 36))) sNil))) (sCons (sBin gAdd (sTup (sCons (sBin gAdd (sBin gAdd (sCallB gLen (sCons (sVar 3) sNil)) (sK (.int 1))) (sCallV m__law_drawP (sGr 0 (sGv (sK (.int 50)) sG0)))) sNil)) (sCut (sIxV 6 (sK (.int 1))) (sP1 (sK (.int 1))) sP0)) sNil))))))
    sNx)
  (sFrz 6 (sSeq (sSet 8 (sRd lRepr (sLst (sCons (sVar 2) (sCons (sVar 3) (sCons (sVar 4) (sCons (sVar 6) sNil)))))))
  (sSeq (sFor (sIL (sVar 6)) (gNm 9)
    (sSeq (sSet 14 (sDtGd 11 (sVar 9) (sK (.int 0))))
    (sSeq (sSetNew 15 (sLst (sCons (sCallV m_count_with_costs (sGv (sVar 2) (sGv (sVar 3) (sGv (sVar 4) (sGv (sVar 9) sG0))))) sNil)))
    (sSeq (sDrop (sAppend 15 (sCallV m_count_with_costs (sGv (sVar 2) (sGv (sRd lTup (sCallN m__law_mixedP (sGr 0 (sGv (sVar 3) sG0)))) (sGv (sVar 4) (sGv (sVar 9) sG0)))))))
    (sIf (sTst (sBin gNe (sRd lRepr (sLVar 15)) (sRd lRepr (sLst (sCons (sVar 14) (sCons (sVar 14) sNil))))))
      (sRet (sK (.bool false)))
      sNx)))))
  (sRet (sBin gEq (sRd lRepr (sLst (sCons (sVar 2) (sCons (sVar 3) (sCons (sVar 4) (sCons (sVar 6) sNil)))))) (sVar 8)))))))))))))))
def m__law_rightP : Mf := mB 16 c__law_rightP
def c_law : SS :=
  (sSeq (sFor (sRng1 (sCons (sCallB gMax (sCons (sK (.int 1)) (sCons (sCallB gMin (sCons (sK (.int 3)) (sCons (sCallB gLenS (sCons (sVar 0) sNil)) sNil))) sNil))) sNil)) (gNm 1)
    (sSeq (sSetNew 2 (sCallN m__law_potP (sGv (sVar 0) (sGv (sVar 1) sG0))))
    (sIf (sOr (sNot (sTst (sCallV m__law_rightP (sGr 2 (sGv (sBin gIx (sNE (sLst (sCons (sK (.int 6)) (sCons (sK (.int 7)) sNil)))) (sCallB gInt1 (sCons (sBin gEq (sVar 1) (sK (.int 0))) sNil))) sG0))))) (sNot (sTst (sCallV m__law_rightP (sGr 2 (sGv (sK (.int 5)) sG0))))))
      (sRet (sK (.bool false)))
      sNx)))
  (sRet (sBin gEq (sCallV m_count_with_costs (sGv (sTup (sCons (sK (.int 0)) (sCons (sK (.int 0)) (sCons (sK (.int 2)) sNil)))) (sGv (sCallB gTupSt (sCons (sK (.str (Str.ofString "dcba"))) sNil)) (sGv (sCallB gTupSt (sCons (sK (.str (Str.ofString "abcd"))) sNil)) (sGv (sTup (sCons (sK (.int 0)) (sCons (sK (.int 1)) (sCons (sK (.int 1)) (sCons (sK (.int 2)) sNil))))) sG0))))) (sK (.int 2)))))
def m_law : Mf := mB 3 c_law
end Ds
end
section
set_option linter.all false
set_option maxRecDepth 100000
set_option maxHeartbeats 1000000
open PySem PySem.Spec PyProof.Rows L2
namespace Ds
theorem hr100 {k : Nat} {A : Around} (r : Room k A) : A.units + 100 < cLine := by have := r.un; omega
theorem hr65 {k : Nat} {A : Around} (r : Room k A) : A.units + 65 < cLine := by have := r.un; omega
def topS (i : Nat) : Stmt := PySem.Challenge.pw_deskswaps_k43_seatings_with_costs.main.body.getD i (.Pass ⟨0, 0, 0, 0⟩)
section
variable {P : Program} {w : World} {K : PySem.W.Frag} {mg : Str → Option Value} {base : Heap}
abbrev S_is_whole : Stmt := topS 11
abbrev N_is_whole : List Str := ["value"]
theorem sc_is_whole : FnScope N_is_whole ["value"] (defScope S_is_whole) := ⟨rfl, rfl, rfl, by decide +kernel, rfl, by decide +kernel, by decide +kernel⟩
theorem ok_is_whole {f : Addr} {fd : FuncData} (F : Fun K "is_whole" "is_whole" S_is_whole f fd)
    (z_isinstance : mg "isinstance" = none)
    (z_int : mg "int" = none)
    (z_bool : mg "bool" = none) : FnG P w K mg base 1 f fd ["value"] (spM K mg m_is_whole 1) :=
  fn_ok F sc_is_whole fun cdv A outer sh H E C gd hr => (s_one (s_ret (e_and (e_isi rfl z_isinstance (e_var (i := 0) (pv 0)) (pe_bltn (v := .ty "int") rfl z_int (by decide +kernel) rfl)) (pe_one (e_not (e_isi rfl z_isinstance (e_var (i := 0) (pv 0)) (pe_bltn (v := .ty "bool") rfl z_bool (by decide +kernel) rfl)))))))
abbrev S_is_name : Stmt := topS 13
abbrev N_is_name : List Str := ["value", "letter"]
theorem sc_is_name : FnScope N_is_name ["value"] (defScope S_is_name) := ⟨rfl, rfl, rfl, by decide +kernel, rfl, by decide +kernel, by decide +kernel⟩
theorem ok_is_name {f : Addr} {fd : FuncData} (F : Fun K "is_name" "is_name" S_is_name f fd)
    (z_all : mg "all" = none)
    (z_isinstance : mg "isinstance" = none)
    (z_str : mg "str" = none)
    (z_len : mg "len" = none)
    {t_LONGEST_NAME : Tok} (z_LONGEST_NAME : mg "LONGEST_NAME" = some (.int 8 t_LONGEST_NAME))
    {t_LETTERS : Tok} (z_LETTERS : mg "LETTERS" = some (.str (Str.ofString "abcdefghijklmnopqrstuvwxyz") t_LETTERS)) : FnG P w K mg base 1 f fd ["value"] (spM K mg m_is_name 1) :=
  fn_ok F sc_is_name fun cdv A outer sh H E C gd hr => (s_cons (s_if (PW.pt (w_or (t_not (t_val (e_isi rfl z_isinstance (e_var (i := 0) (pv 0)) (pe_bltn (v := .ty "str") rfl z_str (by decide +kernel) rfl)))) (pw_or1 (t_not (t_chain op_le op_le od_le od_le e_int (e_callB call_len cd_len rfl z_len (by decide +kernel) (a_cons (e_var (i := 0) (pv 0)) a_nil)) (e_con (d := .int 8) (v := .int 8) (pe_glob rfl z_LONGEST_NAME ⟨_, rfl⟩) (fun _ _ => .int _)))))))
    (s_one (s_ret e_bl))
    s_nil)
  (s_one (s_ret (e_rdB (cr_all rfl) ld_all rfl z_all (by decide +kernel) (l_of_n (n_lc rfl sc_is_name.nd (own := [("letter", 1)]) plain_nm (by decide) (i_str (e_var (i := 0) (pv 0))) (blkOk_by (own := [("letter", 1)]) (N := N_is_name) (sc := defScope S_is_name) (by decide +kernel)) (fun _ _ _ _ _ _ => (g_name (pg_name (i := 1) sc_is_name.nd rfl (by first | exact Or.inl rfl | exact Or.inr rfl)))) (fun _ _ _ _ _ _ => ts_nil) (fun _ _ _ _ _ _ => (e_cmp op_in_str od_in (e_var (i := 1) (pv 1)) (e_con (d := .str (Str.ofString "abcdefghijklmnopqrstuvwxyz")) (v := .str (Str.ofString "abcdefghijklmnopqrstuvwxyz")) (pe_glob rfl z_LETTERS ⟨_, rfl⟩) (fun _ _ => .str _)) rfl))))))))
abbrev S_depths : Stmt := topS 25
abbrev N_depths : List Str := ["office", "found", "upper"]
theorem sc_depths : FnScope N_depths ["office"] (defScope S_depths) := ⟨rfl, rfl, rfl, by decide +kernel, rfl, by decide +kernel, by decide +kernel⟩
theorem ok_depths {f : Addr} {fd : FuncData} (F : Fun K "depths" "depths" S_depths f fd) : FnG P w K mg base 1 f fd ["office"] (spM K mg m_depths 1) :=
  fn_ok F sc_depths fun cdv A outer sh H E C gd hr => (s_cons (s_setNew (i := 1) (n_lst (a_cons e_int a_nil)) (fun h => ps_set (i := 1) sc_depths.nd rfl (by first | exact Or.inl rfl | exact Or.inr rfl) h))
  (s_cons (s_for (passes_of rfl) rfl plain_nm (i_seq (e_var (i := 0) (pv 0))) (g_name (pg_name (i := 2) sc_depths.nd rfl (by first | exact Or.inl rfl | exact Or.inr rfl)))
    (s_one (s_expr (e_app (i := 1) (fun h => pe_bm PySem.F.plainAttrs_list PySem.F.slot_list_append PySem.F.type_list_append mt_append (pv 1) (pa_cons h pa_nil)) (e_bin or_add od_add (e_ixV (i := 1) (pv 1) (e_var (i := 2) (pv 2)) (fun _ _ => rfl)) e_int)))))
  (s_one (s_retOwn (i := 1) (pv 1)))))
abbrev S_next_calls : Stmt := topS 27
abbrev N_next_calls : List Str := ["office", "waiting", "found", "desk", "passed", "gone", "one"]
theorem sc_next_calls : FnScope N_next_calls ["office", "waiting"] (defScope S_next_calls) := ⟨rfl, rfl, rfl, by decide +kernel, rfl, by decide +kernel, by decide +kernel⟩
theorem ok_next_calls {f : Addr} {fd : FuncData} (F : Fun K "next_calls" "next_calls" S_next_calls f fd)
    (z_tuple : mg "tuple" = none) : FnG P w K mg base 1 f fd ["office", "waiting"] (spM K mg m_next_calls 2) :=
  fn_ok F sc_next_calls fun cdv A outer sh H E C gd hr => (s_cons (s_setNew (i := 2) (n_lst a_nil) (fun h => ps_set (i := 2) sc_next_calls.nd rfl (by first | exact Or.inl rfl | exact Or.inr rfl) h))
  (s_cons (s_for (passes_of rfl) rfl plain_nm (i_seq (e_var (i := 1) (pv 1))) (g_name (pg_name (i := 3) sc_next_calls.nd rfl (by first | exact Or.inl rfl | exact Or.inr rfl)))
    (s_cons (s_set (i := 4) (e_and (e_cmp op_gt od_gt (e_var (i := 3) (pv 3)) e_int (nomark _)) (pe_one (e_cmp op_in_seq (od_inT false) (e_ix ix_seq od_ix (e_var (i := 0) (pv 0)) (e_bin op_sub od_sub (e_var (i := 3) (pv 3)) e_int) (fun _ _ => rfl)) (e_var (i := 1) (pv 1)) rfl))) (fun h => ps_set (i := 4) sc_next_calls.nd rfl (by first | exact Or.inl rfl | exact Or.inr rfl) h))
    (s_cons (s_set (i := 5) (e_if (t_val (e_var (i := 4) (pv 4))) (e_ix ix_seq od_ix (e_var (i := 0) (pv 0)) (e_bin op_sub od_sub (e_var (i := 3) (pv 3)) e_int) (fun _ _ => rfl)) (e_var (i := 3) (pv 3))) (fun h => ps_set (i := 5) sc_next_calls.nd rfl (by first | exact Or.inl rfl | exact Or.inr rfl) h))
    (s_one (s_expr (e_app (i := 2) (fun h => pe_bm PySem.F.plainAttrs_list PySem.F.slot_list_append PySem.F.type_list_append mt_append (pv 2) (pa_cons h pa_nil)) (e_tup (a_cons (e_var (i := 3) (pv 3)) (a_cons (e_var (i := 4) (pv 4)) (a_cons (e_rdT call_tupF ld_tup rfl z_tuple (by decide +kernel) (l_of_n (n_lc rfl sc_next_calls.nd (own := [("one", 6)]) plain_nm (by decide) (i_seq (e_var (i := 1) (pv 1))) (blkOk_by (own := [("one", 6)]) (N := N_next_calls) (sc := defScope S_next_calls) (by decide +kernel)) (fun _ _ _ _ _ _ => (g_name (pg_name (i := 6) sc_next_calls.nd rfl (by first | exact Or.inl rfl | exact Or.inr rfl)))) (fun _ _ _ _ _ _ => (ts_one (t_cmp (op_neA hr.units) od_ne (e_var (i := 6) (pv 6)) (e_var (i := 5) (pv 5)) (nomark _)))) (fun _ _ _ _ _ _ => (e_var (i := 6) (pv 6)))))) a_nil))))))))))
  (s_one (s_retOwn (i := 2) (pv 2)))))
abbrev S__law_pot : Stmt := topS 33
abbrev N__law_pot : List Str := ["script", "k", "cell"]
theorem sc__law_pot : FnScope N__law_pot ["script", "k"] (defScope S__law_pot) := ⟨rfl, rfl, rfl, by decide +kernel, rfl, by decide +kernel, by decide +kernel⟩
theorem ok__law_pot {f : Addr} {fd : FuncData} (F : Fun K "_law_pot" "_law_pot" S__law_pot f fd)
    (z_len : mg "len" = none)
    (z_max : mg "max" = none) : FnG P w K mg base 1 f fd ["script", "k"] (spM K mg m__law_potP 2) :=
  fn_ok F sc__law_pot fun cdv A outer sh H E C gd hr => (s_cons (s_set (i := 2) e_int (fun h => ps_set (i := 2) sc__law_pot.nd rfl (by first | exact Or.inl rfl | exact Or.inr rfl) h))
  (s_cons (s_if (t_cmp op_lt od_lt (e_var (i := 1) (pv 1)) (e_callB call_len cd_lenS rfl z_len (by decide +kernel) (a_cons (e_var (i := 0) (pv 0)) a_nil)) (nomark _))
    (s_one (s_set (i := 2) (e_ix ix_seq od_ixS (e_var (i := 0) (pv 0)) (e_var (i := 1) (pv 1)) (fun _ _ => rfl)) (fun h => ps_set (i := 2) sc__law_pot.nd rfl (by first | exact Or.inl rfl | exact Or.inr rfl) h)))
    s_nil)
  (s_one (s_retNew (n_lst (a_cons (e_callB (call_max2 rfl) cd_max rfl z_max (by decide +kernel) (a_cons e_int (a_cons (e_bin op_sub od_sub (e_var (i := 2) (pv 2)) (e_bin op_pow od_pow e_int e_int)) a_nil))) (a_cons (e_bin or_add od_add (e_bin or_add od_add (e_bin op_mod od_mod (e_var (i := 2) (pv 2)) (e_bin or_add od_add (e_bin op_pow od_pow e_int e_int) e_int)) (e_bin op_mulW od_mul e_int (e_var (i := 1) (pv 1)))) e_int) (a_cons e_int a_nil))))))))
abbrev S__law_draw : Stmt := topS 34
abbrev N__law_draw : List Str := ["pot", "bound", "mixed", "found"]
theorem sc__law_draw : FnScope N__law_draw ["pot", "bound"] (defScope S__law_draw) := ⟨rfl, rfl, rfl, by decide +kernel, rfl, by decide +kernel, by decide +kernel⟩
theorem ok__law_draw {f : Addr} {fd : FuncData} (F : Fun K "_law_draw" "_law_draw" S__law_draw f fd) : FnG P w K mg base 1 f fd ["pot", "bound"] (spM K mg m__law_drawP 2) :=
  fn_ok F sc__law_draw fun cdv A outer sh H E C gd hr => (s_cons (s_if (t_cmp op_gt od_gt (e_ixV (i := 0) (pv 0) e_int (fun _ _ => rfl)) e_int (nomark _))
    (s_cons (s_set (i := 3) (e_bin op_mod od_mod (e_ixV (i := 0) (pv 0) e_int (fun _ _ => rfl)) (e_var (i := 1) (pv 1))) (fun h => ps_set (i := 3) sc__law_draw.nd rfl (by first | exact Or.inl rfl | exact Or.inr rfl) h))
    (s_cons (s_setIx (i := 0) (e_bin op_fdivW od_div (e_ixV (i := 0) (pv 0) e_int (fun _ _ => rfl)) (e_var (i := 1) (pv 1))) e_int (fun h1 h2 => ps_asg h1 (pg_sub (pv 0) h2 set_list)))
    (s_one (s_ret (e_var (i := 3) (pv 3))))))
    s_nil)
  (s_cons (s_setIx (i := 0) (e_bin or_add od_add (e_ixV (i := 0) (pv 0) e_int (fun _ _ => rfl)) e_int) e_int (fun h1 h2 => ps_asg h1 (pg_sub (pv 0) h2 set_list)))
  (s_cons (s_set (i := 2) (e_bin op_mod od_mod (e_bin op_powB od_powB (e_bin or_add od_add (e_ixV (i := 0) (pv 0) e_int (fun _ _ => rfl)) (e_bin op_mulW od_mul e_int (e_ixV (i := 0) (pv 0) e_int (fun _ _ => rfl)))) e_int) (e_bin or_add od_add (e_bin op_pow od_pow e_int e_int) e_int)) (fun h => ps_set (i := 2) sc__law_draw.nd rfl (by first | exact Or.inl rfl | exact Or.inr rfl) h))
  (s_cons (s_set (i := 2) (e_bin op_mod od_mod (e_bin op_powB od_powB (e_bin or_add od_add (e_var (i := 2) (pv 2)) (e_bin op_mulW od_mul e_int (e_ixV (i := 0) (pv 0) e_int (fun _ _ => rfl)))) e_int) (e_bin or_add od_add (e_bin op_pow od_pow e_int e_int) e_int)) (fun h => ps_set (i := 2) sc__law_draw.nd rfl (by first | exact Or.inl rfl | exact Or.inr rfl) h))
  (s_one (s_ret (e_bin op_mod od_mod (e_bin op_fdivW od_div (e_var (i := 2) (pv 2)) e_int) (e_var (i := 1) (pv 1)))))))))
abbrev S__law_all : Stmt := topS 38
abbrev N__law_all : List Str := ["names", "found", "turn", "later", "seating", "name"]
theorem sc__law_all : FnScope N__law_all ["names"] (defScope S__law_all) := ⟨rfl, rfl, rfl, by decide +kernel, rfl, by decide +kernel, by decide +kernel⟩
theorem ok__law_all {f : Addr} {fd : FuncData} (F : Fun K "_law_all" "_law_all" S__law_all f fd)
    (z_range : mg "range" = none)
    (z_len : mg "len" = none) : FnG P w K mg base 1 f fd ["names"] (spM K mg m__law_allP 1) :=
  fn_ok F sc__law_all fun cdv A outer sh H E C gd hr => (s_cons (s_set (i := 1) (e_of_n (n_lst (a_cons (e_tup a_nil) a_nil))) (fun h => ps_set (i := 1) sc__law_all.nd rfl (by first | exact Or.inl rfl | exact Or.inr rfl) h))
  (s_cons (s_for (passes_of rfl) rfl plain_nm (i_rng1 rfl z_range (a_cons (e_callB call_len cd_len rfl z_len (by decide +kernel) (a_cons (e_var (i := 0) (pv 0)) a_nil)) a_nil)) (g_name (pg_name (i := 2) sc__law_all.nd rfl (by first | exact Or.inl rfl | exact Or.inr rfl)))
    (s_cons (s_setNew (i := 3) (n_lst a_nil) (fun h => ps_set (i := 3) sc__law_all.nd rfl (by first | exact Or.inl rfl | exact Or.inr rfl) h))
    (s_cons (s_for (passes_of rfl) rfl plain_nm (i_seq (e_var (i := 1) (pv 1))) (g_name (pg_name (i := 4) sc__law_all.nd rfl (by first | exact Or.inl rfl | exact Or.inr rfl)))
      (s_one (s_expr (e_ext (i := 3) (fun h => pe_bm PySem.F.plainAttrs_list PySem.F.slot_list_extend PySem.F.type_list_extend mt_extS (pv 3) (pa_cons h pa_nil)) (e_of_n (n_lc rfl sc__law_all.nd (own := [("name", 5)]) plain_nm (by decide) (i_seq (e_var (i := 0) (pv 0))) (blkOk_by (own := [("name", 5)]) (N := N__law_all) (sc := defScope S__law_all) (by decide +kernel)) (fun _ _ _ _ _ _ => (g_name (pg_name (i := 5) sc__law_all.nd rfl (by first | exact Or.inl rfl | exact Or.inr rfl)))) (fun _ _ _ _ _ _ => (ts_one (t_cmp op_notIn_seq (od_inT true) (e_var (i := 5) (pv 5)) (e_var (i := 4) (pv 4)) rfl))) (fun _ _ _ _ _ _ => (e_bin or_add od_add (e_var (i := 4) (pv 4)) (e_tup (a_cons (e_var (i := 5) (pv 5)) a_nil))))))))))
    (ss_frz 3 (s_one (s_set (i := 1) (e_var (i := 3) (pv 3)) (fun h => ps_set (i := 1) sc__law_all.nd rfl (by first | exact Or.inl rfl | exact Or.inr rfl) h)))))))
  (s_one (s_ret (e_var (i := 1) (pv 1))))))
abbrev S__law_depths : Stmt := topS 39
abbrev N__law_depths : List Str := ["office", "found", "boss"]
theorem sc__law_depths : FnScope N__law_depths ["office"] (defScope S__law_depths) := ⟨rfl, rfl, rfl, by decide +kernel, rfl, by decide +kernel, by decide +kernel⟩
theorem ok__law_depths {f : Addr} {fd : FuncData} (F : Fun K "_law_depths" "_law_depths" S__law_depths f fd) : FnG P w K mg base 1 f fd ["office"] (spM K mg m__law_depthsP 1) :=
  fn_ok F sc__law_depths fun cdv A outer sh H E C gd hr => (s_cons (s_setNew (i := 1) (n_lst (a_cons e_int a_nil)) (fun h => ps_set (i := 1) sc__law_depths.nd rfl (by first | exact Or.inl rfl | exact Or.inr rfl) h))
  (s_cons (s_for (passes_of rfl) rfl plain_nm (i_seq (e_var (i := 0) (pv 0))) (g_name (pg_name (i := 2) sc__law_depths.nd rfl (by first | exact Or.inl rfl | exact Or.inr rfl)))
    (s_one (s_expr (e_app (i := 1) (fun h => pe_bm PySem.F.plainAttrs_list PySem.F.slot_list_append PySem.F.type_list_append mt_append (pv 1) (pa_cons h pa_nil)) (e_bin or_add od_add (e_ixV (i := 1) (pv 1) (e_var (i := 2) (pv 2)) (fun _ _ => rfl)) e_int)))))
  (s_one (s_retOwn (i := 1) (pv 1)))))
abbrev S__law_costs : Stmt := topS 40
abbrev N__law_costs : List Str := ["office", "deep", "seating", "order", "name", "people", "found", "desk", "boss"]
theorem sc__law_costs : FnScope N__law_costs ["office", "deep", "seating", "order"] (defScope S__law_costs) := ⟨rfl, rfl, rfl, by decide +kernel, rfl, by decide +kernel, by decide +kernel⟩
theorem ok__law_costs {f : Addr} {fd : FuncData} (F : Fun K "_law_costs" "_law_costs" S__law_costs f fd)
    (z_tuple : mg "tuple" = none)
    (z_list : mg "list" = none) : FnG P w K mg base 1 f fd ["office", "deep", "seating", "order"] (spM K mg m__law_costsP 4) :=
  fn_ok F sc__law_costs fun cdv A outer sh H E C gd hr => (s_cons (s_par (i := 5) (j := 6) (n_list rfl z_list (by decide +kernel) (a_cons (e_var (i := 2) (pv 2)) a_nil)) (fun _ => (n_lst a_nil)) (by decide) (fun h1 h2 => ps_par rfl sc__law_costs.nd rfl rfl (by decide) rfl rfl (pa_cons h1 (pa_cons h2 pa_nil)) (by rfl)))
  (s_cons (s_for (passes_of rfl) rfl plain_nm (i_seq (e_var (i := 3) (pv 3))) (g_name (pg_name (i := 4) sc__law_costs.nd rfl (by first | exact Or.inl rfl | exact Or.inr rfl)))
    (s_cons (s_set (i := 7) (e_lixV (i := 5) (fun h => pe_bm PySem.F.plainAttrs_list PySem.F.slot_list_index PySem.F.type_list_index mt_index (pv 5) (pa_cons h pa_nil)) (e_var (i := 4) (pv 4))) (fun h => ps_set (i := 7) sc__law_costs.nd rfl (by first | exact Or.inl rfl | exact Or.inr rfl) h))
    (s_cons (s_expr (e_app (i := 6) (fun h => pe_bm PySem.F.plainAttrs_list PySem.F.slot_list_append PySem.F.type_list_append mt_append (pv 6) (pa_cons h pa_nil)) (e_ix ix_seq od_ix (e_var (i := 1) (pv 1)) (e_var (i := 7) (pv 7)) (fun _ _ => rfl))))
    (s_one (s_if (t_cmp op_gt od_gt (e_var (i := 7) (pv 7)) e_int (nomark _))
      (s_cons (s_set (i := 8) (e_ix ix_seq od_ix (e_var (i := 0) (pv 0)) (e_bin op_sub od_sub (e_var (i := 7) (pv 7)) e_int) (fun _ _ => rfl)) (fun h => ps_set (i := 8) sc__law_costs.nd rfl (by first | exact Or.inl rfl | exact Or.inr rfl) h))
      (s_one (s_asg (plain_t (plains_c plain_sub (plains_c plain_sub plains_0))) (e_tup (a_cons (e_ixV (i := 5) (pv 5) (e_var (i := 8) (pv 8)) (fun _ _ => rfl)) (a_cons (e_var (i := 4) (pv 4)) a_nil))) (g_tup rfl (gs_cons (g_subI (e_var (i := 7) (pv 7)) (fun h => pg_sub (pv 5) h set_list)) (gs_cons (g_subI (e_var (i := 8) (pv 8)) (fun h => pg_sub (pv 5) h set_list)) gs_nil)) (glc (glc gl0))) (fun h g => ps_asg h g))))
      s_nil)))))
  (s_one (s_ret (e_rdT call_tupF ld_tup rfl z_tuple (by decide +kernel) (l_var (i := 6) (pv 6)))))))
abbrev S_is_number : Stmt := topS 12
abbrev N_is_number : List Str := ["value", "low", "high"]
theorem sc_is_number : FnScope N_is_number ["value", "low", "high"] (defScope S_is_number) := ⟨rfl, rfl, rfl, by decide +kernel, rfl, by decide +kernel, by decide +kernel⟩
theorem ok_is_number {f : Addr} {fd : FuncData} (F : Fun K "is_number" "is_number" S_is_number f fd)
    {f_is_whole : Addr} {fd_is_whole : FuncData} (G_is_whole : FnG P w K mg base 1 f_is_whole fd_is_whole ["value"] (spM K mg m_is_whole 1)) (g_is_whole : mg "is_whole" = some (.ref f_is_whole)) (k_is_whole : PySem.W.keepIn K (.ref f_is_whole) = true) (b_is_whole : Binds K fd_is_whole ["value"] []) : FnG P w K mg base 2 f fd ["value", "low", "high"] (spM K mg m_is_number 3) :=
  fn_ok F sc_is_number fun cdv A outer sh H E C gd hr => (s_one (s_ret (e_and (e_call G_is_whole gd (hr.mono (by decide)) rfl g_is_whole k_is_whole b_is_whole (takes_of rfl rfl rfl rfl) (g_val (e_var (i := 0) (pv 0)) g_nil) (lnv ln0)) (pe_one (e_chain op_le op_le od_le od_le (e_var (i := 1) (pv 1)) (e_var (i := 0) (pv 0)) (e_var (i := 2) (pv 2)))))))
abbrev S_are_different_names : Stmt := topS 14
abbrev N_are_different_names : List Str := ["value", "item"]
theorem sc_are_different_names : FnScope N_are_different_names ["value"] (defScope S_are_different_names) := ⟨rfl, rfl, rfl, by decide +kernel, rfl, by decide +kernel, by decide +kernel⟩
theorem ok_are_different_names {f : Addr} {fd : FuncData} (F : Fun K "are_different_names" "are_different_names" S_are_different_names f fd)
    {f_is_name : Addr} {fd_is_name : FuncData} (G_is_name : FnG P w K mg base 1 f_is_name fd_is_name ["value"] (spM K mg m_is_name 1)) (g_is_name : mg "is_name" = some (.ref f_is_name)) (k_is_name : PySem.W.keepIn K (.ref f_is_name) = true) (b_is_name : Binds K fd_is_name ["value"] [])
    (z_len : mg "len" = none)
    (z_isinstance : mg "isinstance" = none)
    (z_tuple : mg "tuple" = none)
    (z_all : mg "all" = none)
    (z_set : mg "set" = none) : FnG P w K mg base 2 f fd ["value"] (spM K mg m_are_different_names 1) :=
  fn_ok F sc_are_different_names fun cdv A outer sh H E C gd hr => (s_cons (s_if (PW.pt (w_or (t_not (t_val (e_isi rfl z_isinstance (e_var (i := 0) (pv 0)) (pe_bltn (v := .ty "tuple") rfl z_tuple (by decide +kernel) rfl)))) (pw_or1 (t_not (t_val (e_rdB (cr_all rfl) ld_all rfl z_all (by decide +kernel) (l_of_n (n_lc rfl sc_are_different_names.nd (own := [("item", 1)]) plain_nm (by decide) (i_seq (e_var (i := 0) (pv 0))) (blkOk_by (own := [("item", 1)]) (N := N_are_different_names) (sc := defScope S_are_different_names) (by decide +kernel)) (fun _ _ _ _ _ _ => (g_name (pg_name (i := 1) sc_are_different_names.nd rfl (by first | exact Or.inl rfl | exact Or.inr rfl)))) (fun _ _ _ _ _ _ => ts_nil) (fun _ _ _ _ _ _ => (e_call G_is_name gd (hr.mono (by decide)) rfl g_is_name k_is_name b_is_name takes0 (g_val (e_var (i := 1) (pv 1)) g_nil) (lnv ln0)))))))))))
    (s_one (s_ret e_bl))
    s_nil)
  (s_one (s_ret (e_cmp (op_eqA hr.units) od_eq (e_lenSet rfl rfl z_len rfl z_set (e_var (i := 0) (pv 0))) (e_callB call_len cd_len rfl z_len (by decide +kernel) (a_cons (e_var (i := 0) (pv 0)) a_nil)) (nomark _)))))
abbrev S_need_costs : Stmt := topS 30
abbrev N_need_costs : List Str := ["order", "costs", "cost"]
theorem sc_need_costs : FnScope N_need_costs ["order", "costs"] (defScope S_need_costs) := ⟨rfl, rfl, rfl, by decide +kernel, rfl, by decide +kernel, by decide +kernel⟩
theorem ok_need_costs {f : Addr} {fd : FuncData} (F : Fun K "need_costs" "need_costs" S_need_costs f fd)
    {f_is_whole : Addr} {fd_is_whole : FuncData} (G_is_whole : FnG P w K mg base 1 f_is_whole fd_is_whole ["value"] (spM K mg m_is_whole 1)) (g_is_whole : mg "is_whole" = some (.ref f_is_whole)) (k_is_whole : PySem.W.keepIn K (.ref f_is_whole) = true) (b_is_whole : Binds K fd_is_whole ["value"] [])
    (z_all : mg "all" = none)
    (z_isinstance : mg "isinstance" = none)
    (z_tuple : mg "tuple" = none)
    (z_len : mg "len" = none) : FnG P w K mg base 2 f fd ["order", "costs"] (spM K mg m_need_costs 2) :=
  fn_ok F sc_need_costs fun cdv A outer sh H E C gd hr => (s_cons (s_if (PW.pt (w_or (t_not (t_val (e_isi rfl z_isinstance (e_var (i := 1) (pv 1)) (pe_bltn (v := .ty "tuple") rfl z_tuple (by decide +kernel) rfl)))) (pw_or1 (t_cmp (op_neA hr.units) od_ne (e_callB call_len cd_len rfl z_len (by decide +kernel) (a_cons (e_var (i := 1) (pv 1)) a_nil)) (e_callB call_len cd_len rfl z_len (by decide +kernel) (a_cons (e_var (i := 0) (pv 0)) a_nil)) (nomark _)))))
    (s_one s_never)
    s_nil)
  (s_one (s_if (t_not (t_val (e_rdB (cr_all rfl) ld_all rfl z_all (by decide +kernel) (l_of_n (n_lc rfl sc_need_costs.nd (own := [("cost", 2)]) plain_nm (by decide) (i_seq (e_var (i := 1) (pv 1))) (blkOk_by (own := [("cost", 2)]) (N := N_need_costs) (sc := defScope S_need_costs) (by decide +kernel)) (fun _ _ _ _ _ _ => (g_name (pg_name (i := 2) sc_need_costs.nd rfl (by first | exact Or.inl rfl | exact Or.inr rfl)))) (fun _ _ _ _ _ _ => ts_nil) (fun _ _ _ _ _ _ => (e_and (e_call G_is_whole gd (hr.mono (by decide)) rfl g_is_whole k_is_whole b_is_whole takes0 (g_val (e_var (i := 2) (pv 2)) g_nil) (lnv ln0)) (pe_one (e_cmp op_ge od_ge (e_var (i := 2) (pv 2)) e_int (nomark _))))))))))
    (s_one s_never)
    s_nil)))
abbrev S__law_office : Stmt := topS 35
abbrev N__law_office : List Str := ["pot", "most", "size", "k", "shape", "found", "near"]
theorem sc__law_office : FnScope N__law_office ["pot", "most"] (defScope S__law_office) := ⟨rfl, rfl, rfl, by decide +kernel, rfl, by decide +kernel, by decide +kernel⟩
theorem ok__law_office {f : Addr} {fd : FuncData} (F : Fun K "_law_office" "_law_office" S__law_office f fd)
    {f__law_draw : Addr} {fd__law_draw : FuncData} (G__law_draw : FnG P w K mg base 1 f__law_draw fd__law_draw ["pot", "bound"] (spM K mg m__law_drawP 2)) (g__law_draw : mg "_law_draw" = some (.ref f__law_draw)) (k__law_draw : PySem.W.keepIn K (.ref f__law_draw) = true) (b__law_draw : Binds K fd__law_draw ["pot", "bound"] [])
    (z_min : mg "min" = none)
    (z_range : mg "range" = none)
    (z_tuple : mg "tuple" = none) : FnG P w K mg base 2 f fd ["pot", "most"] (spM K mg m__law_officeP 2) :=
  fn_ok F sc__law_office fun cdv A outer sh H E C gd hr => (s_cons (s_set (i := 2) (e_callB (call_min2 rfl) cd_min rfl z_min (by decide +kernel) (a_cons (e_var (i := 1) (pv 1)) (a_cons (e_bin or_add od_add e_int (e_call G__law_draw gd (hr.mono (by decide)) rfl g__law_draw k__law_draw b__law_draw (takes_of rfl rfl rfl rfl) (g_ref (i := 0) (pv 0) (g_val (e_ix ix_seq od_ix (e_of_n (n_lst (a_cons e_int (a_cons (e_var (i := 1) (pv 1)) a_nil)))) (e_call G__law_draw gd (hr.mono (by decide)) rfl g__law_draw k__law_draw b__law_draw (takes_of rfl rfl rfl rfl) (g_ref (i := 0) (pv 0) (g_val e_int g_nil)) (lnr (lnv ln0))) (fun _ _ => rfl)) g_nil)) (lnr (lnv ln0)))) a_nil))) (fun h => ps_set (i := 2) sc__law_office.nd rfl (by first | exact Or.inl rfl | exact Or.inr rfl) h))
  (s_cons (s_parVN (i := 4) (j := 5) (e_call G__law_draw gd (hr.mono (by decide)) rfl g__law_draw k__law_draw b__law_draw (takes_of rfl rfl rfl rfl) (g_ref (i := 0) (pv 0) (g_val e_int g_nil)) (lnr (lnv ln0))) (n_lst a_nil) (fun h1 h2 => ps_par rfl sc__law_office.nd rfl rfl (by decide) rfl rfl (pa_cons h1 (pa_cons h2 pa_nil)) (by rfl)))
  (s_cons (s_for (passes_of rfl) rfl plain_nm (i_rng1 rfl z_range (a_cons (e_bin op_sub od_sub (e_var (i := 2) (pv 2)) e_int) a_nil)) (g_name (pg_name (i := 3) sc__law_office.nd rfl (by first | exact Or.inl rfl | exact Or.inr rfl)))
    (s_cons (s_set (i := 6) (e_bin op_sub od_sub (e_var (i := 3) (pv 3)) (e_callB (call_min2 rfl) cd_min rfl z_min (by decide +kernel) (a_cons (e_var (i := 3) (pv 3)) (a_cons (e_call G__law_draw gd (hr.mono (by decide)) rfl g__law_draw k__law_draw b__law_draw (takes_of rfl rfl rfl rfl) (g_ref (i := 0) (pv 0) (g_val e_int g_nil)) (lnr (lnv ln0))) a_nil)))) (fun h => ps_set (i := 6) sc__law_office.nd rfl (by first | exact Or.inl rfl | exact Or.inr rfl) h))
    (s_one (s_expr (e_app (i := 5) (fun h => pe_bm PySem.F.plainAttrs_list PySem.F.slot_list_append PySem.F.type_list_append mt_append (pv 5) (pa_cons h pa_nil)) (e_ix ix_seq od_ix (e_of_n (n_lst (a_cons (e_var (i := 3) (pv 3)) (a_cons e_int (a_cons (e_call G__law_draw gd (hr.mono (by decide)) rfl g__law_draw k__law_draw b__law_draw (takes_of rfl rfl rfl rfl) (g_ref (i := 0) (pv 0) (g_val (e_bin or_add od_add (e_var (i := 3) (pv 3)) e_int) g_nil)) (lnr (lnv ln0))) (a_cons (e_var (i := 6) (pv 6)) a_nil)))))) (e_var (i := 4) (pv 4)) (fun _ _ => rfl)))))))
  (s_one (s_ret (e_rdT call_tupF ld_tup rfl z_tuple (by decide +kernel) (l_var (i := 5) (pv 5))))))))
abbrev S__law_mixed : Stmt := topS 36
abbrev N__law_mixed : List Str := ["pot", "things", "left", "k"]
theorem sc__law_mixed : FnScope N__law_mixed ["pot", "things"] (defScope S__law_mixed) := ⟨rfl, rfl, rfl, by decide +kernel, rfl, by decide +kernel, by decide +kernel⟩
theorem ok__law_mixed {f : Addr} {fd : FuncData} (F : Fun K "_law_mixed" "_law_mixed" S__law_mixed f fd)
    {f__law_draw : Addr} {fd__law_draw : FuncData} (G__law_draw : FnG P w K mg base 1 f__law_draw fd__law_draw ["pot", "bound"] (spM K mg m__law_drawP 2)) (g__law_draw : mg "_law_draw" = some (.ref f__law_draw)) (k__law_draw : PySem.W.keepIn K (.ref f__law_draw) = true) (b__law_draw : Binds K fd__law_draw ["pot", "bound"] [])
    (z_list : mg "list" = none)
    (z_range : mg "range" = none)
    (z_len : mg "len" = none) : FnG P w K mg base 2 f fd ["pot", "things"] (spM K mg m__law_mixedP 2) :=
  fn_ok F sc__law_mixed fun cdv A outer sh H E C gd hr => (s_cons (s_setNew (i := 2) (n_list rfl z_list (by decide +kernel) (a_cons (e_var (i := 1) (pv 1)) a_nil)) (fun h => ps_set (i := 2) sc__law_mixed.nd rfl (by first | exact Or.inl rfl | exact Or.inr rfl) h))
  (s_one (s_retNew (n_lc rfl sc__law_mixed.nd (own := [("k", 3)]) plain_nm (by decide) (i_rng1 rfl z_range (a_cons (e_callB call_len cd_len rfl z_len (by decide +kernel) (a_cons (e_var (i := 1) (pv 1)) a_nil)) a_nil)) (blkOk_by (own := [("k", 3)]) (N := N__law_mixed) (sc := defScope S__law_mixed) (by decide +kernel)) (fun _ _ _ _ _ _ => (g_name (pg_name (i := 3) sc__law_mixed.nd rfl (by first | exact Or.inl rfl | exact Or.inr rfl)))) (fun _ _ _ _ _ _ => ts_nil) (fun _ _ _ _ _ _ => (e_pop (i := 2) (fun h => pe_bm PySem.F.plainAttrs_list PySem.F.slot_list_pop PySem.F.type_list_pop mt_popAt (pv 2) (pa_cons h pa_nil)) (e_call G__law_draw gd (hr.mono (by decide)) rfl g__law_draw k__law_draw b__law_draw takes0 (g_ref (i := 0) (pv 0) (g_val (e_rdB call_len ld_len rfl z_len (by decide +kernel) (l_var (i := 2) (pv 2))) g_nil)) (lnr (lnv ln0)))))))))
abbrev S_is_office : Stmt := topS 17
abbrev N_is_office : List Str := ["value", "index", "item"]
theorem sc_is_office : FnScope N_is_office ["value"] (defScope S_is_office) := ⟨rfl, rfl, rfl, by decide +kernel, rfl, by decide +kernel, by decide +kernel⟩
theorem ok_is_office {f : Addr} {fd : FuncData} (F : Fun K "is_office" "is_office" S_is_office f fd)
    {f_is_number : Addr} {fd_is_number : FuncData} (G_is_number : FnG P w K mg base 2 f_is_number fd_is_number ["value", "low", "high"] (spM K mg m_is_number 3)) (g_is_number : mg "is_number" = some (.ref f_is_number)) (k_is_number : PySem.W.keepIn K (.ref f_is_number) = true) (b_is_number : Binds K fd_is_number ["value", "low", "high"] [])
    (z_all : mg "all" = none)
    (z_isinstance : mg "isinstance" = none)
    (z_tuple : mg "tuple" = none)
    (z_len : mg "len" = none)
    (z_enumerate : mg "enumerate" = none)
    {t_MOST_DESKS : Tok} (z_MOST_DESKS : mg "MOST_DESKS" = some (.int 40 t_MOST_DESKS)) : FnG P w K mg base 3 f fd ["value"] (spM K mg m_is_office 1) :=
  fn_ok F sc_is_office fun cdv A outer sh H E C gd hr => (s_cons (s_if (PW.pt (w_or (t_not (t_val (e_isi rfl z_isinstance (e_var (i := 0) (pv 0)) (pe_bltn (v := .ty "tuple") rfl z_tuple (by decide +kernel) rfl)))) (pw_or1 (t_cmp op_ge od_ge (e_callB call_len cd_len rfl z_len (by decide +kernel) (a_cons (e_var (i := 0) (pv 0)) a_nil)) (e_con (d := .int 40) (v := .int 40) (pe_glob rfl z_MOST_DESKS ⟨_, rfl⟩) (fun _ _ => .int _)) (nomark _)))))
    (s_one (s_ret e_bl))
    s_nil)
  (s_one (s_ret (e_rdB (cr_all rfl) ld_all rfl z_all (by decide +kernel) (l_of_n (n_lc rfl sc_is_office.nd (own := [("index", 1), ("item", 2)]) (plain_t (plains_c plain_nm (plains_c plain_nm plains_0))) (by decide) (i_enumT rfl z_enumerate (a_cons (e_var (i := 0) (pv 0)) a_nil)) (blkOk_by (own := [("index", 1), ("item", 2)]) (N := N_is_office) (sc := defScope S_is_office) (by decide +kernel)) (fun _ _ _ _ _ _ => (g_tup rfl (gs_cons (g_name (pg_name (i := 1) sc_is_office.nd rfl (by first | exact Or.inl rfl | exact Or.inr rfl))) (gs_cons (g_name (pg_name (i := 2) sc_is_office.nd rfl (by first | exact Or.inl rfl | exact Or.inr rfl))) gs_nil)) (glc (glc gl0)))) (fun _ _ _ _ _ _ => ts_nil) (fun _ _ _ _ _ _ => (e_call G_is_number gd (hr.mono (by decide)) rfl g_is_number k_is_number b_is_number takes0 (g_val (e_var (i := 2) (pv 2)) (g_val e_int (g_val (e_var (i := 1) (pv 1)) g_nil))) (lnv (lnv (lnv ln0)))))))))))
abbrev S__law_names : Stmt := topS 37
abbrev N__law_names : List Str := ["pot", "many", "letters", "some", "one", "letter"]
theorem sc__law_names : FnScope N__law_names ["pot", "many"] (defScope S__law_names) := ⟨rfl, rfl, rfl, by decide +kernel, rfl, by decide +kernel, by decide +kernel⟩
theorem ok__law_names {f : Addr} {fd : FuncData} (F : Fun K "_law_names" "_law_names" S__law_names f fd)
    {f__law_mixed : Addr} {fd__law_mixed : FuncData} (G__law_mixed : FnG P w K mg base 2 f__law_mixed fd__law_mixed ["pot", "things"] (spM K mg m__law_mixedP 2)) (g__law_mixed : mg "_law_mixed" = some (.ref f__law_mixed)) (k__law_mixed : PySem.W.keepIn K (.ref f__law_mixed) = true) (b__law_mixed : Binds K fd__law_mixed ["pot", "things"] [])
    (z_tuple : mg "tuple" = none) : FnG P w K mg base 3 f fd ["pot", "many"] (spM K mg m__law_namesP 2) :=
  fn_ok F sc__law_names fun cdv A outer sh H E C gd hr => (s_cons (s_set (i := 2) e_str (fun h => ps_set (i := 2) sc__law_names.nd rfl (by first | exact Or.inl rfl | exact Or.inr rfl) h))
  (s_cons (s_set (i := 3) (e_bin or_add od_add (e_bin or_add od_add (e_of_n (n_lc rfl sc__law_names.nd (own := [("letter", 5)]) plain_nm (by decide) (i_str (e_var (i := 2) (pv 2))) (blkOk_by (own := [("letter", 5)]) (N := N__law_names) (sc := defScope S__law_names) (by decide +kernel)) (fun _ _ _ _ _ _ => (g_name (pg_name (i := 5) sc__law_names.nd rfl (by first | exact Or.inl rfl | exact Or.inr rfl)))) (fun _ _ _ _ _ _ => ts_nil) (fun _ _ _ _ _ _ => (e_var (i := 5) (pv 5))))) (e_of_n (n_lc rfl sc__law_names.nd (own := [("letter", 5)]) plain_nm (by decide) (i_str (e_var (i := 2) (pv 2))) (blkOk_by (own := [("letter", 5)]) (N := N__law_names) (sc := defScope S__law_names) (by decide +kernel)) (fun _ _ _ _ _ _ => (g_name (pg_name (i := 5) sc__law_names.nd rfl (by first | exact Or.inl rfl | exact Or.inr rfl)))) (fun _ _ _ _ _ _ => ts_nil) (fun _ _ _ _ _ _ => (e_bin or_add od_add e_str (e_var (i := 5) (pv 5))))))) (e_of_n (n_lc rfl sc__law_names.nd (own := [("one", 4)]) plain_nm (by decide) (i_str e_str) (blkOk_by (own := [("one", 4)]) (N := N__law_names) (sc := defScope S__law_names) (by decide +kernel)) (fun _ _ _ _ _ _ => (g_name (pg_name (i := 4) sc__law_names.nd rfl (by first | exact Or.inl rfl | exact Or.inr rfl)))) (fun _ _ _ _ _ _ => ts_nil) (fun _ _ _ _ _ _ => (e_bin or_add od_add e_str (e_var (i := 4) (pv 4))))))) (fun h => ps_set (i := 3) sc__law_names.nd rfl (by first | exact Or.inl rfl | exact Or.inr rfl) h))
  (s_one (s_ret (e_callTy call_tupF cd_tup rfl z_tuple (by decide +kernel) (a_cons (e_cut (e_of_n (n_call G__law_mixed gd (hr.mono (by decide)) rfl g__law_mixed k__law_mixed b__law_mixed (takes_of rfl rfl rfl rfl) (g_ref (i := 0) (pv 0) (g_val (e_var (i := 3) (pv 3)) g_nil)) (lnr (lnv ln0)))) p_none (p_some (e_var (i := 1) (pv 1)))) a_nil))))))
abbrev S_need_office : Stmt := topS 18
abbrev N_need_office : List Str := ["office"]
theorem sc_need_office : FnScope N_need_office ["office"] (defScope S_need_office) := ⟨rfl, rfl, rfl, by decide +kernel, rfl, by decide +kernel, by decide +kernel⟩
theorem ok_need_office {f : Addr} {fd : FuncData} (F : Fun K "need_office" "need_office" S_need_office f fd)
    {f_is_office : Addr} {fd_is_office : FuncData} (G_is_office : FnG P w K mg base 3 f_is_office fd_is_office ["value"] (spM K mg m_is_office 1)) (g_is_office : mg "is_office" = some (.ref f_is_office)) (k_is_office : PySem.W.keepIn K (.ref f_is_office) = true) (b_is_office : Binds K fd_is_office ["value"] []) : FnG P w K mg base 4 f fd ["office"] (spM K mg m_need_office 1) :=
  fn_ok F sc_need_office fun cdv A outer sh H E C gd hr => (s_one (s_if (t_not (t_val (e_call G_is_office gd (hr.mono (by decide)) rfl g_is_office k_is_office b_is_office (takes_of rfl rfl rfl rfl) (g_val (e_var (i := 0) (pv 0)) g_nil) (lnv ln0))))
    (s_one s_never)
    s_nil))
abbrev S_is_seating : Stmt := topS 20
abbrev N_is_seating : List Str := ["office", "value"]
theorem sc_is_seating : FnScope N_is_seating ["office", "value"] (defScope S_is_seating) := ⟨rfl, rfl, rfl, by decide +kernel, rfl, by decide +kernel, by decide +kernel⟩
theorem ok_is_seating {f : Addr} {fd : FuncData} (F : Fun K "is_seating" "is_seating" S_is_seating f fd)
    {f_need_office : Addr} {fd_need_office : FuncData} (G_need_office : FnG P w K mg base 4 f_need_office fd_need_office ["office"] (spM K mg m_need_office 1)) (g_need_office : mg "need_office" = some (.ref f_need_office)) (k_need_office : PySem.W.keepIn K (.ref f_need_office) = true) (b_need_office : Binds K fd_need_office ["office"] [])
    {f_are_different_names : Addr} {fd_are_different_names : FuncData} (G_are_different_names : FnG P w K mg base 2 f_are_different_names fd_are_different_names ["value"] (spM K mg m_are_different_names 1)) (g_are_different_names : mg "are_different_names" = some (.ref f_are_different_names)) (k_are_different_names : PySem.W.keepIn K (.ref f_are_different_names) = true) (b_are_different_names : Binds K fd_are_different_names ["value"] [])
    (z_len : mg "len" = none) : FnG P w K mg base 5 f fd ["office", "value"] (spM K mg m_is_seating 2) :=
  fn_ok F sc_is_seating fun cdv A outer sh H E C gd hr => (s_cons (s_expr (e_call G_need_office gd (hr.mono (by decide)) rfl g_need_office k_need_office b_need_office (takes_of rfl rfl rfl rfl) (g_val (e_var (i := 0) (pv 0)) g_nil) (lnv ln0)))
  (s_one (s_ret (e_and (e_call G_are_different_names gd (hr.mono (by decide)) rfl g_are_different_names k_are_different_names b_are_different_names (takes_of rfl rfl rfl rfl) (g_val (e_var (i := 1) (pv 1)) g_nil) (lnv ln0)) (pe_one (e_cmp (op_eqA hr.units) od_eq (e_callB call_len cd_len rfl z_len (by decide +kernel) (a_cons (e_var (i := 1) (pv 1)) a_nil)) (e_bin or_add od_add (e_callB call_len cd_len rfl z_len (by decide +kernel) (a_cons (e_var (i := 0) (pv 0)) a_nil)) e_int) (nomark _)))))))
abbrev S_need_seating : Stmt := topS 22
abbrev N_need_seating : List Str := ["office", "seating"]
theorem sc_need_seating : FnScope N_need_seating ["office", "seating"] (defScope S_need_seating) := ⟨rfl, rfl, rfl, by decide +kernel, rfl, by decide +kernel, by decide +kernel⟩
theorem ok_need_seating {f : Addr} {fd : FuncData} (F : Fun K "need_seating" "need_seating" S_need_seating f fd)
    {f_is_seating : Addr} {fd_is_seating : FuncData} (G_is_seating : FnG P w K mg base 5 f_is_seating fd_is_seating ["office", "value"] (spM K mg m_is_seating 2)) (g_is_seating : mg "is_seating" = some (.ref f_is_seating)) (k_is_seating : PySem.W.keepIn K (.ref f_is_seating) = true) (b_is_seating : Binds K fd_is_seating ["office", "value"] []) : FnG P w K mg base 6 f fd ["office", "seating"] (spM K mg m_need_seating 2) :=
  fn_ok F sc_need_seating fun cdv A outer sh H E C gd hr => (s_one (s_if (t_not (t_val (e_call G_is_seating gd (hr.mono (by decide)) rfl g_is_seating k_is_seating b_is_seating (takes_of rfl rfl rfl rfl) (g_val (e_var (i := 0) (pv 0)) (g_val (e_var (i := 1) (pv 1)) g_nil)) (lnv (lnv ln0)))))
    (s_one s_never)
    s_nil))
abbrev S_is_order : Stmt := topS 21
abbrev N_is_order : List Str := ["office", "seating", "value", "name"]
theorem sc_is_order : FnScope N_is_order ["office", "seating", "value"] (defScope S_is_order) := ⟨rfl, rfl, rfl, by decide +kernel, rfl, by decide +kernel, by decide +kernel⟩
theorem ok_is_order {f : Addr} {fd : FuncData} (F : Fun K "is_order" "is_order" S_is_order f fd)
    {f_need_seating : Addr} {fd_need_seating : FuncData} (G_need_seating : FnG P w K mg base 6 f_need_seating fd_need_seating ["office", "seating"] (spM K mg m_need_seating 2)) (g_need_seating : mg "need_seating" = some (.ref f_need_seating)) (k_need_seating : PySem.W.keepIn K (.ref f_need_seating) = true) (b_need_seating : Binds K fd_need_seating ["office", "seating"] [])
    {f_are_different_names : Addr} {fd_are_different_names : FuncData} (G_are_different_names : FnG P w K mg base 2 f_are_different_names fd_are_different_names ["value"] (spM K mg m_are_different_names 1)) (g_are_different_names : mg "are_different_names" = some (.ref f_are_different_names)) (k_are_different_names : PySem.W.keepIn K (.ref f_are_different_names) = true) (b_are_different_names : Binds K fd_are_different_names ["value"] [])
    (z_all : mg "all" = none) : FnG P w K mg base 7 f fd ["office", "seating", "value"] (spM K mg m_is_order 3) :=
  fn_ok F sc_is_order fun cdv A outer sh H E C gd hr => (s_cons (s_expr (e_call G_need_seating gd (hr.mono (by decide)) rfl g_need_seating k_need_seating b_need_seating (takes_of rfl rfl rfl rfl) (g_val (e_var (i := 0) (pv 0)) (g_val (e_var (i := 1) (pv 1)) g_nil)) (lnv (lnv ln0))))
  (s_one (s_ret (e_and (e_call G_are_different_names gd (hr.mono (by decide)) rfl g_are_different_names k_are_different_names b_are_different_names (takes_of rfl rfl rfl rfl) (g_val (e_var (i := 2) (pv 2)) g_nil) (lnv ln0)) (pe_one (e_rdB (cr_all rfl) ld_all rfl z_all (by decide +kernel) (l_of_n (n_lc rfl sc_is_order.nd (own := [("name", 3)]) plain_nm (by decide) (i_seq (e_var (i := 2) (pv 2))) (blkOk_by (own := [("name", 3)]) (N := N_is_order) (sc := defScope S_is_order) (by decide +kernel)) (fun _ _ _ _ _ _ => (g_name (pg_name (i := 3) sc_is_order.nd rfl (by first | exact Or.inl rfl | exact Or.inr rfl)))) (fun _ _ _ _ _ _ => ts_nil) (fun _ _ _ _ _ _ => (e_cmp op_in_seq (od_inT false) (e_var (i := 3) (pv 3)) (e_var (i := 1) (pv 1)) rfl))))))))))
abbrev S_need_order : Stmt := topS 23
abbrev N_need_order : List Str := ["office", "seating", "order"]
theorem sc_need_order : FnScope N_need_order ["office", "seating", "order"] (defScope S_need_order) := ⟨rfl, rfl, rfl, by decide +kernel, rfl, by decide +kernel, by decide +kernel⟩
theorem ok_need_order {f : Addr} {fd : FuncData} (F : Fun K "need_order" "need_order" S_need_order f fd)
    {f_is_order : Addr} {fd_is_order : FuncData} (G_is_order : FnG P w K mg base 7 f_is_order fd_is_order ["office", "seating", "value"] (spM K mg m_is_order 3)) (g_is_order : mg "is_order" = some (.ref f_is_order)) (k_is_order : PySem.W.keepIn K (.ref f_is_order) = true) (b_is_order : Binds K fd_is_order ["office", "seating", "value"] []) : FnG P w K mg base 8 f fd ["office", "seating", "order"] (spM K mg m_need_order 3) :=
  fn_ok F sc_need_order fun cdv A outer sh H E C gd hr => (s_one (s_if (t_not (t_val (e_call G_is_order gd (hr.mono (by decide)) rfl g_is_order k_is_order b_is_order (takes_of rfl rfl rfl rfl) (g_val (e_var (i := 0) (pv 0)) (g_val (e_var (i := 1) (pv 1)) (g_val (e_var (i := 2) (pv 2)) g_nil))) (lnv (lnv (lnv ln0))))))
    (s_one s_never)
    s_nil))
abbrev S_count_with_costs : Stmt := topS 31
abbrev N_count_with_costs : List Str := ["office", "names", "order", "costs", "levels", "now", "cost", "after", "waiting", "count", "desk", "_", "left"]
theorem sc_count_with_costs : FnScope N_count_with_costs ["office", "names", "order", "costs"] (defScope S_count_with_costs) := ⟨rfl, rfl, rfl, by decide +kernel, rfl, by decide +kernel, by decide +kernel⟩
theorem ok_count_with_costs {f : Addr} {fd : FuncData} (F : Fun K "count_with_costs" "count_with_costs" S_count_with_costs f fd)
    {f_need_order : Addr} {fd_need_order : FuncData} (G_need_order : FnG P w K mg base 8 f_need_order fd_need_order ["office", "seating", "order"] (spM K mg m_need_order 3)) (g_need_order : mg "need_order" = some (.ref f_need_order)) (k_need_order : PySem.W.keepIn K (.ref f_need_order) = true) (b_need_order : Binds K fd_need_order ["office", "seating", "order"] [])
    {f_need_costs : Addr} {fd_need_costs : FuncData} (G_need_costs : FnG P w K mg base 2 f_need_costs fd_need_costs ["order", "costs"] (spM K mg m_need_costs 2)) (g_need_costs : mg "need_costs" = some (.ref f_need_costs)) (k_need_costs : PySem.W.keepIn K (.ref f_need_costs) = true) (b_need_costs : Binds K fd_need_costs ["order", "costs"] [])
    {f_depths : Addr} {fd_depths : FuncData} (G_depths : FnG P w K mg base 1 f_depths fd_depths ["office"] (spM K mg m_depths 1)) (g_depths : mg "depths" = some (.ref f_depths)) (k_depths : PySem.W.keepIn K (.ref f_depths) = true) (b_depths : Binds K fd_depths ["office"] [])
    {f_next_calls : Addr} {fd_next_calls : FuncData} (G_next_calls : FnG P w K mg base 1 f_next_calls fd_next_calls ["office", "waiting"] (spM K mg m_next_calls 2)) (g_next_calls : mg "next_calls" = some (.ref f_next_calls)) (k_next_calls : PySem.W.keepIn K (.ref f_next_calls) = true) (b_next_calls : Binds K fd_next_calls ["office", "waiting"] [])
    (z_len : mg "len" = none)
    (z_tuple : mg "tuple" = none)
    (z_sum : mg "sum" = none)
    (z_range : mg "range" = none)
    {t_MOST_DESKS_BY_COSTS : Tok} (z_MOST_DESKS_BY_COSTS : mg "MOST_DESKS_BY_COSTS" = some (.int 7 t_MOST_DESKS_BY_COSTS))
    (z_factorial : mg "factorial" = some (.builtin "math.factorial")) : FnG P w K mg base 9 f fd ["office", "names", "order", "costs"] (spW w K mg m_count_with_costs 4) :=
  fn_okW F sc_count_with_costs fun cdv A outer sh H E C hw gd hr => (s_cons (s_expr (e_call G_need_order gd (hr.mono (by decide)) rfl g_need_order k_need_order b_need_order (takes_of rfl rfl rfl rfl) (g_val (e_var (i := 0) (pv 0)) (g_val (e_var (i := 1) (pv 1)) (g_val (e_var (i := 2) (pv 2)) g_nil))) (lnv (lnv (lnv ln0)))))
  (s_cons (s_expr (e_call G_need_costs gd (hr.mono (by decide)) rfl g_need_costs k_need_costs b_need_costs (takes_of rfl rfl rfl rfl) (g_val (e_var (i := 2) (pv 2)) (g_val (e_var (i := 3) (pv 3)) g_nil)) (lnv (lnv ln0))))
  (s_cons (s_if (t_cmp op_gt od_gt (e_callB call_len cd_len rfl z_len (by decide +kernel) (a_cons (e_var (i := 1) (pv 1)) a_nil)) (e_con (d := .int 7) (v := .int 7) (pe_glob rfl z_MOST_DESKS_BY_COSTS ⟨_, rfl⟩) (fun _ _ => .int _)) (nomark _))
    (s_one s_never)
    s_nil)
  (s_cons (s_set (i := 4) (e_of_n (n_call G_depths gd (hr.mono (by decide)) rfl g_depths k_depths b_depths (takes_of rfl rfl rfl rfl) (g_val (e_var (i := 0) (pv 0)) g_nil) (lnv ln0))) (fun h => ps_set (i := 4) sc_count_with_costs.nd rfl (by first | exact Or.inl rfl | exact Or.inr rfl) h))
  (s_cons (s_dt1 (i := 5) hw (hr65 hr) (e_tupRg rfl rfl z_tuple rfl z_range (e_callB call_len cd_len rfl z_len (by decide +kernel) (a_cons (e_var (i := 1) (pv 1)) a_nil))) e_int (fun h => ps_set (i := 5) sc_count_with_costs.nd rfl (by first | exact Or.inl rfl | exact Or.inr rfl) h))
  (s_cons (s_for (passes_of rfl) rfl plain_nm (i_seq (e_var (i := 3) (pv 3))) (g_name (pg_name (i := 6) sc_count_with_costs.nd rfl (by first | exact Or.inl rfl | exact Or.inr rfl)))
    (s_cons (s_dtNew (i := 7) hw (fun h => ps_set (i := 7) sc_count_with_costs.nd rfl (by first | exact Or.inl rfl | exact Or.inr rfl) h))
    (s_cons (s_forT (i := 5) hw (passes_of rfl) rfl (plain_t (plains_c plain_nm (plains_c plain_nm plains_0))) (pv 5) (g_tup rfl (gs_cons (g_name (pg_name (i := 8) sc_count_with_costs.nd rfl (by first | exact Or.inl rfl | exact Or.inr rfl))) (gs_cons (g_name (pg_name (i := 9) sc_count_with_costs.nd rfl (by first | exact Or.inl rfl | exact Or.inr rfl))) gs_nil)) (glc (glc gl0)))
      (s_one (s_for (passes_of rfl) rfl (plain_t (plains_c plain_nm (plains_c plain_nm (plains_c plain_nm plains_0)))) (i_list (e_of_n (n_call G_next_calls gd (hr.mono (by decide)) rfl g_next_calls k_next_calls b_next_calls (takes_of rfl rfl rfl rfl) (g_val (e_var (i := 0) (pv 0)) (g_val (e_var (i := 8) (pv 8)) g_nil)) (lnv (lnv ln0))))) (g_tup rfl (gs_cons (g_name (pg_name (i := 10) sc_count_with_costs.nd rfl (by first | exact Or.inl rfl | exact Or.inr rfl))) (gs_cons (g_name (pg_name (i := 11) sc_count_with_costs.nd rfl (by first | exact Or.inl rfl | exact Or.inr rfl))) (gs_cons (g_name (pg_name (i := 12) sc_count_with_costs.nd rfl (by first | exact Or.inl rfl | exact Or.inr rfl))) gs_nil))) (glc (glc (glc gl0))))
        (s_one (s_if (t_cmp (op_eqA hr.units) od_eq (e_ix ix_seq od_ix (e_var (i := 4) (pv 4)) (e_var (i := 10) (pv 10)) (fun _ _ => rfl)) (e_var (i := 6) (pv 6)) (nomark _))
          (s_one (s_dtPt (i := 7) hw (hr65 hr) (pv 7) (e_var (i := 12) (pv 12)) (e_bin or_add od_add (e_dtGd (i := 7) hw (hr65 hr) (pv 7) (e_var (i := 12) (pv 12)) e_int ⟨rfl, rfl, rfl, rfl⟩) (e_var (i := 9) (pv 9))) (by rfl)))
          s_nil)))))
    (s_one (s_dtMv (i := 5) (j := 7) hw (pv 7) (fun h => ps_set (i := 5) sc_count_with_costs.nd rfl (by first | exact Or.inl rfl | exact Or.inr rfl) h))))))
  (s_one (s_ret (e_bin op_mulW od_mul (e_sumT (i := 5) hw rfl (pv 5) rfl z_sum) (e_callMB cr_fac cd_fac rfl z_factorial (a_cons (e_bin op_sub od_sub (e_callB call_len cd_len rfl z_len (by decide +kernel) (a_cons (e_var (i := 1) (pv 1)) a_nil)) (e_callB call_len cd_len rfl z_len (by decide +kernel) (a_cons (e_var (i := 2) (pv 2)) a_nil))) a_nil)))))))))))
abbrev S__law_right : Stmt := topS 41
abbrev N__law_right : List Str := ["pot", "most", "office", "names", "order", "seating", "some", "turn", "kept", "costs", "deep", "numbers", "row", "change", "due", "told"]
theorem sc__law_right : FnScope N__law_right ["pot", "most"] (defScope S__law_right) := ⟨rfl, rfl, rfl, by decide +kernel, rfl, by decide +kernel, by decide +kernel⟩
theorem ok__law_right {f : Addr} {fd : FuncData} (F : Fun K "_law_right" "_law_right" S__law_right f fd)
    {f__law_office : Addr} {fd__law_office : FuncData} (G__law_office : FnG P w K mg base 2 f__law_office fd__law_office ["pot", "most"] (spM K mg m__law_officeP 2)) (g__law_office : mg "_law_office" = some (.ref f__law_office)) (k__law_office : PySem.W.keepIn K (.ref f__law_office) = true) (b__law_office : Binds K fd__law_office ["pot", "most"] [])
    {f__law_names : Addr} {fd__law_names : FuncData} (G__law_names : FnG P w K mg base 3 f__law_names fd__law_names ["pot", "many"] (spM K mg m__law_namesP 2)) (g__law_names : mg "_law_names" = some (.ref f__law_names)) (k__law_names : PySem.W.keepIn K (.ref f__law_names) = true) (b__law_names : Binds K fd__law_names ["pot", "many"] [])
    {f__law_all : Addr} {fd__law_all : FuncData} (G__law_all : FnG P w K mg base 1 f__law_all fd__law_all ["names"] (spM K mg m__law_allP 1)) (g__law_all : mg "_law_all" = some (.ref f__law_all)) (k__law_all : PySem.W.keepIn K (.ref f__law_all) = true) (b__law_all : Binds K fd__law_all ["names"] [])
    {f__law_depths : Addr} {fd__law_depths : FuncData} (G__law_depths : FnG P w K mg base 1 f__law_depths fd__law_depths ["office"] (spM K mg m__law_depthsP 1)) (g__law_depths : mg "_law_depths" = some (.ref f__law_depths)) (k__law_depths : PySem.W.keepIn K (.ref f__law_depths) = true) (b__law_depths : Binds K fd__law_depths ["office"] [])
    {f__law_costs : Addr} {fd__law_costs : FuncData} (G__law_costs : FnG P w K mg base 1 f__law_costs fd__law_costs ["office", "deep", "seating", "order"] (spM K mg m__law_costsP 4)) (g__law_costs : mg "_law_costs" = some (.ref f__law_costs)) (k__law_costs : PySem.W.keepIn K (.ref f__law_costs) = true) (b__law_costs : Binds K fd__law_costs ["office", "deep", "seating", "order"] [])
    {f__law_mixed : Addr} {fd__law_mixed : FuncData} (G__law_mixed : FnG P w K mg base 2 f__law_mixed fd__law_mixed ["pot", "things"] (spM K mg m__law_mixedP 2)) (g__law_mixed : mg "_law_mixed" = some (.ref f__law_mixed)) (k__law_mixed : PySem.W.keepIn K (.ref f__law_mixed) = true) (b__law_mixed : Binds K fd__law_mixed ["pot", "things"] [])
    {f__law_draw : Addr} {fd__law_draw : FuncData} (G__law_draw : FnG P w K mg base 1 f__law_draw fd__law_draw ["pot", "bound"] (spM K mg m__law_drawP 2)) (g__law_draw : mg "_law_draw" = some (.ref f__law_draw)) (k__law_draw : PySem.W.keepIn K (.ref f__law_draw) = true) (b__law_draw : Binds K fd__law_draw ["pot", "bound"] [])
    {f_count_with_costs : Addr} {fd_count_with_costs : FuncData} (G_count_with_costs : FnG P w K mg base 9 f_count_with_costs fd_count_with_costs ["office", "names", "order", "costs"] (spW w K mg m_count_with_costs 4)) (g_count_with_costs : mg "count_with_costs" = some (.ref f_count_with_costs)) (k_count_with_costs : PySem.W.keepIn K (.ref f_count_with_costs) = true) (b_count_with_costs : Binds K fd_count_with_costs ["office", "names", "order", "costs"] [])
    (z_tuple : mg "tuple" = none)
    (z_range : mg "range" = none)
    (z_repr : mg "repr" = none)
    (z_list : mg "list" = none)
    (z_len : mg "len" = none)
    (z_int : mg "int" = none)
    (z_max : mg "max" = none) : FnG P w K mg base 10 f fd ["pot", "most"] (spW w K mg m__law_rightP 2) :=
  fn_okW F sc__law_right fun cdv A outer sh H E C hw gd hr => (s_cons (s_set (i := 2) (e_call G__law_office gd (hr.mono (by decide)) rfl g__law_office k__law_office b__law_office (takes_of rfl rfl rfl rfl) (g_ref (i := 0) (pv 0) (g_val (e_var (i := 1) (pv 1)) g_nil)) (lnr (lnv ln0))) (fun h => ps_set (i := 2) sc__law_right.nd rfl (by first | exact Or.inl rfl | exact Or.inr rfl) h))
  (s_cons (s_while 100 (passes_of rfl) (PW.pt (w_and (t_cmp (op_eqA hr.units) od_eq (e_var (i := 1) (pv 1)) e_int (nomark _)) (pw_and1 (t_cmp op_lt od_lt (e_callB call_len cd_len rfl z_len (by decide +kernel) (a_cons (e_var (i := 2) (pv 2)) a_nil)) e_int (nomark _)))))
    (s_one (s_set (i := 2) (e_bin or_add od_add (e_var (i := 2) (pv 2)) (e_tup (a_cons (e_call G__law_draw gd (hr.mono (by decide)) rfl g__law_draw k__law_draw b__law_draw (takes_of rfl rfl rfl rfl) (g_ref (i := 0) (pv 0) (g_val (e_bin or_add od_add (e_callB call_len cd_len rfl z_len (by decide +kernel) (a_cons (e_var (i := 2) (pv 2)) a_nil)) e_int) g_nil)) (lnr (lnv ln0))) a_nil))) (fun h => ps_set (i := 2) sc__law_right.nd rfl (by first | exact Or.inl rfl | exact Or.inr rfl) h))))
  (s_cons (s_set (i := 3) (e_call G__law_names gd (hr.mono (by decide)) rfl g__law_names k__law_names b__law_names (takes_of rfl rfl rfl rfl) (g_ref (i := 0) (pv 0) (g_val (e_bin or_add od_add (e_callB call_len cd_len rfl z_len (by decide +kernel) (a_cons (e_var (i := 2) (pv 2)) a_nil)) e_int) g_nil)) (lnr (lnv ln0))) (fun h => ps_set (i := 3) sc__law_right.nd rfl (by first | exact Or.inl rfl | exact Or.inr rfl) h))
  (s_cons (s_set (i := 4) (e_callTy call_tupF cd_tup rfl z_tuple (by decide +kernel) (a_cons (e_cut (e_of_n (n_call G__law_mixed gd (hr.mono (by decide)) rfl g__law_mixed k__law_mixed b__law_mixed (takes_of rfl rfl rfl rfl) (g_ref (i := 0) (pv 0) (g_val (e_var (i := 3) (pv 3)) g_nil)) (lnr (lnv ln0)))) p_none (p_some (e_bin op_sub od_sub (e_callB call_len cd_len rfl z_len (by decide +kernel) (a_cons (e_var (i := 3) (pv 3)) a_nil)) (e_call G__law_draw gd (hr.mono (by decide)) rfl g__law_draw k__law_draw b__law_draw (takes_of rfl rfl rfl rfl) (g_ref (i := 0) (pv 0) (g_val (e_ix ix_seq od_ix (e_of_n (n_lst (a_cons e_int (a_cons (e_bin or_add od_add (e_callB call_len cd_len rfl z_len (by decide +kernel) (a_cons (e_var (i := 3) (pv 3)) a_nil)) e_int) a_nil)))) (e_call G__law_draw gd (hr.mono (by decide)) rfl g__law_draw k__law_draw b__law_draw (takes_of rfl rfl rfl rfl) (g_ref (i := 0) (pv 0) (g_val e_int g_nil)) (lnr (lnv ln0))) (fun _ _ => rfl)) g_nil)) (lnr (lnv ln0)))))) a_nil)) (fun h => ps_set (i := 4) sc__law_right.nd rfl (by first | exact Or.inl rfl | exact Or.inr rfl) h))
  (s_cons (s_parVDc (i := 10) (j := 11) hw (e_of_n (n_call G__law_depths gd (hr.mono (by decide)) rfl g__law_depths k__law_depths b__law_depths (takes_of rfl rfl rfl rfl) (g_val (e_var (i := 2) (pv 2)) g_nil) (lnv ln0))) (fun h1 h2 => ps_asg (pe_tup (pa_cons h1 (pa_cons h2 pa_nil))) (pg_tup rfl (pgs_cons (pg_name (i := 10) sc__law_right.nd rfl (by first | exact Or.inl rfl | exact Or.inr rfl)) (pgs_cons (pg_name (i := 11) sc__law_right.nd rfl (by first | exact Or.inl rfl | exact Or.inr rfl)) pgs_nil)))))
  (s_cons (s_for (passes_of rfl) rfl plain_nm (i_seq (e_call G__law_all gd (hr.mono (by decide)) rfl g__law_all k__law_all b__law_all (takes_of rfl rfl rfl rfl) (g_val (e_var (i := 3) (pv 3)) g_nil) (lnv ln0))) (g_name (pg_name (i := 5) sc__law_right.nd rfl (by first | exact Or.inl rfl | exact Or.inr rfl)))
    (s_cons (s_set (i := 9) (e_call G__law_costs gd (hr.mono (by decide)) rfl g__law_costs k__law_costs b__law_costs (takes_of rfl rfl rfl rfl) (g_val (e_var (i := 2) (pv 2)) (g_val (e_var (i := 10) (pv 10)) (g_val (e_var (i := 5) (pv 5)) (g_val (e_var (i := 4) (pv 4)) g_nil)))) (lnv (lnv (lnv (lnv ln0))))) (fun h => ps_set (i := 9) sc__law_right.nd rfl (by first | exact Or.inl rfl | exact Or.inr rfl) h))
    (s_one (s_dtPt (i := 11) hw (hr65 hr) (pv 11) (e_var (i := 9) (pv 9)) (e_bin or_add od_add (e_dtGd (i := 11) hw (hr65 hr) (pv 11) (e_var (i := 9) (pv 9)) e_int ⟨rfl, rfl, rfl, rfl⟩) e_int) (by rfl)))))
  (s_cons (lc_set (i := 6) rfl sc__law_right.nd rfl rfl (sw_true rfl rfl rfl (by decide +kernel)) (own := [("turn", 7)]) plain_nm (by decide) (i_rng1 rfl z_range (a_cons e_int a_nil)) (blkOk_by (own := [("turn", 7)]) (N := N__law_right) (sc := defScope S__law_right) (by decide +kernel)) (fun _ _ _ _ _ C1 => have hw := C1.2.trans hw; (g_name (pg_name (i := 7) sc__law_right.nd rfl (by first | exact Or.inl rfl | exact Or.inr rfl)))) (fun _ _ _ _ _ C1 => have hw := C1.2.trans hw; ts_nil) (fun _ _ _ _ _ C1 => have hw := C1.2.trans hw; (e_call G__law_costs gd (hr.mono (by decide)) rfl g__law_costs k__law_costs b__law_costs takes0 (g_val (e_var (i := 2) (pv 2)) (g_val (e_var (i := 10) (pv 10)) (g_val (e_rdT call_tupF ld_tup rfl z_tuple (by decide +kernel) (l_of_n (n_call G__law_mixed gd (hr.mono (by decide)) rfl g__law_mixed k__law_mixed b__law_mixed takes0 (g_ref (i := 0) (pv 0) (g_val (e_var (i := 3) (pv 3)) g_nil)) (lnr (lnv ln0))))) (g_val (e_var (i := 4) (pv 4)) g_nil)))) (lnv (lnv (lnv (lnv ln0)))))) (fun _ _ _ h => asgN h))
  (s_cons (s_for (passes_of rfl) rfl plain_nm (i_rng1 rfl z_range (a_cons e_int a_nil)) (g_name (pg_name (i := 7) sc__law_right.nd rfl (by first | exact Or.inl rfl | exact Or.inr rfl)))
    (s_cons (s_setNew (i := 12) (n_list rfl z_list (by decide +kernel) (a_cons (e_ixV (i := 6) (pv 6) (e_bin op_mod od_mod (e_var (i := 7) (pv 7)) e_int) (fun _ _ => rfl)) a_nil)) (fun h => ps_set (i := 12) sc__law_right.nd rfl (by first | exact Or.inl rfl | exact Or.inr rfl) h))
    (s_cons (s_for (passes_of rfl) rfl plain_nm (i_rng1 rfl z_range (a_cons (e_bin op_mulW od_mul (e_bin or_add od_add e_int (e_call G__law_draw gd (hr.mono (by decide)) rfl g__law_draw k__law_draw b__law_draw (takes_of rfl rfl rfl rfl) (g_ref (i := 0) (pv 0) (g_val e_int g_nil)) (lnr (lnv ln0)))) (e_callTy call_int1 cd_int rfl z_int (by decide +kernel) (a_cons (e_cmp (op_neA hr.units) od_ne (e_var (i := 4) (pv 4)) (e_tup a_nil) (nomark _)) a_nil))) a_nil)) (g_name (pg_name (i := 13) sc__law_right.nd rfl (by first | exact Or.inl rfl | exact Or.inr rfl)))
      (s_one (s_setIxP (i := 12) (fun h1 h2 => ps_asg h1 (pg_sub (pv 12) h2 set_list)) (e_call G__law_draw gd (hr.mono (by decide)) rfl g__law_draw k__law_draw b__law_draw (takes_of rfl rfl rfl rfl) (g_ref (i := 0) (pv 0) (g_val (e_bin or_add od_add (e_rdB (cr_max rfl) ld_max rfl z_max (by decide +kernel) (l_var (i := 10) (pv 10))) e_int) g_nil)) (lnr (lnv ln0))) (e_call G__law_draw gd (hr.mono (by decide)) rfl g__law_draw k__law_draw b__law_draw (takes_of rfl rfl rfl rfl) (g_ref (i := 0) (pv 0) (g_val (e_rdB call_len ld_len rfl z_len (by decide +kernel) (l_var (i := 12) (pv 12))) g_nil)) (lnr (lnv ln0))))))
    (s_one (s_expr (e_app (i := 6) (fun h => pe_bm PySem.F.plainAttrs_list PySem.F.slot_list_append PySem.F.type_list_append mt_append (pv 6) (pa_cons h pa_nil)) (e_rdT call_tupF ld_tup rfl z_tuple (by decide +kernel) (l_var (i := 12) (pv 12)))))))))
  (s_cons (s_if (t_cmp (op_neA hr.units) od_ne (e_var (i := 4) (pv 4)) (e_tup a_nil) (nomark _))
    (s_one (s_setNew (i := 6) (n_catV (i := 6) (pv 6) (e_of_n (n_lst (a_cons (e_bin or_add od_add (e_cut (e_ixV (i := 6) (pv 6) e_int (fun _ _ => rfl)) p_none (p_some (e_neg e_int))) (e_tup (a_cons (e_bin op_pow od_pow e_int e_int) a_nil))) (a_cons (e_bin or_add od_add (e_tup (a_cons (e_bin or_add od_add (e_bin or_add od_add (e_callB call_len cd_len rfl z_len (by decide +kernel) (a_cons (e_var (i := 3) (pv 3)) a_nil)) e_int) (e_call G__law_draw gd (hr.mono (by decide)) rfl g__law_draw k__law_draw b__law_draw (takes_of rfl rfl rfl rfl) (g_ref (i := 0) (pv 0) (g_val e_int g_nil)) (lnr (lnv ln0)))) a_nil)) (e_cut (e_ixV (i := 6) (pv 6) e_int (fun _ _ => rfl)) (p_some e_int) p_none)) a_nil))))) (fun h => ps_set (i := 6) sc__law_right.nd rfl (by first | exact Or.inl rfl | exact Or.inr rfl) h)))
    s_nil)
  (ss_frz 6 (s_cons (s_set (i := 8) (e_rdB (call_reprL gd (hr100 hr)) ld_repr rfl z_repr (by decide +kernel) (l_of_n (n_lst (a_cons (e_var (i := 2) (pv 2)) (a_cons (e_var (i := 3) (pv 3)) (a_cons (e_var (i := 4) (pv 4)) (a_cons (e_var (i := 6) (pv 6)) a_nil))))))) (fun h => ps_set (i := 8) sc__law_right.nd rfl (by first | exact Or.inl rfl | exact Or.inr rfl) h))
  (s_cons (s_for (passes_of rfl) rfl plain_nm (i_list (e_var (i := 6) (pv 6))) (g_name (pg_name (i := 9) sc__law_right.nd rfl (by first | exact Or.inl rfl | exact Or.inr rfl)))
    (s_cons (s_set (i := 14) (e_dtGd (i := 11) hw (hr65 hr) (pv 11) (e_var (i := 9) (pv 9)) e_int ⟨rfl, rfl, rfl, rfl⟩) (fun h => ps_set (i := 14) sc__law_right.nd rfl (by first | exact Or.inl rfl | exact Or.inr rfl) h))
    (s_cons (s_setNew (i := 15) (n_lst (a_cons (e_call G_count_with_costs gd (hr.mono (by decide)) rfl g_count_with_costs k_count_with_costs b_count_with_costs (takes_of rfl rfl rfl rfl) (g_val (e_var (i := 2) (pv 2)) (g_val (e_var (i := 3) (pv 3)) (g_val (e_var (i := 4) (pv 4)) (g_val (e_var (i := 9) (pv 9)) g_nil)))) (lnv (lnv (lnv (lnv ln0))))) a_nil)) (fun h => ps_set (i := 15) sc__law_right.nd rfl (by first | exact Or.inl rfl | exact Or.inr rfl) h))
    (s_cons (s_expr (e_app (i := 15) (fun h => pe_bm PySem.F.plainAttrs_list PySem.F.slot_list_append PySem.F.type_list_append mt_append (pv 15) (pa_cons h pa_nil)) (e_call G_count_with_costs gd (hr.mono (by decide)) rfl g_count_with_costs k_count_with_costs b_count_with_costs (takes_of rfl rfl rfl rfl) (g_val (e_var (i := 2) (pv 2)) (g_val (e_rdT call_tupF ld_tup rfl z_tuple (by decide +kernel) (l_of_n (n_call G__law_mixed gd (hr.mono (by decide)) rfl g__law_mixed k__law_mixed b__law_mixed (takes_of rfl rfl rfl rfl) (g_ref (i := 0) (pv 0) (g_val (e_var (i := 3) (pv 3)) g_nil)) (lnr (lnv ln0))))) (g_val (e_var (i := 4) (pv 4)) (g_val (e_var (i := 9) (pv 9)) g_nil)))) (lnv (lnv (lnv (lnv ln0)))))))
    (s_one (s_if (t_cmp (op_neA hr.units) od_ne (e_rdB (call_reprL gd (hr100 hr)) ld_repr rfl z_repr (by decide +kernel) (l_var (i := 15) (pv 15))) (e_rdB (call_reprL gd (hr100 hr)) ld_repr rfl z_repr (by decide +kernel) (l_of_n (n_lst (a_cons (e_var (i := 14) (pv 14)) (a_cons (e_var (i := 14) (pv 14)) a_nil))))) (nomark _))
      (s_one (s_ret e_bl))
      s_nil))))))
  (s_one (s_ret (e_cmp (op_eqA hr.units) od_eq (e_rdB (call_reprL gd (hr100 hr)) ld_repr rfl z_repr (by decide +kernel) (l_of_n (n_lst (a_cons (e_var (i := 2) (pv 2)) (a_cons (e_var (i := 3) (pv 3)) (a_cons (e_var (i := 4) (pv 4)) (a_cons (e_var (i := 6) (pv 6)) a_nil))))))) (e_var (i := 8) (pv 8)) (nomark _))))))))))))))))
abbrev S_law : Stmt := topS 42
abbrev N_law : List Str := ["script", "k", "pot"]
theorem sc_law : FnScope N_law ["script"] (defScope S_law) := ⟨rfl, rfl, rfl, by decide +kernel, rfl, by decide +kernel, by decide +kernel⟩
theorem ok_law {f : Addr} {fd : FuncData} (F : Fun K "law" "law" S_law f fd)
    {f__law_pot : Addr} {fd__law_pot : FuncData} (G__law_pot : FnG P w K mg base 1 f__law_pot fd__law_pot ["script", "k"] (spM K mg m__law_potP 2)) (g__law_pot : mg "_law_pot" = some (.ref f__law_pot)) (k__law_pot : PySem.W.keepIn K (.ref f__law_pot) = true) (b__law_pot : Binds K fd__law_pot ["script", "k"] [])
    {f_count_with_costs : Addr} {fd_count_with_costs : FuncData} (G_count_with_costs : FnG P w K mg base 9 f_count_with_costs fd_count_with_costs ["office", "names", "order", "costs"] (spW w K mg m_count_with_costs 4)) (g_count_with_costs : mg "count_with_costs" = some (.ref f_count_with_costs)) (k_count_with_costs : PySem.W.keepIn K (.ref f_count_with_costs) = true) (b_count_with_costs : Binds K fd_count_with_costs ["office", "names", "order", "costs"] [])
    {f__law_right : Addr} {fd__law_right : FuncData} (G__law_right : FnG P w K mg base 10 f__law_right fd__law_right ["pot", "most"] (spW w K mg m__law_rightP 2)) (g__law_right : mg "_law_right" = some (.ref f__law_right)) (k__law_right : PySem.W.keepIn K (.ref f__law_right) = true) (b__law_right : Binds K fd__law_right ["pot", "most"] [])
    (z_range : mg "range" = none)
    (z_max : mg "max" = none)
    (z_min : mg "min" = none)
    (z_tuple : mg "tuple" = none)
    (z_len : mg "len" = none)
    (z_int : mg "int" = none) : FnG P w K mg base 11 f fd ["script"] (spW w K mg m_law 1) :=
  fn_okW F sc_law fun cdv A outer sh H E C hw gd hr => (s_cons (s_for (passes_of rfl) rfl plain_nm (i_rng1 rfl z_range (a_cons (e_callB (call_max2 rfl) cd_max rfl z_max (by decide +kernel) (a_cons e_int (a_cons (e_callB (call_min2 rfl) cd_min rfl z_min (by decide +kernel) (a_cons e_int (a_cons (e_callB call_len cd_lenS rfl z_len (by decide +kernel) (a_cons (e_var (i := 0) (pv 0)) a_nil)) a_nil))) a_nil))) a_nil)) (g_name (pg_name (i := 1) sc_law.nd rfl (by first | exact Or.inl rfl | exact Or.inr rfl)))
    (s_cons (s_setNew (i := 2) (n_call G__law_pot gd (hr.mono (by decide)) rfl g__law_pot k__law_pot b__law_pot (takes_of rfl rfl rfl rfl) (g_val (e_var (i := 0) (pv 0)) (g_val (e_var (i := 1) (pv 1)) g_nil)) (lnv (lnv ln0))) (fun h => ps_set (i := 2) sc_law.nd rfl (by first | exact Or.inl rfl | exact Or.inr rfl) h))
    (s_one (s_if (PW.pt (w_or (t_not (t_val (e_call G__law_right gd (hr.mono (by decide)) rfl g__law_right k__law_right b__law_right (takes_of rfl rfl rfl rfl) (g_ref (i := 2) (pv 2) (g_val (e_ix ix_seq od_ix (e_of_n (n_lst (a_cons e_int (a_cons e_int a_nil)))) (e_callTy call_int1 cd_int rfl z_int (by decide +kernel) (a_cons (e_cmp (op_eqA hr.units) od_eq (e_var (i := 1) (pv 1)) e_int (nomark _)) a_nil)) (fun _ _ => rfl)) g_nil)) (lnr (lnv ln0))))) (pw_or1 (t_not (t_val (e_call G__law_right gd (hr.mono (by decide)) rfl g__law_right k__law_right b__law_right (takes_of rfl rfl rfl rfl) (g_ref (i := 2) (pv 2) (g_val e_int g_nil)) (lnr (lnv ln0))))))))
      (s_one (s_ret e_bl))
      s_nil))))
  (s_one (s_ret (e_cmp (op_eqA hr.units) od_eq (e_call G_count_with_costs gd (hr.mono (by decide)) rfl g_count_with_costs k_count_with_costs b_count_with_costs (takes_of rfl rfl rfl rfl) (g_val (e_tup (a_cons e_int (a_cons e_int (a_cons e_int a_nil)))) (g_val (e_callTy (call_tupSt rfl) cd_tupSt rfl z_tuple (by decide +kernel) (a_cons e_str a_nil)) (g_val (e_callTy (call_tupSt rfl) cd_tupSt rfl z_tuple (by decide +kernel) (a_cons e_str a_nil)) (g_val (e_tup (a_cons e_int (a_cons e_int (a_cons e_int (a_cons e_int a_nil))))) g_nil)))) (lnv (lnv (lnv (lnv ln0))))) e_int (nomark _)))))
end
end Ds
end
section
set_option Elab.async false
set_option linter.all false
set_option maxRecDepth 100000
set_option maxHeartbeats 1000000
open PySem PySem.Spec PyProof.Rows L2
namespace Ds
def dInt : PyData → Bool
  | .bool _ => true
  | .int _ => true
  | _ => false
theorem kit_int (d : PyData) : kitB (tyN d) "int" = some (dInt d) := by
  cases d
  · exact (by decide +kernel : kitB "NoneType" "int" = some false)
  · exact (by decide +kernel : kitB "bool" "int" = some true)
  · exact (by decide +kernel : kitB "int" "int" = some true)
  · exact (by decide +kernel : kitB "str" "int" = some false)
  · exact (by decide +kernel : kitB "list" "int" = some false)
  · exact (by decide +kernel : kitB "tuple" "int" = some false)
  · exact (by decide +kernel : kitB "dict" "int" = some false)
def dBool : PyData → Bool
  | .bool _ => true
  | _ => false
theorem kit_bool (d : PyData) : kitB (tyN d) "bool" = some (dBool d) := by
  cases d
  · exact (by decide +kernel : kitB "NoneType" "bool" = some false)
  · exact (by decide +kernel : kitB "bool" "bool" = some true)
  · exact (by decide +kernel : kitB "int" "bool" = some false)
  · exact (by decide +kernel : kitB "str" "bool" = some false)
  · exact (by decide +kernel : kitB "list" "bool" = some false)
  · exact (by decide +kernel : kitB "tuple" "bool" = some false)
  · exact (by decide +kernel : kitB "dict" "bool" = some false)
def dTup : PyData → Bool
  | .tuple _ => true
  | _ => false
theorem kit_tuple (d : PyData) : kitB (tyN d) "tuple" = some (dTup d) := by
  cases d
  · exact (by decide +kernel : kitB "NoneType" "tuple" = some false)
  · exact (by decide +kernel : kitB "bool" "tuple" = some false)
  · exact (by decide +kernel : kitB "int" "tuple" = some false)
  · exact (by decide +kernel : kitB "str" "tuple" = some false)
  · exact (by decide +kernel : kitB "list" "tuple" = some false)
  · exact (by decide +kernel : kitB "tuple" "tuple" = some true)
  · exact (by decide +kernel : kitB "dict" "tuple" = some false)
@[simp] theorem kb_int_NoneType : kitB "NoneType" "int" = some false := by decide +kernel
@[simp] theorem kb_int_bool : kitB "bool" "int" = some true := by decide +kernel
@[simp] theorem kb_int_int : kitB "int" "int" = some true := by decide +kernel
@[simp] theorem kb_int_str : kitB "str" "int" = some false := by decide +kernel
@[simp] theorem kb_int_list : kitB "list" "int" = some false := by decide +kernel
@[simp] theorem kb_int_tuple : kitB "tuple" "int" = some false := by decide +kernel
@[simp] theorem kb_int_dict : kitB "dict" "int" = some false := by decide +kernel
@[simp] theorem kb_bool_NoneType : kitB "NoneType" "bool" = some false := by decide +kernel
@[simp] theorem kb_bool_bool : kitB "bool" "bool" = some true := by decide +kernel
@[simp] theorem kb_bool_int : kitB "int" "bool" = some false := by decide +kernel
@[simp] theorem kb_bool_str : kitB "str" "bool" = some false := by decide +kernel
@[simp] theorem kb_bool_list : kitB "list" "bool" = some false := by decide +kernel
@[simp] theorem kb_bool_tuple : kitB "tuple" "bool" = some false := by decide +kernel
@[simp] theorem kb_bool_dict : kitB "dict" "bool" = some false := by decide +kernel
@[simp] theorem kb_tuple_NoneType : kitB "NoneType" "tuple" = some false := by decide +kernel
@[simp] theorem kb_tuple_bool : kitB "bool" "tuple" = some false := by decide +kernel
@[simp] theorem kb_tuple_int : kitB "int" "tuple" = some false := by decide +kernel
@[simp] theorem kb_tuple_str : kitB "str" "tuple" = some false := by decide +kernel
@[simp] theorem kb_tuple_list : kitB "list" "tuple" = some false := by decide +kernel
@[simp] theorem kb_tuple_tuple : kitB "tuple" "tuple" = some true := by decide +kernel
@[simp] theorem kb_tuple_dict : kitB "dict" "tuple" = some false := by decide +kernel
@[simp] theorem g_le {i j : Int} : gLe (.int i) (.int j) = some (.bool (decide (i ≤ j))) := rfl
@[simp] theorem g_lt {i j : Int} : gLt (.int i) (.int j) = some (.bool (decide (i < j))) := rfl
@[simp] theorem g_ge {i j : Int} : gGe (.int i) (.int j) = some (.bool (decide (j ≤ i))) := rfl
@[simp] theorem g_gt {i j : Int} : gGt (.int i) (.int j) = some (.bool (decide (j < i))) := rfl
@[simp] theorem g_sub {i j : Int} : gSub_ (.int i) (.int j) = some (.int (i - j)) := rfl
@[simp] theorem g_add {i j : Int} : gAdd (.int i) (.int j) = some (.int (i + j)) := rfl
@[simp] theorem g_mul {i j : Int} : gMul (.int i) (.int j) = if i.natAbs.log2 + j.natAbs.log2 < 1000000 then some (.int (i * j)) else none := by simp [gMul, gII, cMul]
@[simp] theorem g_mod {i j : Int} : gMod (.int i) (.int j) = if 0 < j then some (.int (i % j)) else none := by simp [gMod, gII, cMod]
@[simp] theorem g_div {i j : Int} : gDiv (.int i) (.int j) = if 0 < j ∧ j.natAbs.log2 < 9000 then some (.int (i / j)) else none := by simp [gDiv, gII, cDiv]
@[simp] theorem g_pow {i j : Int} : gPow (.int i) (.int j) = if 0 ≤ j ∧ j ≤ 1000000 ∧ i.natAbs < 2 ^ 64 then some (.int (i ^ j.toNat)) else none := by simp [gPow, gII, cPow]
@[simp] theorem g_max {i j : Int} : gMax [.int i, .int j] = some (.int (if j > i then j else i)) := rfl
@[simp] theorem g_len1 {ds : List PyData} : gLen [.tuple ds] = some (.int ds.length) := rfl
@[simp] theorem g_ixl {ds : List PyData} {i : Int} : gIx (.list ds) (.int i) = atI ds i := rfl
@[simp] theorem g_ixt {ds : List PyData} {i : Int} : gIx (.tuple ds) (.int i) = atI ds i := rfl
def nIn (l h : Int) (d : PyData) : Bool := match d with | .int n => decide (l ≤ n ∧ n ≤ h) | _ => false
theorem lg_lt {x : Int} {k : Nat} (hk : 0 < k) (h0 : 0 ≤ x) (h : x < 2 ^ k) : x.natAbs.log2 < k := by
  have h2 : x.natAbs < 2 ^ k := by
    have e : ((x.natAbs : Nat) : Int) = x := Int.natAbs_of_nonneg h0
    have : ((x.natAbs : Nat) : Int) < ((2 ^ k : Nat) : Int) := by rw [e]; simpa using h
    exact Int.ofNat_lt.mp this
  by_cases z : x.natAbs = 0
  · rw [z]; simpa using hk
  · exact (Nat.log2_lt z).mpr h2
theorem atI_nn {α : Type} {xs : List α} {i : Int} (h : 0 ≤ i) : atI xs i = xs[i.toNat]? := by
  unfold atI ixN
  rw [if_pos h]
  by_cases c : i < xs.length
  · rw [if_pos c]; rfl
  · rw [if_neg c]
    have : xs.length ≤ i.toNat := by omega
    simp [this]
@[simp] theorem atI_0 {α : Type} {x : α} {xs : List α} : atI (x :: xs) 0 = some x := by rw [atI_nn (by decide)]; rfl
@[simp] theorem atI_1 {α : Type} {x y : α} {xs : List α} : atI (x :: y :: xs) 1 = some y := by rw [atI_nn (by decide)]; rfl
@[simp] theorem atI_2 {α : Type} {x y z : α} {xs : List α} : atI (x :: y :: z :: xs) 2 = some z := by rw [atI_nn (by decide)]; rfl
@[simp] theorem setI_0 {x y : PyData} {xs : List PyData} : setI (x :: xs) (.int 0) y = some (y :: xs) := by
  show (if (0:Int) ≤ 0 ∧ (0:Int) < (x :: xs).length then some ((x :: xs).set (0:Int).toNat y) else none) = _; rw [if_pos ⟨by decide, by simp⟩]; rfl
@[simp] theorem setI_2 {x y z u : PyData} {xs : List PyData} : setI (x :: y :: z :: xs) (.int 2) u = some (x :: y :: u :: xs) := by
  show (if (0:Int) ≤ 2 ∧ (2:Int) < (x :: y :: z :: xs).length then some ((x :: y :: z :: xs).set (2:Int).toNat u) else none) = _; rw [if_pos ⟨by decide, by simp; omega⟩]; rfl
theorem okEq_int {i : Int} : okEq (.int i) = true := by simp [okEq, SeqAt.shaped, PyData.hasDict, PyData.canLay0, PyData.depth]
theorem beq_dec {i j : Int} : (i == j) = decide (i = j) := by rw [Bool.eq_iff_iff]; simp
@[simp] theorem g_ne {i j : Int} : gNe (.int i) (.int j) = some (.bool (!decide (i = j))) := by
  show (if okEq (.int i) = true ∧ okEq (.int j) = true then some (PyData.bool (!PyData.eqv (.int i) (.int j))) else none) = _
  rw [if_pos ⟨okEq_int, okEq_int⟩]; simp [PyData.eqv, beq_dec]
@[simp] theorem g_eq {i j : Int} : gEq (.int i) (.int j) = some (.bool (decide (i = j))) := by
  show (if okEq (.int i) = true ∧ okEq (.int j) = true then some (PyData.bool (PyData.eqv (.int i) (.int j))) else none) = _
  rw [if_pos ⟨okEq_int, okEq_int⟩]; simp [PyData.eqv, beq_dec]
@[simp] theorem g_neS {i : Str} : gNe (.str i) (.str i) = some (.bool false) := by
  show some (PyData.bool (!(i == i))) = _
  simp
end Ds
end
section
set_option Elab.async false
set_option linter.all false
set_option maxRecDepth 100000
set_option maxHeartbeats 1000000
open PySem PySem.Spec PyProof.Rows L2
namespace Ds
theorem is_whole_ok (d : PyData) : ∃ T, m_is_whole [.val d] = .ok (.val (.bool (dInt d && !dBool d))) T := by
  cases d <;> simp [m_is_whole, c_is_whole, kit_int, kit_bool, dInt, dBool]
theorem is_num (d : PyData) (l h : Int) : ∃ T, m_is_number [.val d, .val (.int l), .val (.int h)] = .ok (.val (.bool (nIn l h d))) T := by
  obtain ⟨T, e⟩ := is_whole_ok d
  cases d with
  | int n => by_cases c : l ≤ n <;> simp [m_is_number, c_is_number, e, nIn, c, dInt, dBool]
  | _ => simp [m_is_number, c_is_number, e, nIn, dInt, dBool]
def Off (os : List Nat) : Prop := os.length ≤ 39 ∧ ∀ (i x : Nat), os[i]? = some x → x ≤ i
def offIt : PyData → Bool
  | .tuple [.int i, x] => nIn 0 i x
  | _ => false
def offB (d : PyData) : Bool := match d with
  | .tuple ds => decide (ds.length < 40) && (enumD ds).all offIt
  | _ => false
theorem bls_bools : ∀ bs : List Bool, bls (bs.map PyData.bool) = some bs
  | [] => rfl
  | b :: bs => by simp [bls, bls_bools bs]
theorem lAll_map {f : PyData → Bool} {ds : List PyData} : lAll (ds.mapIdx fun _ z => .bool (f z)) = some (.bool (ds.all f)) := by
  have e : (ds.mapIdx fun _ z => PyData.bool (f z)) = (ds.map f).map PyData.bool := by
    rw [List.map_map]
    apply List.ext_getElem?
    intro i
    simp
    cases ds[i]? <;> rfl
  rw [e]
  unfold lAll
  rw [bls_bools]
  simp [List.all_map]
theorem is_off (d : PyData) : ∃ T, m_is_office [.val d] = .ok (.val (.bool (offB d))) T := by
  cases d with
  | tuple ds =>
    by_cases c : ds.length < 40
    · have hl : lcL (gTp (gNC (gNm 1) (gNC (gNm 2) gN0))) sYes (sCallV m_is_number (sGv (sVar 2) (sGv (sK (.int 0)) (sGv (sVar 1) sG0)))) [1, 2] (enumD ds) [.val (.tuple ds), .nil, .nil] = .ok ((enumD ds).mapIdx fun _ z => .bool (offIt z)) [.val (.tuple ds), .nil, .nil] := by
        refine lc_map fun i z hz => ?_
        obtain ⟨x, hx, rfl⟩ := enumD_get hz
        obtain ⟨T, e⟩ := is_num x 0 (i : Nat)
        refine ⟨[.val (.tuple ds), .val (.int (i : Nat)), .val x], [.val (.tuple ds), .val (.int (i : Nat)), .val x], ?_, ?_, ?_⟩
        · simp [gTp, gNC]
        · simp [e, offIt]
        · simp [wipeS]
      have c' : ¬ (40 : Int) ≤ ds.length := by omega
      have c2 : ds.length < 16777216 := by omega
      simp [m_is_office, c_is_office, kit_tuple, dTup, c', enumD_len, wipeS, hl, unwipe, offB, c, sizeLine, c2, lAll_map]
    · have c' : (40 : Int) ≤ ds.length := by omega
      simp [m_is_office, c_is_office, kit_tuple, dTup, c', offB, c]
  | _ => simp [m_is_office, c_is_office, kit_tuple, dTup, offB]
def nts (os : List Nat) : List PyData := os.map fun x => .int (x : Nat)
theorem nts_len {os : List Nat} : (nts os).length = os.length := by simp [nts]
theorem nts_get {os : List Nat} {i : Nat} : (nts os)[i]? = (os[i]?).map fun x => .int (x : Nat) := by simp [nts]
theorem nts_cons {x : Nat} {os : List Nat} : nts (x :: os) = .int (x : Nat) :: nts os := rfl
theorem off_at {os : List Nat} (h : Off os) {d : Nat} (h0 : 0 < d) (h1 : d ≤ os.length) : atI (nts os) ((d : Int) - 1) = some (.int ((os.getD (d - 1) 0 : Nat) : Int)) ∧ os.getD (d - 1) 0 ≤ d - 1 := by
  have hl : d - 1 < os.length := by omega
  have e1 : ((d : Int) - 1).toNat = d - 1 := by omega
  rw [atI_nn (by omega), e1, nts_get, List.getElem?_eq_getElem hl]
  have e2 : os.getD (d - 1) 0 = os[d - 1] := by simp [List.getD, List.getElem?_eq_getElem hl]
  rw [e2]
  exact ⟨rfl, h.2 (d - 1) _ (List.getElem?_eq_getElem hl)⟩
theorem offB_off {os : List Nat} (h : Off os) : offB (.tuple (nts os)) = true := by
  have h1 := h.1
  have e : (enumD (nts os)).all offIt = true := by
    rw [List.all_eq_true]
    intro z hz
    obtain ⟨i, hi⟩ := List.getElem?_of_mem hz
    obtain ⟨x, hx, rfl⟩ := enumD_get hi
    rw [nts_get] at hx
    cases q : os[i]? with
    | none => rw [q] at hx; cases hx
    | some y =>
      rw [q] at hx
      cases hx
      have := h.2 i y q
      simp only [offIt, nIn]
      rw [decide_eq_true_eq]
      omega
  simp only [offB, e, nts_len]
  simp
  omega
theorem need_off {os : List Nat} (h : Off os) : ∃ T, m_need_office [.val (.tuple (nts os))] = .ok (.val .none) T := by
  obtain ⟨T, e⟩ := is_off (.tuple (nts os))
  rw [offB_off h] at e
  simp [m_need_office, c_need_office, e]
def LET : Str := Str.ofString "abcdefghijklmnopqrstuvwxyz"
def Nm (s : Str) : Prop := 1 ≤ s.length ∧ s.length ≤ 8 ∧ ∀ c ∈ s.cps.toList, 97 ≤ c ∧ c ≤ 122
def isT (o : Option PyData) : Bool := match o with | some (.bool true) => true | _ => false
theorem isT_some {o : Option PyData} (h : isT o = true) : o = some (.bool true) := by
  match o, h with
  | some (.bool true), _ => rfl
theorem let_all : (List.range 26).all (fun k => isT (gIn false (.str ⟨#[97 + k]⟩) (.str LET))) = true := by decide +kernel
theorem let_ok {c : Nat} (h0 : 97 ≤ c) (h1 : c ≤ 122) : gIn false (.str ⟨#[c]⟩) (.str LET) = some (.bool true) := by
  have := List.all_eq_true.mp let_all (c - 97) (List.mem_range.mpr (by omega))
  rw [show 97 + (c - 97) = c by omega] at this
  exact isT_some this
def dStr : PyData → Bool
  | .str _ => true
  | _ => false
theorem kit_str (d : PyData) : kitB (tyN d) "str" = some (dStr d) := by
  cases d
  · exact (by decide +kernel : kitB "NoneType" "str" = some false)
  · exact (by decide +kernel : kitB "bool" "str" = some false)
  · exact (by decide +kernel : kitB "int" "str" = some false)
  · exact (by decide +kernel : kitB "str" "str" = some true)
  · exact (by decide +kernel : kitB "list" "str" = some false)
  · exact (by decide +kernel : kitB "tuple" "str" = some false)
  · exact (by decide +kernel : kitB "dict" "str" = some false)
@[simp] theorem kb_str_str : kitB "str" "str" = some true := by decide +kernel
theorem g_lenS {x : Str} (h : x.length ≤ 16777216) : gLen [.str x] = some (.int x.length) := by
  show (if x.length ≤ sizeLine then some (PyData.int x.length) else none) = _
  rw [if_pos (by rw [sizeLine_eq]; exact h)]
@[simp] theorem r_asS {x : Str} : asS (.str x) = some (signs x) := rfl
theorem signs_len {x : Str} : (signs x).length = x.length := by simp [signs]; rfl
theorem lAll_true {n : Nat} : lAll (List.replicate n (.bool true)) = some (.bool true) := by
  have : List.replicate n (PyData.bool true) = (List.replicate n true).map PyData.bool := by simp
  rw [this, lAll, bls_bools]
  simp
theorem mapIdx_rep {α β : Type} {b : β} {l : List α} : (l.mapIdx fun _ _ => b) = List.replicate l.length b := by
  apply List.ext_getElem
  · simp
  · intro i h1 h2
    simp
theorem nm_ok {s : Str} (h : Nm s) : ∃ T, m_is_name [.val (.str s)] = .ok (.val (.bool true)) T := by
  have hl : lcL (gNm 1) sYes (sBin (gIn false) (sVar 1) (sK (.str LET))) [1] (signs s) [.val (.str s), .nil] = .ok (List.replicate s.length (.bool true)) [.val (.str s), .nil] := by
    have := lc_map (g := gNm 1) (e := sBin (gIn false) (sVar 1) (sK (.str LET))) (vs := [1]) (f := fun _ _ => .bool true) (S := [.val (.str s), .nil]) (ds := signs s) fun i d hd => by
      unfold signs at hd
      rw [List.getElem?_map] at hd
      cases q : s.cps.toList[i]? with
      | none => rw [q] at hd; cases hd
      | some c =>
        rw [q] at hd
        cases hd
        have b := h.2.2 c (List.mem_of_getElem? q)
        refine ⟨[.val (.str s), .val (.str ⟨#[c]⟩)], [.val (.str s), .val (.str ⟨#[c]⟩)], by simp, by simp [let_ok b.1 b.2], by simp [wipeS]⟩
    rw [this]
    congr 1
    rw [← signs_len]
    exact mapIdx_rep
  have h1 : (1 : Int) ≤ s.length := by have := h.1; omega
  have h8 : (s.length : Int) ≤ 8 := by have := h.2.1; omega
  have hs : s.length < 16777216 := by have := h.2.1; omega
  have gl := g_lenS (x := s) (by omega)
  unfold LET at hl
  simp [gl, m_is_name, c_is_name, kit_str, dStr, h1, h8, wipeS, unwipe, signs_len, sizeLine, hs, hl, lAll_true]
def sts (ss : List Str) : List PyData := ss.map .str
theorem sts_len {ss : List Str} : (sts ss).length = ss.length := by simp [sts]
theorem sts_get {ss : List Str} {i : Nat} : (sts ss)[i]? = (ss[i]?).map .str := by simp [sts]
theorem strsOf_sts : ∀ ss : List Str, strsOf (sts ss) = some ss
  | [] => rfl
  | s :: ss => by
    show (strsOf (sts ss)).map (s :: ·) = _
    rw [strsOf_sts ss]
    rfl
end Ds
end
section
set_option Elab.async false
set_option linter.all false
set_option maxRecDepth 100000
set_option maxHeartbeats 1000000
open PySem PySem.Spec PyProof.Rows L2
namespace Ds
theorem dct_nodup : ∀ {xs : List Str}, xs.Nodup → dct xs = xs.length
  | [], _ => rfl
  | x :: xs, h => by
    have q := List.nodup_cons.mp h
    unfold dct
    rw [dct_nodup q.2, if_neg q.1, List.length_cons]
theorem gLS_nodup {ys : List Str} (h : ys.Nodup) (hl : ys.length < 2000) : gLS (.tuple (sts ys)) = some (.int ys.length) := by
  show (match strsOf (sts ys) with
    | some ys => if ys.length < 2000 then some (PyData.int (dct (pre ys ys.length) : Nat)) else none
    | none => none) = _
  rw [strsOf_sts]
  show (if ys.length < 2000 then some (PyData.int (dct (pre ys ys.length) : Nat)) else none) = _
  rw [if_pos hl, dct_nodup (by unfold pre; rw [List.take_length]; exact (List.reverse_perm _).nodup_iff.mpr h)]
  unfold pre
  simp
theorem lc_true {g : GT} {e : SE} {vs : List Nat} {S : En} {ds : List PyData} (h : ∀ (i : Nat) (d : PyData), ds[i]? = some d → ∃ S2 S4, g d S = .nx S2 ∧ e S2 = .ok (.bool true) S4 ∧ wipeS vs S4 = S) :
    lcL g sYes e vs ds S = .ok (List.replicate ds.length (.bool true)) S := by
  rw [lc_map (f := fun _ _ => .bool true) h, mapIdx_rep]
theorem diff_ok {ys : List Str} (h : ys.Nodup) (hn : ∀ s ∈ ys, Nm s) (hl : ys.length < 2000) : ∃ T, m_are_different_names [.val (.tuple (sts ys))] = .ok (.val (.bool true)) T := by
  have lc : lcL (gNm 1) sYes (sCallV m_is_name (sGv (sVar 1) sG0)) [1] (sts ys) [.val (.tuple (sts ys)), .nil] = .ok (List.replicate ys.length (.bool true)) [.val (.tuple (sts ys)), .nil] := by
    have := lc_true (g := gNm 1) (e := sCallV m_is_name (sGv (sVar 1) sG0)) (vs := [1]) (S := [.val (.tuple (sts ys)), .nil]) (ds := sts ys) fun i d hd => by
      rw [sts_get] at hd
      cases q : ys[i]? with
      | none => rw [q] at hd; cases hd
      | some s =>
        rw [q] at hd
        cases hd
        obtain ⟨T, e⟩ := nm_ok (hn s (List.mem_of_getElem? q))
        exact ⟨[.val (.tuple (sts ys)), .val (.str s)], [.val (.tuple (sts ys)), .val (.str s)], by simp, by simp [e], by simp [wipeS]⟩
    rw [this, sts_len]
  have l2 : ys.length < 16777216 := by omega
  simp [m_are_different_names, c_are_different_names, wipeS, unwipe, sts_len, sizeLine, l2, lc, lAll_true, gLS_nodup h hl]
/-- an office, a seating, an order -/
structure Case (os : List Nat) (ss ord : List Str) : Prop where
  off : Off os
  len : ss.length = os.length + 1
  nd : ss.Nodup
  nm : ∀ s ∈ ss, Nm s
  ond : ord.Nodup
  osub : ∀ s ∈ ord, s ∈ ss
abbrev vO (os : List Nat) : Sl := .val (.tuple (nts os))
abbrev vS (ss : List Str) : Sl := .val (.tuple (sts ss))
section
variable {os : List Nat} {ss ord : List Str}
theorem Case.small (c : Case os ss ord) : ss.length ≤ 40 := by have := c.len; have := c.off.1; omega
theorem nodup_len_le {α : Type} [DecidableEq α] : ∀ {xs ys : List α}, xs.Nodup → (∀ x ∈ xs, x ∈ ys) → xs.length ≤ ys.length
  | [], _, _, _ => Nat.zero_le _
  | x :: xs, ys, h, s => by
    have q := List.nodup_cons.mp h
    have m := s x List.mem_cons_self
    have := nodup_len_le (ys := ys.erase x) q.2 fun y hy => (List.mem_erase_of_ne fun e => q.1 (by rw [← e]; exact hy)).mpr (s y (List.mem_cons_of_mem _ hy))
    rw [List.length_erase_of_mem m] at this
    have : 0 < ys.length := List.length_pos_of_mem m
    rw [List.length_cons]
    omega
theorem Case.osmall (c : Case os ss ord) : ord.length ≤ 40 := Nat.le_trans (nodup_len_le c.ond c.osub) c.small
theorem seating_ok (h : Off os) (hl : ss.length = os.length + 1) (hn : ss.Nodup) (hm : ∀ s ∈ ss, Nm s) : ∃ T, m_is_seating [vO os, vS ss] = .ok (.val (.bool true)) T := by
  obtain ⟨T1, e1⟩ := need_off h
  obtain ⟨T2, e2⟩ := diff_ok hn hm (by have := h.1; omega)
  simp [m_is_seating, c_is_seating, e1, e2, sts_len, nts_len, hl]
theorem need_seat (h : Off os) (hl : ss.length = os.length + 1) (hn : ss.Nodup) (hm : ∀ s ∈ ss, Nm s) : ∃ T, m_need_seating [vO os, vS ss] = .ok (.val .none) T := by
  obtain ⟨T1, e1⟩ := seating_ok h hl hn hm
  simp [m_need_seating, c_need_seating, e1]
theorem flat_sts {ss : List Str} : (sts ss).all flatD = true := by
  rw [List.all_eq_true]
  intro d hd
  obtain ⟨s, _, rfl⟩ := List.mem_map.mp hd
  rfl
theorem inD_sts {s : Str} {ss : List Str} : inD (.str s) (sts ss) = decide (s ∈ ss) := by
  rw [Bool.eq_iff_iff]
  simp only [inD, List.any_eq_true, decide_eq_true_eq]
  constructor
  · rintro ⟨d, h1, h2⟩
    obtain ⟨x, h3, rfl⟩ := List.mem_map.mp h1
    simp [PyData.eqv] at h2
    rw [← h2]; exact h3
  · intro h
    exact ⟨.str s, List.mem_map.mpr ⟨s, h, rfl⟩, by simp [PyData.eqv]⟩
@[simp] theorem g_inT {s : Str} {ss : List Str} : gInT false (.str s) (.tuple (sts ss)) = some (.bool (decide (s ∈ ss))) := by
  show (if flatD (.str s) = true ∧ (sts ss).all flatD = true then some (PyData.bool (if false = true then !inD (.str s) (sts ss) else inD (.str s) (sts ss))) else none) = _
  rw [if_pos ⟨rfl, flat_sts⟩, inD_sts]
  rfl
@[simp] theorem g_ninT {s : Str} {ss : List Str} : gInT true (.str s) (.tuple (sts ss)) = some (.bool (!decide (s ∈ ss))) := by
  show (if flatD (.str s) = true ∧ (sts ss).all flatD = true then some (PyData.bool (if true = true then !inD (.str s) (sts ss) else inD (.str s) (sts ss))) else none) = _
  rw [if_pos ⟨rfl, flat_sts⟩, inD_sts]
  rfl
theorem order_ok (c : Case os ss ord) : ∃ T, m_is_order [vO os, vS ss, vS ord] = .ok (.val (.bool true)) T := by
  obtain ⟨T1, e1⟩ := need_seat c.off c.len c.nd c.nm
  obtain ⟨T2, e2⟩ := diff_ok c.ond (fun s hs => c.nm s (c.osub s hs)) (by have := c.osmall; omega)
  have lc : lcL (gNm 3) sYes (sBin (gInT false) (sVar 3) (sVar 1)) [3] (sts ord) [vO os, vS ss, vS ord, .nil] = .ok (List.replicate ord.length (.bool true)) [vO os, vS ss, vS ord, .nil] := by
    have := lc_true (g := gNm 3) (e := sBin (gInT false) (sVar 3) (sVar 1)) (vs := [3]) (S := [vO os, vS ss, vS ord, .nil]) (ds := sts ord) fun i d hd => by
      rw [sts_get] at hd
      cases q : ord[i]? with
      | none => rw [q] at hd; cases hd
      | some s =>
        rw [q] at hd
        cases hd
        have hm := c.osub s (List.mem_of_getElem? q)
        exact ⟨[vO os, vS ss, vS ord, .val (.str s)], [vO os, vS ss, vS ord, .val (.str s)], by simp, by simp [hm], by simp [wipeS]⟩
    rw [this, sts_len]
  have l2 : ord.length < 16777216 := by have := c.osmall; omega
  simp [m_is_order, c_is_order, e1, e2, wipeS, unwipe, sts_len, sizeLine, l2, lc, lAll_true]
theorem need_ord (c : Case os ss ord) : ∃ T, m_need_order [vO os, vS ss, vS ord] = .ok (.val .none) T := by
  obtain ⟨T1, e1⟩ := order_ok c
  simp [m_need_order, c_need_order, e1]
end
end Ds
end
section
set_option Elab.async false
set_option linter.all false
set_option maxRecDepth 100000
set_option maxHeartbeats 1000000
open PySem PySem.Spec PyProof.Rows L2
namespace Ds
section
variable (os : List Nat) (cal : Nat → Bool)
def kids (d : Nat) : List Nat := (List.range' 1 os.length).filter fun e => decide (os.getD (e - 1) 0 = d)
def opF : Nat → Nat → Bool
  | 0, _ => false
  | k + 1, e => cal e && (kids os e).all fun c => !opF k c
def op (e : Nat) : Bool := opF os cal (os.length + 1 - e) e
/-- the open desks directly below d, of those behind t -/
def okd (t d : Nat) : List Nat := (List.range' (t + 1) (os.length - t)).filter fun e => decide (os.getD (e - 1) 0 = d) && op os cal e
end
section
variable {os : List Nat} {cal : Nat → Bool}
theorem mem_kids {d e : Nat} : e ∈ kids os d ↔ 1 ≤ e ∧ e ≤ os.length ∧ os.getD (e - 1) 0 = d := by
  unfold kids
  rw [List.mem_filter, List.mem_range'_1, decide_eq_true_eq]
  constructor
  · rintro ⟨⟨h1, h2⟩, h3⟩; exact ⟨h1, by omega, h3⟩
  · rintro ⟨h1, h2, h3⟩; exact ⟨⟨h1, by omega⟩, h3⟩
theorem off_lt (h : Off os) {e : Nat} (h1 : 1 ≤ e) (h2 : e ≤ os.length) : os.getD (e - 1) 0 < e := by
  have := (off_at h (d := e) (by omega) h2).2
  omega
theorem opF_op (h : Off os) : ∀ (n k : Nat), k ≤ n → ∀ e, e ≤ os.length → os.length + 1 - e ≤ k → opF os cal k e = op os cal e := by
  intro n
  induction n with
  | zero => intro k hk e he h1; omega
  | succ n ih =>
    intro k hk e he h1
    have hall : ∀ j, j ≤ n → os.length ≤ j + e → ((kids os e).all fun c => !opF os cal j c) = (kids os e).all fun c => !op os cal c := fun j hj h2 => by
      rw [Bool.eq_iff_iff, List.all_eq_true, List.all_eq_true]
      have key : ∀ c ∈ kids os e, opF os cal j c = op os cal c := fun c hc => by
        obtain ⟨m1, m2, m3⟩ := mem_kids.mp hc
        have := off_lt h m1 m2
        exact ih j hj c m2 (by omega)
      constructor
      · intro z c hc; rw [← key c hc]; exact z c hc
      · intro z c hc; rw [key c hc]; exact z c hc
    cases k with
    | zero => omega
    | succ k =>
      show (cal e && (kids os e).all fun c => !opF os cal k c) = opF os cal (os.length + 1 - e) e
      have e1 : os.length + 1 - e = (os.length - e) + 1 := by omega
      rw [e1]
      show _ = (cal e && (kids os e).all fun c => !opF os cal (os.length - e) c)
      rw [hall k (by omega) (by omega), hall (os.length - e) (by omega) (by omega)]
theorem op_eq (h : Off os) {e : Nat} (he : e ≤ os.length) : op os cal e = (cal e && (kids os e).all fun c => !op os cal c) := by
  have e1 : os.length + 1 - e = (os.length - e) + 1 := by omega
  show opF os cal (os.length + 1 - e) e = _
  rw [e1]
  show (cal e && (kids os e).all fun c => !opF os cal (os.length - e) c) = _
  congr 1
  rw [Bool.eq_iff_iff, List.all_eq_true, List.all_eq_true]
  have key : ∀ c ∈ kids os e, opF os cal (os.length - e) c = op os cal c := fun c hc => by
    obtain ⟨m1, m2, m3⟩ := mem_kids.mp hc
    have := off_lt h m1 m2
    exact opF_op h _ _ (Nat.le_refl _) c m2 (by omega)
  constructor
  · intro z c hc; rw [← key c hc]; exact z c hc
  · intro z c hc; rw [key c hc]; exact z c hc
theorem mem_okd {t d e : Nat} : e ∈ okd os cal t d ↔ t < e ∧ e ≤ os.length ∧ os.getD (e - 1) 0 = d ∧ op os cal e = true := by
  unfold okd
  rw [List.mem_filter, List.mem_range'_1, Bool.and_eq_true, decide_eq_true_eq]
  constructor
  · rintro ⟨⟨h1, h2⟩, h3, h4⟩; exact ⟨by omega, by omega, h3, h4⟩
  · rintro ⟨h1, h2, h3, h4⟩; exact ⟨⟨by omega, by omega⟩, h3, h4⟩
theorem op_okd (h : Off os) {e : Nat} (he : e ≤ os.length) : op os cal e = (cal e && (okd os cal 0 e).isEmpty) := by
  rw [op_eq h he]
  congr 1
  rw [Bool.eq_iff_iff, List.all_eq_true, List.isEmpty_iff, List.eq_nil_iff_forall_not_mem]
  constructor
  · intro z c hc
    obtain ⟨h1, h2, h3, h4⟩ := mem_okd.mp hc
    have := z c (mem_kids.mpr ⟨h1, h2, h3⟩)
    rw [h4] at this
    cases this
  · intro z c hc
    obtain ⟨h1, h2, h3⟩ := mem_kids.mp hc
    cases q : op os cal c with
    | false => rfl
    | true => exact absurd (mem_okd.mpr ⟨h1, h2, h3, q⟩) (z c)
end
def nmAt (ss : List Str) (t : Nat) : Str := ss.getD t Str.empty
theorem sts_at {ss : List Str} {t : Nat} (h : t < ss.length) : atI (sts ss) (t : Nat) = some (.str (nmAt ss t)) := by
  rw [atI_nn (by omega), Int.toNat_natCast, sts_get]
  simp [nmAt, h]
theorem nmAt_get {ss : List Str} {t : Nat} (h : t < ss.length) : ss[t]? = some (nmAt ss t) := by simp [nmAt, h]
def calB (ss ord : List Str) (d : Nat) : Bool := decide (nmAt ss d ∈ ord)
section
variable {os : List Nat} {ss ord : List Str} {cal : Nat → Bool}
theorem okd_len {t d : Nat} : (okd os cal t d).length ≤ os.length := by
  unfold okd
  refine Nat.le_trans (List.length_filter_le _ _) ?_
  rw [List.length_range']
  omega
theorem rng1_run {sr : SN} {S S1 : En} {ds zs : List PyData} (h : sr S = .ok ds S1) (e : rng1 ds = some zs) : sRng1 sr S = .ok zs S1 := by rw [r_sRng1, h, bnd_ok, e]; rfl
theorem rng2_run {sr : SN} {S S1 : En} {ds zs : List PyData} (h : sr S = .ok ds S1) (e : rng2 ds = some zs) : sRng2 sr S = .ok zs S1 := by rw [r_sRng2, h, bnd_ok, e]; rfl
end
end Ds
end
section
set_option Elab.async false
set_option linter.all false
set_option maxRecDepth 100000
set_option maxHeartbeats 1000000
open PySem PySem.Spec PyProof.Rows L2
namespace Ds
theorem lc_mapF {g : GT} {e : SE} {vs : List Nat} {S : En} {f : PyData → PyData} : ∀ {ds : List PyData}, (∀ d ∈ ds, ∃ S2 S4, g d S = .nx S2 ∧ e S2 = .ok (f d) S4 ∧ wipeS vs S4 = S) → lcL g sYes e vs ds S = .ok (ds.map f) S
  | [], _ => rfl
  | d :: ds, h => by
    obtain ⟨S2, S4, e1, e2, e3⟩ := h d List.mem_cons_self
    have ih := lc_mapF (g := g) (e := e) (vs := vs) (S := S) (f := f) (ds := ds) fun d hd => h d (List.mem_cons_of_mem _ hd)
    rw [lcL, e1]
    show ((e S2).bind fun y S4 => (lcL g sYes e vs ds (wipeS vs S4)).bind fun ys S5 => .ok (y :: ys) S5) = _
    rw [e2, bind_ok, e3, ih, bind_ok]
    rfl
theorem lc_filtF {g : GT} {t : STt} {e : SE} {vs : List Nat} {S : En} {c : PyData → Bool} {f : PyData → PyData} : ∀ {ds : List PyData}, (∀ d ∈ ds, ∃ S2 S3, g d S = .nx S2 ∧ t S2 = .ok (c d) S3 ∧ wipeS vs S3 = S ∧ (c d = true → ∃ S4, e S3 = .ok (f d) S4 ∧ wipeS vs S4 = S)) → lcL g t e vs ds S = .ok ((ds.filter c).map f) S
  | [], _ => rfl
  | d :: ds, h => by
    obtain ⟨S2, S3, e1, e2, e3, e4⟩ := h d List.mem_cons_self
    have ih := lc_filtF (g := g) (t := t) (e := e) (vs := vs) (S := S) (c := c) (f := f) (ds := ds) fun d hd => h d (List.mem_cons_of_mem _ hd)
    rw [lcL, e1]
    show ((t S2).bind fun b S3 => if b = true then (e S3).bind fun y S4 => (lcL g t e vs ds (wipeS vs S4)).bind fun ys S5 => .ok (y :: ys) S5 else lcL g t e vs ds (wipeS vs S3)) = _
    rw [e2, bind_ok, List.filter_cons]
    cases q : c d with
    | false =>
      rw [if_neg (by decide), if_neg (by decide), e3, ih]
    | true =>
      obtain ⟨S4, e5, e6⟩ := e4 q
      rw [if_pos rfl, if_pos rfl, e5, bind_ok, e6, ih, bind_ok]
      rfl
theorem findIdx_mem {s : Str} : ∀ {ys : List Str}, s ∈ ys → ys.findIdx? (· == s) = some (ys.idxOf s)
  | [], h => by cases h
  | y :: ys, h => by
    rw [List.findIdx?_cons, List.idxOf_cons]
    by_cases e : (y == s) = true
    · rw [if_pos e, e]; rfl
    · rw [if_neg e]
      have hm : s ∈ ys := by
        rcases List.mem_cons.mp h with h | h
        · exact absurd (by rw [h]; simp) e
        · exact h
      have e' : (y == s) = false := by simpa using e
      rw [findIdx_mem hm, e']
      rfl
theorem cut_from {ds : List PyData} {k : Nat} (h : k ≤ ds.length) : cutD ds (some (k : Int)) none = ds.drop k := by
  unfold cutD
  rw [HT.sIx_nat, HT.sIx_none, Nat.min_eq_left h, List.take_of_length_le (by rw [List.length_drop]; omega)]
theorem idx_lt {s : Str} {ys : List Str} (h : s ∈ ys) : ys.idxOf s < ys.length := List.idxOf_lt_length_of_mem h
theorem idx_get {s : Str} {ys : List Str} (h : s ∈ ys) : ys[ys.idxOf s]? = some s := by
  rw [List.getElem?_eq_getElem (idx_lt h), List.getElem_idxOf (idx_lt h)]
theorem idx_inj {s t : Str} {ys : List Str} (h : s ∈ ys) (g : t ∈ ys) (e : ys.idxOf s = ys.idxOf t) : s = t := by
  have := idx_get h
  rw [e, idx_get g] at this
  exact (Option.some.inj this).symm
theorem nodup_at {α : Type} {l : List α} (h : l.Nodup) {i j : Nat} {x : α} (a : l[i]? = some x) (b : l[j]? = some x) : i = j := nodup_idx h a b
theorem nm_mem {ss : List Str} {d : Nat} (hd : d < ss.length) : nmAt ss d ∈ ss := List.mem_of_getElem? (nmAt_get hd)
theorem nm_idx {ss : List Str} {s : Str} (h : s ∈ ss) : nmAt ss (ss.idxOf s) = s := by
  have := nmAt_get (idx_lt h)
  rw [idx_get h] at this
  exact (Option.some.inj this).symm
def blk (ss ord : List Str) (under : List Nat) (d : Nat) : List PyData :=
  if nmAt ss d ∈ ord then ((ord.drop (ord.idxOf (nmAt ss d) + 1)).filter fun s => decide (s ∈ under.map (nmAt ss))).map fun s => .int (ss.idxOf s : Nat)
  else if under = [] then [] else [.none]
end Ds
end
section
set_option Elab.async false
set_option linter.all false
set_option maxRecDepth 100000
set_option maxHeartbeats 1000000
open PySem PySem.Spec PyProof.Rows L2
namespace Ds
def blkD (os : List Nat) (ss ord : List Str) (d : Nat) : List PyData := blk ss ord (okd os (calB ss ord) 0 d) d
def desks (os : List Nat) : List Nat := List.range (os.length + 1)
section
variable {os : List Nat} {ss ord : List Str}
theorem okd_small (c : Case os ss ord) {d : Nat} : (∀ x ∈ okd os (calB ss ord) 0 d, x < ss.length) ∧ (okd os (calB ss ord) 0 d).length ≤ 40 := by
  have := c.len
  have := c.off.1
  refine ⟨fun x hx => ?_, Nat.le_trans okd_len (by omega)⟩
  have := (mem_okd.mp hx).2.1
  omega
def settledB (os : List Nat) (ss ord : List Str) : Bool := (desks os).all fun d => (blkD os ss ord d).isEmpty
end
end Ds
end
section
set_option Elab.async false
set_option linter.all false
set_option maxRecDepth 100000
set_option maxHeartbeats 1000000
open PySem PySem.Spec PyProof.Rows L2
namespace Ds
def Sg (k : Nat) (ds : List PyData) : Prop := ∃ a b n : Int, ds = [.int a, .int b, .int n] ∧ 0 ≤ b ∧ b < 10 ^ 37 ∧ 0 ≤ n ∧ n ≤ k
theorem Sg.mono {k j : Nat} {ds : List PyData} (h : Sg k ds) (l : k ≤ j) : Sg j ds := by
  obtain ⟨a, b, n, e, h1, h2, h3, h4⟩ := h
  exact ⟨a, b, n, e, h1, h2, h3, by omega⟩
def PB (i : Int) : Prop := i.natAbs < 2 ^ 1000
theorem g_powB {i j : Int} (h0 : 0 ≤ j) (h1 : j ≤ 1000) (h : PB i) : gPowB (.int i) (.int j) = some (.int (i ^ j.toNat)) := by
  show (if cPowB i j = true then some (PyData.int (i ^ j.toNat)) else none) = _
  have : cPowB i j = true := decide_eq_true (p := 0 ≤ j ∧ j ≤ 1000 ∧ i.natAbs < 2 ^ 1000) ⟨h0, h1, h⟩
  rw [if_pos this]
theorem g_pow3 {i : Int} (h : PB i) : gPowB (.int i) (.int 3) = some (.int (i ^ 3)) := g_powB (by decide) (by decide) h
theorem g_pow5 {i : Int} (h : PB i) : gPowB (.int i) (.int 5) = some (.int (i ^ 5)) := g_powB (by decide) (by decide) h
theorem pw3 {b n : Int} (h0 : 0 ≤ b) (h1 : b < 10 ^ 37) (n0 : 0 ≤ n) (n1 : n ≤ 1000000) : PB (b + 49979687 * n) := by
  have : (b + 49979687 * n).natAbs < 2 * 10 ^ 37 := by omega
  exact Nat.lt_trans this (by decide)
theorem pw5 {x n : Int} (h0 : 0 ≤ x) (h1 : x < 100000000000000000000000000000000000133) (n0 : 0 ≤ n) (n1 : n ≤ 1000000) : PB (x + 67867967 * n) := by
  have : (x + 67867967 * n).natAbs < 2 * 10 ^ 38 := by omega
  exact Nat.lt_trans this (by decide)
theorem draw {k : Nat} {bag : List PyData} (hb : Sg k bag) (hk : k < 1000000) {m : Int} (h0 : 0 < m) (h1 : m < 2 ^ 100) : ∃ r bag' T, 0 ≤ r ∧ r < m ∧ Sg (k + 1) bag' ∧ m__law_draw [.io bag, .val (.int m)] = .ok (.val (.int r)) (.io bag' :: T) := by
  obtain ⟨a, b, n, rfl, b0, b1, n1, n2⟩ := hb
  have lm : m.natAbs.log2 < 9000 := Nat.lt_trans (lg_lt (by decide) (by omega) h1) (by decide)
  by_cases ha : 0 < a
  · refine ⟨a % m, [.int (a / m), .int b, .int n], [.val (.int m), .nil, .val (.int (a % m))], Int.emod_nonneg _ (by omega), Int.emod_lt_of_pos _ h0, ⟨_, _, _, rfl, b0, b1, by omega, by omega⟩, ?_⟩
    simp [m__law_draw, c__law_draw, ha, h0, lm]
  · have l1 : (n + 1).natAbs.log2 < 30 := lg_lt (by decide) (by omega) (by omega)
    have k1 : Nat.log2 49979687 < 30 := by decide +kernel
    have k2 : Nat.log2 67867967 < 30 := by decide +kernel
    have k3 : Nat.log2 1048576 < 9000 := by decide +kernel
    have c1 : Nat.log2 49979687 + (n + 1).natAbs.log2 < 1000000 := by omega
    have c2 : Nat.log2 67867967 + (n + 1).natAbs.log2 < 1000000 := by omega
    have p1 := g_pow3 (pw3 b0 b1 (n := n + 1) (by omega) (by omega))
    have p2 : ∀ y : Int, gPowB (.int (y % 100000000000000000000000000000000000133 + 67867967 * (n + 1))) (.int 5) = some (.int ((y % 100000000000000000000000000000000000133 + 67867967 * (n + 1)) ^ 5)) := fun y => g_pow5 <| pw5 (Int.emod_nonneg _ (by decide)) (Int.emod_lt_of_pos _ (by decide)) (by omega) (by omega)
    have key : ∃ x T, m__law_draw [.io [.int a, .int b, .int n], .val (.int m)] = .ok (.val (.int (x % m))) (.io [.int a, .int b, .int (n + 1)] :: T) := by
      simp [m__law_draw, c__law_draw, ha, h0, c1, c2, k3, p1, p2]
      exact ⟨_, rfl⟩
    obtain ⟨x, T, e⟩ := key
    exact ⟨_, _, T, Int.emod_nonneg _ (by omega), Int.emod_lt_of_pos _ h0, ⟨_, _, _, rfl, b0, b1, by omega, by omega⟩, e⟩
end Ds
end
section
set_option Elab.async false
set_option linter.all false
set_option maxRecDepth 100000
set_option maxHeartbeats 1000000
open PySem PySem.Spec PyProof.Rows L2
namespace Ds
theorem smallI_ok {i : Int} (h0 : -1000000 ≤ i) (h1 : i < 1000000) : smallI i = true := by
  unfold smallI
  have e : (2 : Int) ^ 62 = 4611686018427387904 := by decide
  rw [e]
  simp; omega
theorem rng1_ok {i : Int} (h0 : -1000000 ≤ i) (h1 : i < 1000000) : rng1 [.int i] = some (rng 0 i) := by
  show (if smallI i = true then some (rng 0 i) else none) = _
  rw [if_pos (smallI_ok h0 h1)]
theorem rng2_ok {i j : Int} (h0 : -1000000 ≤ i) (h1 : i < 1000000) (g0 : -1000000 ≤ j) (g1 : j < 1000000) : rng2 [.int i, .int j] = some (rng i j) := by
  show (if smallI i = true ∧ smallI j = true then some (rng i j) else none) = _
  rw [if_pos ⟨smallI_ok h0 h1, smallI_ok g0 g1⟩]
theorem rng_get {a b : Int} {i : Nat} {z : PyData} (h : (rng a b)[i]? = some z) : z = .int (a + i) ∧ i < (b - a).toNat := by
  unfold rng at h
  rw [List.getElem?_map] at h
  cases q : (List.range (b - a).toNat)[i]? with
  | none => rw [q] at h; cases h
  | some j =>
    rw [q] at h
    obtain ⟨h1, h2⟩ := List.getElem?_eq_some_iff.mp q
    rw [List.getElem_range] at h2
    rw [List.length_range] at h1
    subst h2
    cases h
    exact ⟨rfl, h1⟩
theorem rng_len {a b : Int} : (rng a b).length = (b - a).toNat := by simp [rng]
theorem nts_snoc {os : List Nat} {v : Int} (h : 0 ≤ v) : nts os ++ [.int v] = nts (os ++ [v.toNat]) := by
  simp [nts, Int.toNat_of_nonneg h]
@[simp] theorem g_min {i j : Int} : gMin [.int i, .int j] = some (.int (if j < i then j else i)) := rfl
def q_off1 : SS := sSet 2 (sNE (sLst (sCons (sBin gAdd (sK (.int 1)) (sCallV m__law_draw (sGr 0 (sGv (sCallB gMin (sCons (sVar 1) (sCons (sK (.int 6)) sNil))) sG0)))) (sCons (sBin gAdd (sK (.int 1)) (sCallV m__law_draw (sGr 0 (sGv (sVar 1) sG0)))) (sCons (sVar 1) sNil)))))
def q_off2 : SS := sParV 5 6 (sCons (sBin gIx (sVar 2) (sCallV m__law_draw (sGr 0 (sGv (sK (.int 3)) sG0)))) (sCons (sCallV m__law_draw (sGr 0 (sGv (sK (.int 5)) sG0))) sNil))
def q_off3 : SS := sParV3 7 8 9 (sCons (sCallV m__law_draw (sGr 0 (sGv (sVar 4) sG0))) (sCons (sCallV m__law_draw (sGr 0 (sGv (sK (.int 3)) sG0))) (sCons (sCallV m__law_draw (sGr 0 (sGv (sCallB gMin (sCons (sVar 4) (sCons (sK (.int 4)) sNil))) sG0))) sNil)))
def q_off4 : SS := sDrop (sAppend 3 (sBin gIx (sNE (sLst (sCons (sBin gSub_ (sVar 4) (sK (.int 1))) (sCons (sK (.int 0)) (sCons (sVar 7) (sCons (sCallB gMax (sCons (sK (.int 0)) (sCons (sBin gSub_ (sBin gSub_ (sVar 4) (sK (.int 1))) (sVar 8)) sNil))) (sCons (sVar 9) sNil))))))) (sVar 6)))
theorem c_off_eq : c__law_office = sSeq q_off1 (sSeq q_off2 (sSeq (sSetNew 3 (sLst sNil)) (sSeq (sFor (sRng2 (sCons (sK (.int 1)) (sCons (sVar 5) sNil))) (gNm 4) (sSeq q_off3 q_off4)) (sRet (sRd lTup (sLVar 3)))))) := rfl
theorem noio_bare {x : Sl} (h : bare (some x) = true) : noio (some x) = true := (bare_noio h).1
theorem off_step {m z st : Int} {k i : Nat} {os : List Nat} {bg : List PyData} {x2 x4 x7 x8 x9 : Sl} (hb : Sg k bg) (hk : k < 900000) (hi : i < 1000) (hl : os.length = i) (s0 : 0 ≤ st) (s1 : st < 5) (b7 : bare (some x7) = true) (b8 : bare (some x8) = true) (b9 : bare (some x9) = true) :
    ∃ bg' v y7 y8 y9, Sg (k + 3) bg' ∧ 0 ≤ v ∧ v ≤ (i : Int) ∧ bare (some y7) = true ∧ bare (some y8) = true ∧ bare (some y9) = true ∧ (sSeq q_off3 q_off4) [.io bg, .val (.int m), x2, .own (nts os), .val (.int (1 + (i : Nat))), .val (.int z), .val (.int st), x7, x8, x9] = .nx [.io bg', .val (.int m), x2, .own (nts os ++ [.int v]), .val (.int (1 + (i : Nat))), .val (.int z), .val (.int st), y7, y8, y9] := by
  obtain ⟨r1, bag1, T1, a1, a2, a3, e1⟩ := draw hb (by omega) (m := 1 + (i : Int)) (by omega) (by omega)
  obtain ⟨r2, bag2, T2, b1, b2, b3, e2⟩ := draw a3 (by omega) (m := 3) (by decide) (by decide)
  obtain ⟨r3, bag3, T3, c1, c2, c3, e3⟩ := draw b3 (by omega) (m := if 4 < 1 + (i : Int) then 4 else 1 + (i : Int)) (by split <;> omega) (by split <;> omega)
  have hv : ∃ v : Int, 0 ≤ v ∧ v ≤ i ∧ atI [PyData.int (1 + (i : Int) - 1), .int 0, .int r1, .int (if 1 + (i : Int) - 1 - r2 > 0 then 1 + (i : Int) - 1 - r2 else 0), .int r3] st = some (.int v) := by
    rw [atI_nn s0]
    have : st = 0 ∨ st = 1 ∨ st = 2 ∨ st = 3 ∨ st = 4 := by omega
    rcases this with q | q | q | q | q <;> subst q
    · exact ⟨_, by omega, by omega, rfl⟩
    · exact ⟨0, by omega, by omega, rfl⟩
    · exact ⟨r1, by omega, by omega, rfl⟩
    · exact ⟨_, by split <;> omega, by split <;> omega, rfl⟩
    · refine ⟨r3, by omega, ?_, rfl⟩
      split at c2 <;> omega
  obtain ⟨v, v0, v1, ev⟩ := hv
  refine ⟨bag3, v, .val (.int r1), .val (.int r2), .val (.int r3), c3, v0, v1, rfl, rfl, rfl, ?_⟩
  have h3 : q_off3 [.io bg, .val (.int m), x2, .own (nts os), .val (.int (1 + (i : Nat))), .val (.int z), .val (.int st), x7, x8, x9] = .nx [.io bag3, .val (.int m), x2, .own (nts os), .val (.int (1 + (i : Nat))), .val (.int z), .val (.int st), .val (.int r1), .val (.int r2), .val (.int r3)] := by
    simp [q_off3, e1, e2, e3, noio_bare b7, noio_bare b8, noio_bare b9]
  have sz : os.length < 16777216 := by omega
  have h4 : q_off4 [.io bag3, .val (.int m), x2, .own (nts os), .val (.int (1 + (i : Nat))), .val (.int z), .val (.int st), .val (.int r1), .val (.int r2), .val (.int r3)] = .nx [.io bag3, .val (.int m), x2, .own (nts os ++ [.int v]), .val (.int (1 + (i : Nat))), .val (.int z), .val (.int st), .val (.int r1), .val (.int r2), .val (.int r3)] := by
    simp at ev
    simp [q_off4, sizeLine, ev, nts_len, sz]
  rw [r_sSeq, h3, sq_nx, h4]
theorem law_off {m : Int} (m0 : 0 < m) (m1 : m ≤ 40) {k : Nat} (hk : k < 800000) {bag : List PyData} (hb : Sg k bag) : ∃ os bag' T, Off os ∧ Sg (k + 200) bag' ∧ (os.length : Int) < m ∧ m__law_office [.io bag, .val (.int m)] = .ok (.val (.tuple (nts os))) (.io bag' :: T) := by
  obtain ⟨r1, bag1, T1, a1, a2, a3, e1⟩ := draw hb (by omega) (m := if 6 < m then 6 else m) (by split <;> omega) (by split <;> omega)
  obtain ⟨r2, bag2, T2, b1, b2, b3, e2⟩ := draw a3 (by omega) (m := m) m0 (by omega)
  obtain ⟨r3, bag3, T3, c1, c2, c3, e3⟩ := draw b3 (by omega) (m := 3) (by decide) (by decide)
  obtain ⟨r4, bag4, T4, d1, d2, d3, e4⟩ := draw c3 (by omega) (m := 5) (by decide) (by decide)
  have hz : ∃ z : Int, 1 ≤ z ∧ z ≤ m ∧ atI [PyData.int (1 + r1), .int (1 + r2), .int m] r3 = some (.int z) := by
    rw [atI_nn c1]
    have : r3 = 0 ∨ r3 = 1 ∨ r3 = 2 := by omega
    rcases this with q | q | q <;> subst q
    · refine ⟨_, ?_, ?_, rfl⟩
      · omega
      · split at a2 <;> omega
    · exact ⟨_, by omega, by omega, rfl⟩
    · exact ⟨_, by omega, by omega, rfl⟩
  obtain ⟨z, z0, z1, ez⟩ := hz
  have s1 : q_off1 [.io bag, .val (.int m), .nil, .nil, .nil, .nil, .nil, .nil, .nil, .nil] = .nx [.io bag2, .val (.int m), .val (.list [.int (1 + r1), .int (1 + r2), .int m]), .nil, .nil, .nil, .nil, .nil, .nil, .nil] := by
    simp [q_off1, e1, e2, sizeLine]
  have s2 : q_off2 [.io bag2, .val (.int m), .val (.list [.int (1 + r1), .int (1 + r2), .int m]), .nil, .nil, .nil, .nil, .nil, .nil, .nil] = .nx [.io bag4, .val (.int m), .val (.list [.int (1 + r1), .int (1 + r2), .int m]), .nil, .nil, .val (.int z), .val (.int r4), .nil, .nil, .nil] := by
    simp [q_off2, e3, e4, ez]
  have s3 : sSetNew 3 (sLst sNil) [.io bag4, .val (.int m), .val (.list [.int (1 + r1), .int (1 + r2), .int m]), .nil, .nil, .val (.int z), .val (.int r4), .nil, .nil, .nil] = .nx [.io bag4, .val (.int m), .val (.list [.int (1 + r1), .int (1 + r2), .int m]), .own [], .nil, .val (.int z), .val (.int r4), .nil, .nil, .nil] := by
    simp [sizeLine]
  obtain ⟨S', el, bg, os, x4, x7, x8, x9, f1, f2, f3, f4, f7, f8, f9, rfl⟩ := loop_inv (g := gNm 4) (b := sSeq q_off3 q_off4) (ds := rng 1 z) (P := fun i S => ∃ bag os x4 x7 x8 x9, Sg (k + 4 + 3 * i) bag ∧ os.length = i ∧ (∀ (j y : Nat), os[j]? = some y → y ≤ j) ∧ bare (some x4) = true ∧ bare (some x7) = true ∧ bare (some x8) = true ∧ bare (some x9) = true ∧ S = [.io bag, .val (.int m), .val (.list [.int (1 + r1), .int (1 + r2), .int m]), .own (nts os), x4, .val (.int z), .val (.int r4), x7, x8, x9])
    (S := [.io bag4, .val (.int m), .val (.list [.int (1 + r1), .int (1 + r2), .int m]), .own [], .nil, .val (.int z), .val (.int r4), .nil, .nil, .nil]) ⟨bag4, [], .nil, .nil, .nil, .nil, d3.mono (by omega), rfl, fun j y h => by simp at h, rfl, rfl, rfl, rfl, rfl⟩ fun i w S hw hS => by
    obtain ⟨bg, os, x4, x7, x8, x9, f1, f2, f3, f4, f7, f8, f9, rfl⟩ := hS
    obtain ⟨ew, hi⟩ := rng_get hw
    subst ew
    obtain ⟨bg', v, y7, y8, y9, g1, g2, g3, g7, g8, g9, ge⟩ := off_step (m := m) (z := z) (x2 := .val (.list [.int (1 + r1), .int (1 + r2), .int m])) (x4 := x4) f1 (by omega) (by omega) f2 d1 d2 f7 f8 f9
    refine ⟨_, _, ?_, ge, bg', os ++ [v.toNat], _, y7, y8, y9, g1.mono (by omega), by simp [f2], ?_, rfl, g7, g8, g9, by rw [nts_snoc g2]⟩
    · simp [f4]
    · intro j y h
      by_cases q : j < os.length
      · rw [List.getElem?_append_left q] at h
        exact f3 j y h
      · have : j < (os ++ [v.toNat]).length := (List.getElem?_eq_some_iff.mp h).1
        have ej : j = os.length := by simp at this; omega
        subst ej
        simp at h
        omega
  have hlen : os.length = (z - 1).toNat := by rw [f2, rng_len]
  have s4 : sFor (sRng2 (sCons (sK (.int 1)) (sCons (sVar 5) sNil))) (gNm 4) (sSeq q_off3 q_off4) [.io bag4, .val (.int m), .val (.list [.int (1 + r1), .int (1 + r2), .int m]), .own [], .nil, .val (.int z), .val (.int r4), .nil, .nil, .nil] = .nx [.io bg, .val (.int m), .val (.list [.int (1 + r1), .int (1 + r2), .int m]), .own (nts os), x4, .val (.int z), .val (.int r4), x7, x8, x9] := by
    rw [r_sFor, rng2_run (S1 := [.io bag4, .val (.int m), .val (.list [.int (1 + r1), .int (1 + r2), .int m]), .own [], .nil, .val (.int z), .val (.int r4), .nil, .nil, .nil]) (ds := [.int 1, .int z]) (by simp) (rng2_ok (by omega) (by omega) (by omega) (by omega)), stt_ok]
    exact el
  refine ⟨os, bg, [.val (.int m), .val (.list [.int (1 + r1), .int (1 + r2), .int m]), .own (nts os), x4, .val (.int z), .val (.int r4), x7, x8, x9], ⟨by omega, f3⟩, f1.mono (by rw [rng_len]; omega), by omega, ?_⟩
  rw [m__law_office, r_mB]
  show (c__law_office [.io bag, .val (.int m), .nil, .nil, .nil, .nil, .nil, .nil, .nil, .nil]).fin = _
  rw [c_off_eq, r_sSeq, s1, sq_nx, r_sSeq, s2, sq_nx, r_sSeq, s3, sq_nx, r_sSeq, s4, sq_nx]
  simp [lTup]
end Ds
end
section
set_option Elab.async false
set_option linter.all false
set_option maxRecDepth 100000
set_option maxHeartbeats 1000000
open PySem PySem.Spec PyProof.Rows L2
namespace Ds
theorem erase_perm {α : Type} : ∀ {l : List α} {i : Nat} {x : α}, l[i]? = some x → (x :: l.eraseIdx i).Perm l
  | [], i, x, h => by simp at h
  | y :: l, 0, x, h => by
    obtain rfl : y = x := by simpa using h
    exact List.Perm.refl _
  | y :: l, i + 1, x, h => by
    have ih := erase_perm (l := l) (i := i) (x := x) (by simpa using h)
    show (x :: y :: l.eraseIdx i).Perm (y :: l)
    exact (List.Perm.swap y x _).trans (ih.cons y)
theorem sts_erase {l : List Str} {i : Nat} : (sts l).eraseIdx i = sts (l.eraseIdx i) := by
  induction l generalizing i with
  | nil => rfl
  | cons x l ih =>
    cases i with
    | zero => rfl
    | succ i => show PyData.str x :: (sts l).eraseIdx i = .str x :: sts (l.eraseIdx i); rw [ih]
theorem sts_app {a b : List Str} : sts a ++ sts b = sts (a ++ b) := by simp [sts]
theorem pop_ok {l : List Str} {r : Int} (h0 : 0 ≤ r) (h1 : r < l.length) (h2 : l.length ≤ 1000000) : popI (sts l) (.int r) = some (.str (nmAt l r.toNat), sts (l.eraseIdx r.toNat)) := by
  show (if 0 ≤ r ∧ r < (sts l).length ∧ r < 2 ^ 63 then ((sts l)[r.toNat]?).map fun x => (x, (sts l).eraseIdx r.toNat) else none) = _
  rw [if_pos ⟨h0, by rw [sts_len]; exact h1, by omega⟩, sts_get, nmAt_get (ss := l) (t := r.toNat) (by omega), sts_erase]
  rfl
/-- items taken out, one by one -/
theorem pops {g : GT} {e : SE} {vs : List Nat} {E : List PyData → List Str → En} (step : ∀ (k : Nat) (bag : List PyData) (pool : List Str) (j : Int), Sg k bag → k < 900000 → 0 < pool.length → pool.length ≤ 1000 → ∃ bag' r S2 S4, Sg (k + 1) bag' ∧ r < pool.length ∧ g (.int j) (E bag pool) = .nx S2 ∧ e S2 = .ok (.str (nmAt pool r)) S4 ∧ wipeS vs S4 = E bag' (pool.eraseIdx r))
    {k n : Nat} {bag : List PyData} {ys : List Str} (hb : Sg k bag) (hk : k < 800000) (hn : n ≤ ys.length) (hy : ys.length ≤ 1000) : ∃ a bag' rest, lcL g sYes e vs (rng 0 n) (E bag ys) = .ok (sts a) (E bag' rest) ∧ Sg (k + n) bag' ∧ a.length = n ∧ (a ++ rest).Perm ys := by
  obtain ⟨zs, S', h1, bag', a, rest, h2, h3, h4, h5, h6⟩ := lc_inv (g := g) (t := sYes) (e := e) (vs := vs) (ds := rng 0 n) (P := fun i acc S => ∃ bag a rest, Sg (k + i) bag ∧ acc = sts a ∧ a.length = i ∧ (a ++ rest).Perm ys ∧ S = E bag rest) (acc := []) (S := E bag ys) ⟨bag, [], ys, hb, rfl, rfl, List.Perm.refl _, rfl⟩ fun i d acc S hd hP => by
    obtain ⟨bag, a, rest, h1, rfl, h3, h4, rfl⟩ := hP
    obtain ⟨rfl, hi⟩ := rng_get hd
    have hl := h4.length_eq
    rw [List.length_append] at hl
    obtain ⟨bag', r, S2, S4, g1, g2, g3, g4, g5⟩ := step (k + i) bag rest (0 + (i : Int)) h1 (by omega) (by omega) (by omega)
    refine ⟨S2, true, S2, g3, rfl, (fun z => by cases z), fun _ => ⟨_, S4, g4, bag', a ++ [nmAt rest r], rest.eraseIdx r, g1, by rw [← sts_app]; rfl, by simp [h3], ?_, g5⟩⟩
    rw [List.append_assoc]
    exact ((erase_perm (nmAt_get g2)).append_left a).trans h4
  rw [List.nil_append] at h3
  subst h3
  rw [rng_len] at h2 h4
  refine ⟨a, bag', rest, by rw [h1, h6], h2.mono (by omega), by omega, h5⟩
def POOL : List Str := (LET.cps.toList.map fun c => (⟨#[c]⟩ : Str)) ++ [Str.ofString "ab", Str.ofString "ba", Str.ofString "aa", Str.ofString "zz", Str.ofString "zzzzzzzz", Str.ofString "zzzzzzza", Str.ofString "open", Str.ofString "call", Str.ofString "days", Str.ofString "order", Str.ofString "silent", Str.ofString "center", Str.ofString "at", Str.ofString "none"]
theorem pool_len : POOL.length = 40 := by decide +kernel
theorem pool_nd : POOL.Nodup := by decide +kernel
theorem pool_all : (POOL.all fun s => decide (1 ≤ s.length) && decide (s.length ≤ 8) && s.cps.toList.all fun c => decide (97 ≤ c) && decide (c ≤ 122)) = true := by decide +kernel
theorem pool_nm {s : Str} (h : s ∈ POOL) : Nm s := by
  have := List.all_eq_true.mp pool_all s h
  simp only [Bool.and_eq_true, decide_eq_true_eq, List.all_eq_true] at this
  exact ⟨this.1.1, this.1.2, this.2⟩
theorem let_size : LET.cps.size = 26 := by decide +kernel
def q_nam1 : SS := sSetNew 2 (sCatN (sNE (sListS (sCons (sK (.str (Str.ofString "abcdefghijklmnopqrstuvwxyz"))) sNil))) (sNE (sLst (sCons (sK (.str (Str.ofString "ab"))) (sCons (sK (.str (Str.ofString "ba"))) (sCons (sK (.str (Str.ofString "aa"))) (sCons (sK (.str (Str.ofString "zz"))) (sCons (sK (.str (Str.ofString "zzzzzzzz"))) (sCons (sK (.str (Str.ofString "zzzzzzza"))) (sCons (sK (.str (Str.ofString "open"))) (sCons (sK (.str (Str.ofString "call"))) (sCons (sK (.str (Str.ofString "days"))) sNil))))))))))))
def q_nam2 : SS := sSetNew 2 (sCatV 2 (sNE (sLst (sCons (sK (.str (Str.ofString "order"))) (sCons (sK (.str (Str.ofString "silent"))) (sCons (sK (.str (Str.ofString "center"))) (sCons (sK (.str (Str.ofString "at"))) (sCons (sK (.str (Str.ofString "none"))) sNil))))))))
def q_nam3 : SN := sLc (sRng1 (sCons (sVar 1) sNil)) (gNm 3) sYes (sPop 2 (sCallV m__law_draw (sGr 0 (sGv (sRd lLen (sLVar 2)) sG0)))) [3]
theorem c_nam_eq : c__law_names = sSeq q_nam1 (sSeq q_nam2 (sRet (sRd lTup q_nam3))) := rfl
theorem law_namesP {k n : Nat} {bag : List PyData} (hb : Sg k bag) (hk : k < 800000) (hn : n ≤ 40) : ∃ ss bag' T, ss.length = n ∧ ss.Nodup ∧ (∀ s ∈ ss, s ∈ POOL) ∧ Sg (k + n) bag' ∧ m__law_names [.io bag, .val (.int (n : Nat))] = .ok (vS ss) (.io bag' :: T) := by
  obtain ⟨a, bag', rest, h1, h2, h3, h4⟩ := pops (g := gNm 3) (e := sPop 2 (sCallV m__law_draw (sGr 0 (sGv (sRd lLen (sLVar 2)) sG0)))) (vs := [3]) (E := fun bag pool => [.io bag, .val (.int (n : Nat)), .own (sts pool), .nil]) (fun k bag pool j hb hk h0 h1 => by
    obtain ⟨r, bag', T, r0, r1, r2, e⟩ := draw hb (by omega) (m := (pool.length : Int)) (by omega) (by omega)
    refine ⟨bag', r.toNat, [.io bag, .val (.int (n : Nat)), .own (sts pool), .val (.int j)], [.io bag', .val (.int (n : Nat)), .own (sts (pool.eraseIdx r.toNat)), .val (.int j)], r2, by omega, by simp, ?_, by simp [wipeS]⟩
    have p := pop_ok r0 r1 (by omega)
    simp [lLen, sts_len, e, p]) hb hk (n := n) (ys := POOL) (by rw [pool_len]; exact hn) (by rw [pool_len]; omega)
  have hnd := (h4.nodup_iff).mpr pool_nd
  have hmem : ∀ s ∈ a, s ∈ POOL := fun s hs => h4.mem_iff.mp (List.mem_append_left _ hs)
  refine ⟨a, bag', [.val (.int (n : Nat)), .own (sts rest), .nil], h3, (List.nodup_append.mp hnd).1, hmem, h2, ?_⟩
  have s1 : q_nam1 [.io bag, .val (.int (n : Nat)), .nil, .nil] = .nx [.io bag, .val (.int (n : Nat)), .own (signs LET ++ [.str (Str.ofString "ab"), .str (Str.ofString "ba"), .str (Str.ofString "aa"), .str (Str.ofString "zz"), .str (Str.ofString "zzzzzzzz"), .str (Str.ofString "zzzzzzza"), .str (Str.ofString "open"), .str (Str.ofString "call"), .str (Str.ofString "days")]), .nil] := by
    have l1 : (signs LET).length = 26 := by rw [signs_len]; exact let_size
    have e1 : sListS (sCons (sK (.str (Str.ofString "abcdefghijklmnopqrstuvwxyz"))) sNil) [.io bag, .val (.int (n : Nat)), .nil, .nil] = .ok (signs LET) [.io bag, .val (.int (n : Nat)), .nil, .nil] := by
      show (if LET.cps.size ≤ sizeLine then R.ok (signs LET) [.io bag, .val (.int (n : Nat)), .nil, .nil] else .no) = _
      rw [if_pos (by rw [let_size, sizeLine_eq]; omega)]
    simp [q_nam1, -r_sListS, e1, sizeLine, l1]
  have s2 : q_nam2 [.io bag, .val (.int (n : Nat)), .own (signs LET ++ [.str (Str.ofString "ab"), .str (Str.ofString "ba"), .str (Str.ofString "aa"), .str (Str.ofString "zz"), .str (Str.ofString "zzzzzzzz"), .str (Str.ofString "zzzzzzza"), .str (Str.ofString "open"), .str (Str.ofString "call"), .str (Str.ofString "days")]), .nil] = .nx [.io bag, .val (.int (n : Nat)), .own (sts POOL), .nil] := by
    have l1 : (signs LET).length = 26 := by rw [signs_len]; exact let_size
    have ep : sts POOL = signs LET ++ ([.str (Str.ofString "ab"), .str (Str.ofString "ba"), .str (Str.ofString "aa"), .str (Str.ofString "zz"), .str (Str.ofString "zzzzzzzz"), .str (Str.ofString "zzzzzzza"), .str (Str.ofString "open"), .str (Str.ofString "call"), .str (Str.ofString "days")] ++ [.str (Str.ofString "order"), .str (Str.ofString "silent"), .str (Str.ofString "center"), .str (Str.ofString "at"), .str (Str.ofString "none")]) := by
      unfold POOL signs sts
      rw [List.map_append, List.map_map]
      rfl
    rw [ep]
    simp [q_nam2, sizeLine, l1]
  have hr : sRng1 (sCons (sVar 1) sNil) [.io bag, .val (.int (n : Nat)), .own (sts POOL), .nil] = .ok (rng 0 n) [.io bag, .val (.int (n : Nat)), .own (sts POOL), .nil] :=
    rng1_run (ds := [.int (n : Nat)]) (by simp) (rng1_ok (by omega) (by omega))
  have l3 : n < 16777216 := by omega
  have s3 : q_nam3 [.io bag, .val (.int (n : Nat)), .own (sts POOL), .nil] = .ok (sts a) [.io bag', .val (.int (n : Nat)), .own (sts rest), .nil] := by
    simp [q_nam3, -r_sRng1, hr, rng_len, wipeS, h1, unwipe, sizeLine, l3]
  rw [m__law_names, r_mB]
  show (c__law_names [.io bag, .val (.int (n : Nat)), .nil, .nil]).fin = _
  rw [c_nam_eq, r_sSeq, s1, sq_nx, r_sSeq, s2, sq_nx]
  simp [s3, lTup]
theorem law_names {k n : Nat} {bag : List PyData} (hb : Sg k bag) (hk : k < 800000) (hn : n ≤ 40) : ∃ ss bag' T, ss.length = n ∧ ss.Nodup ∧ (∀ s ∈ ss, Nm s) ∧ Sg (k + n) bag' ∧ m__law_names [.io bag, .val (.int (n : Nat))] = .ok (vS ss) (.io bag' :: T) := by
  obtain ⟨ss, bag', T, h1, h2, h3, h4, h5⟩ := law_namesP hb hk hn
  exact ⟨ss, bag', T, h1, h2, fun s hs => pool_nm (h3 s hs), h4, h5⟩
end Ds
end
section
set_option Elab.async false
set_option linter.all false
set_option maxRecDepth 100000
set_option maxHeartbeats 1000000
open PySem PySem.Spec PyProof.Rows L2
namespace Ds
theorem nts_lay : ∀ {u : List Nat}, PyData.canLayAll0 (nts u) = true ∧ PyData.depthAll (nts u) = 0 ∧ PyData.hasDictAll (nts u) = false
  | [] => ⟨rfl, rfl, rfl⟩
  | x :: u => by
    obtain ⟨a, b, c⟩ := nts_lay (u := u)
    rw [nts_cons]
    exact ⟨by simp [PyData.canLayAll0, PyData.canLay0, a], by simp [PyData.depthAll, PyData.depth, b], by simp [PyData.hasDictAll, PyData.hasDict, c]⟩
theorem okEq_nts {u : List Nat} : okEq (.list (nts u)) = true := by
  obtain ⟨a, b, c⟩ := nts_lay (u := u)
  simp [okEq, SeqAt.shaped, PyData.canLay0, PyData.depth, PyData.hasDict, a, b, c]
@[simp] theorem g_eq0 {u : List Nat} : gEq (.list (nts u)) (.list []) = some (.bool (decide (u = []))) := by
  show (if okEq (.list (nts u)) = true ∧ okEq (.list (nts [])) = true then some (PyData.bool (PyData.eqv (.list (nts u)) (.list []))) else none) = _
  rw [if_pos ⟨okEq_nts, okEq_nts⟩]
  cases u with
  | nil => rfl
  | cons x u => rfl
@[simp] theorem g_eqS {x y : Str} : gEq (.str x) (.str y) = some (.bool (x == y)) := rfl
def q_cal1 : SS := sSetNew 2 (sListN (sCons (sVar 1) sNil))
def q_cal2 : SS := sSet 3 (sNE (sLst (sCons (sRd lLen (sLVar 2)) (sCons (sCallV m__law_draw (sGr 0 (sGv (sBin gAdd (sRd lLen (sLVar 2)) (sK (.int 1))) sG0))) (sCons (sRd lLen (sLVar 2)) (sCons (sCallB gMin (sCons (sRd lLen (sLVar 2)) (sCons (sCallV m__law_draw (sGr 0 (sGv (sK (.int 4)) sG0))) sNil))) sNil))))))
def q_cal3 : SN := sLc (sRng1 (sCons (sBin gIx (sVar 3) (sCallV m__law_draw (sGr 0 (sGv (sK (.int 4)) sG0)))) sNil)) (gNm 4) sYes (sPop 2 (sCallV m__law_draw (sGr 0 (sGv (sRd lLen (sLVar 2)) sG0)))) [4]
theorem c_cal_eq : c__law_called = sSeq q_cal1 (sSeq q_cal2 (sRet (sRd lTup q_cal3))) := rfl
theorem law_called {k : Nat} {bag : List PyData} {ss : List Str} (hb : Sg k bag) (hk : k < 700000) (hn : ss.length ≤ 40) (hnd : ss.Nodup) : ∃ ord bag' T, ord.Nodup ∧ (∀ s ∈ ord, s ∈ ss) ∧ Sg (k + 50) bag' ∧ m__law_called [.io bag, vS ss] = .ok (vS ord) (.io bag' :: T) := by
  obtain ⟨r1, bag1, T1, a1, a2, a3, e1⟩ := draw hb (by omega) (m := (ss.length : Int) + 1) (by omega) (by omega)
  obtain ⟨r2, bag2, T2, b1, b2, b3, e2⟩ := draw a3 (by omega) (m := 4) (by decide) (by decide)
  obtain ⟨r3, bag3, T3, c1, c2, c3, e3⟩ := draw b3 (by omega) (m := 4) (by decide) (by decide)
  have hv : ∃ n : Nat, n ≤ ss.length ∧ atI [PyData.int ss.length, .int r1, .int ss.length, .int (if r2 < (ss.length : Int) then r2 else ss.length)] r3 = some (.int (n : Nat)) := by
    rw [atI_nn c1]
    have : r3 = 0 ∨ r3 = 1 ∨ r3 = 2 ∨ r3 = 3 := by omega
    rcases this with q | q | q | q <;> subst q
    · exact ⟨ss.length, Nat.le_refl _, rfl⟩
    · exact ⟨r1.toNat, by omega, by rw [Int.toNat_of_nonneg a1]; rfl⟩
    · exact ⟨ss.length, Nat.le_refl _, rfl⟩
    · by_cases z : r2 < (ss.length : Int)
      · exact ⟨r2.toNat, by omega, by rw [Int.toNat_of_nonneg b1, if_pos z]; rfl⟩
      · exact ⟨ss.length, Nat.le_refl _, by rw [if_neg z]; rfl⟩
  obtain ⟨n, hnn, en⟩ := hv
  generalize hM : [PyData.int ss.length, .int r1, .int ss.length, .int (if r2 < (ss.length : Int) then r2 else ss.length)] = M at *
  obtain ⟨a, bag', rest, h1, h2, h3, h4⟩ := pops (g := gNm 4) (e := sPop 2 (sCallV m__law_draw (sGr 0 (sGv (sRd lLen (sLVar 2)) sG0)))) (vs := [4]) (E := fun bag pool => [.io bag, vS ss, .own (sts pool), .val (.list M), .nil]) (fun k bag pool j hb hk h0 h1 => by
    obtain ⟨r, bag', T, r0, r1, r2, e⟩ := draw hb (by omega) (m := (pool.length : Int)) (by omega) (by omega)
    refine ⟨bag', r.toNat, [.io bag, vS ss, .own (sts pool), .val (.list M), .val (.int j)], [.io bag', vS ss, .own (sts (pool.eraseIdx r.toNat)), .val (.list M), .val (.int j)], r2, by omega, by simp, ?_, by simp [wipeS]⟩
    have p := pop_ok r0 r1 (by omega)
    simp [lLen, sts_len, e, p]) c3 (by omega) hnn (by omega)
  refine ⟨a, bag', [vS ss, .own (sts rest), .val (.list M), .nil], (List.nodup_append.mp ((h4.nodup_iff).mpr hnd)).1, fun s hs => h4.mem_iff.mp (List.mem_append_left _ hs), h2.mono (by omega), ?_⟩
  have s1 : q_cal1 [.io bag, vS ss, .nil, .nil, .nil] = .nx [.io bag, vS ss, .own (sts ss), .nil, .nil] := by simp [q_cal1]
  have s2 : q_cal2 [.io bag, vS ss, .own (sts ss), .nil, .nil] = .nx [.io bag2, vS ss, .own (sts ss), .val (.list M), .nil] := by
    rw [← hM]
    simp [q_cal2, lLen, sts_len, e1, e2, sizeLine]
  have hr : sRng1 (sCons (sBin gIx (sVar 3) (sCallV m__law_draw (sGr 0 (sGv (sK (.int 4)) sG0)))) sNil) [.io bag2, vS ss, .own (sts ss), .val (.list M), .nil] = .ok (rng 0 n) [.io bag3, vS ss, .own (sts ss), .val (.list M), .nil] :=
    rng1_run (ds := [.int (n : Nat)]) (by simp [e3, en]) (rng1_ok (by omega) (by omega))
  have l3 : n < 16777216 := by omega
  have s3 : q_cal3 [.io bag2, vS ss, .own (sts ss), .val (.list M), .nil] = .ok (sts a) [.io bag', vS ss, .own (sts rest), .val (.list M), .nil] := by
    simp [q_cal3, -r_sRng1, hr, rng_len, wipeS, h1, unwipe, sizeLine, l3]
  rw [m__law_called, r_mB]
  show (c__law_called [.io bag, vS ss, .nil, .nil, .nil]).fin = _
  rw [c_cal_eq, r_sSeq, s1, sq_nx, r_sSeq, s2, sq_nx]
  simp [s3, lTup]
def swp (i j k : Nat) : Nat := if k = i then j else if k = j then i else k
theorem swp_get {α : Type} {l : List α} {i j : Nat} {x y : α} (hi : l[i]? = some x) (hj : l[j]? = some y) (k : Nat) : ((l.set i y).set j x)[k]? = l[swp i j k]? := by
  have li := (List.getElem?_eq_some_iff.mp hi).1
  have lj := (List.getElem?_eq_some_iff.mp hj).1
  unfold swp
  by_cases h2 : k = j
  · subst h2
    rw [List.getElem?_set_self (by rw [List.length_set]; exact lj)]
    by_cases h1 : k = i
    · subst h1; rw [if_pos rfl, hi]
    · rw [if_neg h1, if_pos rfl, hi]
  · rw [List.getElem?_set_ne (Ne.symm h2)]
    by_cases h1 : k = i
    · subst h1; rw [List.getElem?_set_self li, if_pos rfl, hj]
    · rw [List.getElem?_set_ne (Ne.symm h1), if_neg h1, if_neg h2]
theorem swp_swp {i j k : Nat} : swp i j (swp i j k) = k := by
  unfold swp
  split <;> split <;> (try split) <;> omega
theorem nodup_of_idx {α : Type} : ∀ {l : List α}, (∀ (i j : Nat) (x : α), l[i]? = some x → l[j]? = some x → i = j) → l.Nodup
  | [], _ => List.nodup_nil
  | y :: l, h => by
    refine List.nodup_cons.mpr ⟨fun m => ?_, nodup_of_idx fun i j x a b => ?_⟩
    · obtain ⟨i, hi⟩ := List.getElem?_of_mem m
      have := h 0 (i + 1) y rfl (by simpa using hi)
      omega
    · have := h (i + 1) (j + 1) x (by simpa using a) (by simpa using b)
      omega
theorem swp_nodup {α : Type} {l : List α} (h : l.Nodup) {i j : Nat} {x y : α} (hi : l[i]? = some x) (hj : l[j]? = some y) : ((l.set i y).set j x).Nodup := by
  refine nodup_of_idx fun a b z ha hb => ?_
  rw [swp_get hi hj] at ha hb
  have := nodup_at h ha hb
  rw [← swp_swp (i := i) (j := j) (k := a), this, swp_swp]
theorem swp_mem {α : Type} {l : List α} {i j : Nat} {x y z : α} (hi : l[i]? = some x) (hj : l[j]? = some y) : z ∈ (l.set i y).set j x ↔ z ∈ l := by
  constructor
  · intro h
    obtain ⟨k, hk⟩ := List.getElem?_of_mem h
    rw [swp_get hi hj] at hk
    exact List.mem_of_getElem? hk
  · intro h
    obtain ⟨k, hk⟩ := List.getElem?_of_mem h
    refine List.mem_of_getElem? (i := swp i j k) ?_
    rw [swp_get hi hj, swp_swp]
    exact hk
/-- a call -/
def callS (os : List Nat) (ss : List Str) (s : Str) : List Str :=
  if 0 < ss.idxOf s then (ss.set (ss.idxOf s) (nmAt ss (os.getD (ss.idxOf s - 1) 0))).set (os.getD (ss.idxOf s - 1) 0) s else ss
def callsS (os : List Nat) (ss : List Str) (names : List Str) : List Str := names.foldl (callS os) ss
section
variable {os : List Nat} {ss ord : List Str}
theorem Case.call (c : Case os ss ord) {s : Str} (h : s ∈ ss) : Case os (callS os ss s) ord ∧ ∀ z, z ∈ callS os ss s ↔ z ∈ ss := by
  unfold callS
  by_cases h0 : 0 < ss.idxOf s
  · rw [if_pos h0]
    have hl := c.len
    have li := idx_lt h
    have lt := off_lt c.off (e := ss.idxOf s) (by omega) (by omega)
    have hi := idx_get h
    have hj := nmAt_get (ss := ss) (t := os.getD (ss.idxOf s - 1) 0) (by omega)
    have mm := fun z => swp_mem (z := z) hi hj
    exact ⟨⟨c.off, by simp [hl], swp_nodup c.nd hi hj, fun z hz => c.nm z ((mm z).mp hz), c.ond, fun z hz => (mm z).mpr (c.osub z hz)⟩, mm⟩
  · rw [if_neg h0]
    exact ⟨c, fun _ => Iff.rfl⟩
theorem g_lix {s : Str} {l : List Str} (h : s ∈ l) : gLIx (sts l) (.str s) = some (.int (l.idxOf s : Nat)) := by
  unfold gLIx
  rw [if_pos ⟨rfl, flat_sts⟩]
  have e : (sts l).findIdx? (fun z => PyData.eqv z (.str s)) = l.findIdx? (· == s) := by
    unfold sts
    rw [List.findIdx?_map]
    rfl
  rw [e, findIdx_mem h]
  rfl
theorem set_sts {l : List Str} {i : Nat} {s : Str} : (sts l).set i (.str s) = sts (l.set i s) := by simp [sts]
theorem setI_sts {l : List Str} {i : Nat} {s : Str} (h : i < l.length) : setI (sts l) (.int (i : Nat)) (.str s) = some (sts (l.set i s)) := by
  show (if 0 ≤ (i : Int) ∧ (i : Int) < (sts l).length then some ((sts l).set (i : Int).toNat (.str s)) else none) = _
  rw [if_pos ⟨by omega, by rw [sts_len]; omega⟩, Int.toNat_natCast, set_sts]
end
end Ds
end
section
set_option Elab.async false
set_option linter.all false
set_option maxRecDepth 100000
set_option maxHeartbeats 1000000
open PySem PySem.Spec PyProof.Rows L2
namespace Ds
section
variable {os : List Nat} {ss ord : List Str}
theorem mem_drop_idx {s : Str} {l : List Str} (hn : l.Nodup) {k : Nat} : s ∈ l.drop k ↔ s ∈ l ∧ k ≤ l.idxOf s := by
  constructor
  · intro h
    obtain ⟨i, hi⟩ := List.getElem?_of_mem h
    rw [List.getElem?_drop] at hi
    have m := List.mem_of_getElem? hi
    have := nodup_at hn (idx_get m) hi
    exact ⟨m, by omega⟩
  · rintro ⟨m, h⟩
    refine List.mem_of_getElem? (i := l.idxOf s - k) ?_
    rw [List.getElem?_drop, show k + (l.idxOf s - k) = l.idxOf s by omega]
    exact idx_get m
theorem blk_nil {under : List Nat} {d : Nat} (h : under = []) : blk ss ord under d = [] := by
  unfold blk
  subst h
  split
  · simp
  · rfl
end
end Ds
end
section
set_option Elab.async false
set_option linter.all false
set_option maxRecDepth 100000
set_option maxHeartbeats 1000000
open PySem PySem.Spec PyProof.Rows L2
namespace Ds
section
variable {ord D R : List Str} {q y : Str}
theorem ix_head (h : ord = D ++ q :: R) (hn : ord.Nodup) : ord.idxOf q = D.length := by
  have e : ord[D.length]? = some q := by rw [h, List.getElem?_append_right (Nat.le_refl _), Nat.sub_self]; rfl
  exact nodup_at hn (idx_get (List.mem_of_getElem? e)) e
theorem ix_done (h : ord = D ++ q :: R) (hn : ord.Nodup) (hy : y ∈ D) : ord.idxOf y < ord.idxOf q := by
  obtain ⟨i, hi⟩ := List.getElem?_of_mem hy
  have lt := (List.getElem?_eq_some_iff.mp hi).1
  have e : ord[i]? = some y := by rw [h, List.getElem?_append_left lt]; exact hi
  rw [ix_head h hn, nodup_at hn (idx_get (List.mem_of_getElem? e)) e]
  exact lt
theorem ix_rest (h : ord = D ++ q :: R) (hn : ord.Nodup) (hy : y ∈ R) : ord.idxOf q < ord.idxOf y := by
  obtain ⟨i, hi⟩ := List.getElem?_of_mem hy
  have e : ord[D.length + (i + 1)]? = some y := by
    rw [h, List.getElem?_append_right (by omega), Nat.add_sub_cancel_left]
    simpa using hi
  rw [ix_head h hn, nodup_at hn (idx_get (List.mem_of_getElem? e)) e]
  omega
theorem in_three (h : ord = D ++ q :: R) (hy : y ∈ ord) : y ∈ D ∨ y = q ∨ y ∈ R := by
  rw [h, List.mem_append, List.mem_cons] at hy
  exact hy
/-- a group: the last of its persons sits at the center, or is still to come -/
def GP (ord : List Str) (U : List Nat) (c : Nat) (f : Nat → Str) (D R : List Str) : Prop :=
  f c ∈ ord ∧ (∀ e ∈ U, f e ∈ ord) ∧ (((∀ e ∈ U, ord.idxOf (f e) < ord.idxOf (f c)) ∧ (f c ∈ R → ∀ e ∈ U, f e ∈ R)) ∨ (f c ∈ D ∧ ∃ e0 ∈ U, f e0 ∈ R ∧ (∀ e ∈ U, f e ≠ f e0 → ord.idxOf (f e) < ord.idxOf (f e0)) ∧ ord.idxOf (f c) < ord.idxOf (f e0)))
theorem mem_rest {z : Str} (h : z ∈ q :: R) (n : z ≠ q) : z ∈ R := (List.mem_cons.mp h).resolve_left n
theorem GP.keep {U : List Nat} {c : Nat} {f f' : Nat → Str} (g : GP ord U c f D (q :: R)) (h : ∀ k, k = c ∨ k ∈ U → f' k = f k ∧ f k ≠ q) : GP ord U c f' (D ++ [q]) R := by
  obtain ⟨g1, g2, g3⟩ := g
  have hc := h c (.inl rfl)
  refine ⟨by rw [hc.1]; exact g1, fun e he => by rw [(h e (.inr he)).1]; exact g2 e he, ?_⟩
  rcases g3 with ⟨a, b⟩ | ⟨a, e0, h0, b1, b2, b3⟩
  · left
    refine ⟨fun e he => by rw [(h e (.inr he)).1, hc.1]; exact a e he, fun z e he => ?_⟩
    rw [hc.1] at z
    rw [(h e (.inr he)).1]
    exact mem_rest (b (List.mem_cons_of_mem _ z) e he) (h e (.inr he)).2
  · right
    have h00 := h e0 (.inr h0)
    refine ⟨by rw [hc.1]; exact List.mem_append_left _ a, e0, h0, by rw [h00.1]; exact mem_rest b1 h00.2, fun e he z => ?_, by rw [hc.1, h00.1]; exact b3⟩
    rw [(h e (.inr he)).1, h00.1] at z ⊢
    exact b2 e he z
/-- one of its persons is called, below the center -/
theorem GP.move {U : List Nat} {c d : Nat} {f f' : Nat → Str} (ho : ord = D ++ q :: R) (hn : ord.Nodup) (g : GP ord U c f D (q :: R)) (hd : d ∈ U) (hq : f d = q) (hcU : c ∉ U) (hinj : ∀ e ∈ U, e ≠ d → f e ≠ q) (hc : f' c = q) (hd' : f' d = f c) (h : ∀ k ∈ U, k ≠ d → f' k = f k) : GP ord U c f' (D ++ [q]) R := by
  obtain ⟨g1, g2, g3⟩ := g
  have qo : q ∈ ord := by rw [ho]; simp
  have qR : q ∉ R := by
    intro z
    have := ix_rest ho hn z
    omega
  have qD : q ∈ D ++ [q] := by simp
  have co : ∀ e ∈ U, f' e ∈ ord := fun e he => by
    by_cases ed : e = d
    · rw [ed, hd']; exact g1
    · rw [h e he ed]; exact g2 e he
  refine ⟨by rw [hc]; exact qo, co, ?_⟩
  rcases g3 with ⟨a, b⟩ | ⟨a, e0, h0, b1, b2, b3⟩
  · -- the last one sat at the center
    have lt := a d hd
    rw [hq] at lt
    have fR : f c ∈ R := by
      rcases in_three ho g1 with z | z | z
      · have := ix_done ho hn z; omega
      · rw [z] at lt; omega
      · exact z
    right
    refine ⟨by rw [hc]; exact qD, d, hd, by rw [hd']; exact fR, fun e he z => ?_, by rw [hc, hd']; exact lt⟩
    by_cases ed : e = d
    · exact absurd (by rw [ed]) z
    · rw [h e he ed, hd']; exact a e he
  · by_cases e0d : e0 = d
    · subst e0d
      rw [hq] at b2 b3
      left
      refine ⟨fun e he => ?_, fun z => absurd (by rw [← hc]; exact z) qR⟩
      rw [hc]
      by_cases ed : e = e0
      · rw [ed, hd']; exact b3
      · rw [h e he ed]; exact b2 e he (hinj e he ed)
    · right
      have ne := hinj e0 h0 e0d
      refine ⟨by rw [hc]; exact qD, e0, h0, by rw [h e0 h0 e0d]; exact mem_rest b1 ne, fun e he z => ?_, ?_⟩
      · rw [h e0 h0 e0d] at z ⊢
        by_cases ed : e = d
        · rw [ed, hd']; exact b3
        · rw [h e he ed] at z ⊢; exact b2 e he z
      · rw [hc, h e0 h0 e0d]
        have := b2 d hd (by rw [hq]; exact fun z => ne z.symm)
        rw [hq] at this
        exact this
/-- nobody is called at a center -/
theorem GP.nocall {U : List Nat} {c : Nat} {f : Nat → Str} (ho : ord = D ++ q :: R) (hn : ord.Nodup) (g : GP ord U c f D (q :: R)) (hU : U ≠ []) (hinj : ∀ e ∈ U, f e ≠ f c) : f c ≠ q := by
  intro hq
  obtain ⟨g1, g2, g3⟩ := g
  rcases g3 with ⟨a, b⟩ | ⟨a, _⟩
  · obtain ⟨e, he⟩ := List.exists_mem_of_ne_nil U hU
    have m := mem_rest (b (by rw [hq]; simp) e he) (by rw [← hq]; exact hinj e he)
    have := ix_rest ho hn m
    have := a e he
    rw [hq] at this
    omega
  · rw [hq] at a
    have := ix_done ho hn a
    omega
end
def okd0 (os : List Nat) (s ord : List Str) (d : Nat) : List Nat := okd os (calB s ord) 0 d
def op0 (os : List Nat) (s ord : List Str) (d : Nat) : Bool := op os (calB s ord) d
/-- what stands during a day that begins with s, whose desks behind t are settled -/
structure Dy (os : List Nat) (s ord : List Str) (t : Nat) (x D R : List Str) : Prop where
  cs : Case os x ord
  spl : ord = D ++ R
  sil : ∀ e, t < e → e ≤ os.length → op0 os s ord e = false → okd0 os s ord e = [] → nmAt x e = nmAt s e
  grp : ∀ c, t < c → c ≤ os.length → okd0 os s ord c ≠ [] → GP ord (okd0 os s ord c) c (nmAt x) D R
  top : (∀ e ∈ okd0 os s ord t, nmAt x e ∈ R) ∨ (nmAt x t ∈ D ∧ ∀ e ∈ okd0 os s ord t, nmAt x e ∈ ord → nmAt x e ∉ R → ord.idxOf (nmAt x e) < ord.idxOf (nmAt x t))
section
variable {os : List Nat} {s ss ord x D R : List Str} {q : Str} {t : Nat}
theorem mem_ok0 {d e : Nat} : e ∈ okd0 os s ord d ↔ 0 < e ∧ e ≤ os.length ∧ os.getD (e - 1) 0 = d ∧ op0 os s ord e = true := mem_okd
theorem ok0_lt (h : Off os) {d e : Nat} (m : e ∈ okd0 os s ord d) : d < e := by
  obtain ⟨h1, h2, h3, _⟩ := mem_ok0.mp m
  have := off_lt h h1 h2
  omega
theorem op0_eq (h : Off os) {e : Nat} (he : e ≤ os.length) : op0 os s ord e = (calB s ord e && (okd0 os s ord e).isEmpty) := op_okd h he
theorem op0_ok (h : Off os) {e : Nat} (he : e ≤ os.length) (ho : op0 os s ord e = true) : nmAt s e ∈ ord ∧ okd0 os s ord e = [] := by
  rw [op0_eq h he, Bool.and_eq_true] at ho
  exact ⟨of_decide_eq_true ho.1, List.isEmpty_iff.mp ho.2⟩
theorem nm_inj (c : Case os x ord) {i j : Nat} (hi : i ≤ os.length) (hj : j ≤ os.length) (e : nmAt x i = nmAt x j) : i = j := by
  have hl := c.len
  have a := nmAt_get (ss := x) (t := i) (by omega)
  have b := nmAt_get (ss := x) (t := j) (by omega)
  rw [← e] at b
  exact nodup_at c.nd a b
theorem nm_of {l l' : List Str} {k j : Nat} (h : l[k]? = l'[j]?) : nmAt l k = nmAt l' j := by
  unfold nmAt
  rw [List.getD_eq_getElem?_getD, List.getD_eq_getElem?_getD, h]
/-- the places behind a call -/
theorem call_at (c : Case os x ord) (hq : q ∈ x) : x.idxOf q ≤ os.length ∧ nmAt x (x.idxOf q) = q ∧ ((x.idxOf q = 0 ∧ callS os x q = x) ∨ (0 < x.idxOf q ∧ nmAt (callS os x q) (x.idxOf q) = nmAt x (os.getD (x.idxOf q - 1) 0) ∧ nmAt (callS os x q) (os.getD (x.idxOf q - 1) 0) = q ∧ ∀ k, k ≠ x.idxOf q → k ≠ os.getD (x.idxOf q - 1) 0 → nmAt (callS os x q) k = nmAt x k)) := by
  have hl := c.len
  have li := idx_lt hq
  refine ⟨by omega, nm_idx hq, ?_⟩
  by_cases h0 : 0 < x.idxOf q
  · right
    have lt := off_lt c.off (e := x.idxOf q) h0 (by omega)
    have hi := idx_get hq
    have hj := nmAt_get (ss := x) (t := os.getD (x.idxOf q - 1) 0) (by omega)
    have key : ∀ k, nmAt (callS os x q) k = nmAt x (swp (x.idxOf q) (os.getD (x.idxOf q - 1) 0) k) := fun k => by
      unfold callS
      rw [if_pos h0]
      exact nm_of (swp_get hi hj k)
    refine ⟨h0, ?_, ?_, fun k h1 h2 => ?_⟩
    · rw [key]; unfold swp; rw [if_pos rfl]
    · rw [key]; unfold swp; rw [if_neg (by omega), if_pos rfl, nm_idx hq]
    · rw [key]; unfold swp; rw [if_neg h1, if_neg h2]
  · left
    exact ⟨by omega, by unfold callS; rw [if_neg h0]⟩
theorem Dy.step (dy : Dy os s ord t x D (q :: R)) (ht : t ≤ os.length) : Dy os s ord t (callS os x q) (D ++ [q]) R := by
  obtain ⟨cs, spl, sil, grp, top⟩ := dy
  have off := cs.off
  have ho := spl
  have hn := cs.ond
  have qo : q ∈ ord := by rw [ho]; simp
  have qx : q ∈ x := cs.osub q qo
  obtain ⟨dl, dn, mv⟩ := call_at cs qx
  have inj : ∀ {i : Nat}, i ≤ os.length → nmAt x i = q → i = x.idxOf q := fun {i} hi e => nm_inj cs hi dl (by rw [e, dn])
  -- where the call is not
  have nocen : ∀ c, t < c → c ≤ os.length → okd0 os s ord c ≠ [] → x.idxOf q ≠ c := fun c h1 h2 h3 z => by
    refine (grp c h1 h2 h3).nocall ho hn h3 (fun e he w => ?_) (by rw [← z]; exact dn)
    have := ok0_lt off he
    have := nm_inj cs (mem_ok0.mp he).2.1 h2 w
    omega
  have nosil : ∀ e, t < e → e ≤ os.length → op0 os s ord e = false → okd0 os s ord e = [] → x.idxOf q ≠ e := fun e h1 h2 h3 h4 z => by
    have e1 := sil e h1 h2 h3 h4
    rw [← z, dn] at e1
    rw [op0_eq off h2, h4] at h3
    have : calB s ord e = false := by simpa using h3
    unfold calB at this
    rw [← z, ← e1] at this
    exact (of_decide_eq_false this) qo
  have dop : t < x.idxOf q → op0 os s ord (x.idxOf q) = true := fun h => by
    cases z : op0 os s ord (x.idxOf q) with
    | true => rfl
    | false =>
      by_cases w : okd0 os s ord (x.idxOf q) = []
      · exact absurd rfl (nosil _ h dl z w)
      · exact absurd rfl (nocen _ h dl w)
  have spl' : ord = D ++ [q] ++ R := by rw [ho, List.append_assoc]; rfl
  have cs' := (cs.call qx).1
  have neq : ∀ {k : Nat}, k ≤ os.length → k ≠ x.idxOf q → nmAt x k ≠ q := fun {k} h1 h2 z => h2 (inj h1 z)
  have nR : ∀ {y : Str}, y ∈ q :: R → y ≠ q → y ∈ R := fun h n => mem_rest h n
  rcases mv with ⟨d0, ex⟩ | ⟨d0, m1, m2, m3⟩
  · -- at desk 0: nothing moves
    rw [ex]
    refine ⟨cs, spl', sil, fun c h1 h2 h3 => (grp c h1 h2 h3).keep fun k hk => ⟨rfl, ?_⟩, ?_⟩
    · rcases hk with hk | hk
      · exact neq (by omega) (by omega)
      · exact neq (mem_ok0.mp hk).2.1 (by have := (mem_ok0.mp hk).1; omega)
    · rcases top with a | ⟨a, b⟩
      · exact .inl fun e he => nR (a e he) (neq (mem_ok0.mp he).2.1 (by have := (mem_ok0.mp he).1; omega))
      · refine .inr ⟨List.mem_append_left _ a, fun e he h1 h2 => b e he h1 fun z => h2 (nR z (neq (mem_ok0.mp he).2.1 (by have := (mem_ok0.mp he).1; omega)))⟩
  · have ult := off_lt off (e := x.idxOf q) d0 dl
    generalize hd : x.idxOf q = d at *
    generalize hu : os.getD (d - 1) 0 = u at *
    -- a place that stays
    have stay : ∀ {k : Nat}, k ≤ os.length → k ≠ d → k ≠ u → nmAt (callS os x q) k = nmAt x k ∧ nmAt x k ≠ q := fun {k} h0 h1 h2 => ⟨m3 k h1 h2, neq h0 h1⟩
    have inok : ∀ {c k : Nat}, k ∈ okd0 os s ord c → k = d → c = u := fun {c k} h z => by
      have := (mem_ok0.mp h).2.2.1
      rw [z, hu] at this
      exact this.symm
    have uop : ∀ {c : Nat}, u ∈ okd0 os s ord c → okd0 os s ord u = [] := fun {c} h => (op0_ok off (mem_ok0.mp h).2.1 (mem_ok0.mp h).2.2.2).2
    have din : t < d → d ∈ okd0 os s ord u := fun h => mem_ok0.mpr ⟨d0, dl, hu, dop h⟩
    -- groups that the call does not touch
    have far : ∀ c, t < c → c ≤ os.length → okd0 os s ord c ≠ [] → c ≠ u → (u ∉ okd0 os s ord c) → GP ord (okd0 os s ord c) c (nmAt (callS os x q)) (D ++ [q]) R := fun c h1 h2 h3 h4 h5 => (grp c h1 h2 h3).keep fun k hk => by
      rcases hk with hk | hk
      · subst hk; exact stay h2 (fun z => nocen k h1 h2 h3 z.symm) h4
      · exact stay (mem_ok0.mp hk).2.1 (fun z => h4 (inok hk z)) fun z => h5 (by rw [← z]; exact hk)
    have sil' : ∀ e, t < e → e ≤ os.length → op0 os s ord e = false → okd0 os s ord e = [] → nmAt (callS os x q) e = nmAt s e := fun e h1 h2 h3 h4 => by
      have n1 : e ≠ d := fun z => nosil e h1 h2 h3 h4 z.symm
      have n2 : e ≠ u := fun z => by
        have hdt : t < d := by omega
        have := din hdt
        rw [← z, h4] at this
        cases this
      rw [m3 e n1 n2]
      exact sil e h1 h2 h3 h4
    by_cases hdt : t < d
    · have dU := din hdt
      have uU : ∀ c, u ∉ okd0 os s ord c := fun c h => by
        have := uop h
        rw [this] at dU
        cases dU
      have nU : okd0 os s ord u ≠ [] := fun z => by rw [z] at dU; cases dU
      refine ⟨cs', spl', sil', fun c h1 h2 h3 => ?_, ?_⟩
      · by_cases hcu : c = u
        · subst hcu
          refine (grp c h1 h2 h3).move ho hn dU dn (uU c) (fun e he hne => neq (mem_ok0.mp he).2.1 hne) m2 m1 fun k hk hne => m3 k hne fun z => absurd hk (by rw [z]; exact uU _)
        · exact far c h1 h2 h3 hcu (uU c)
      · by_cases hut : u = t
        · subst hut
          right
          refine ⟨by rw [m2]; simp, fun e he h1 h2 => ?_⟩
          rw [m2]
          have key : ∀ y, y ∈ ord → y ∉ R → y ≠ q → ord.idxOf y < ord.idxOf q := fun y a b c => by
            rcases in_three ho a with z | z | z
            · exact ix_done ho hn z
            · exact absurd z c
            · exact absurd z b
          by_cases ed : e = d
          · subst ed
            rw [m1] at h1 h2 ⊢
            exact key _ h1 h2 (neq ht (by omega))
          · rw [m3 e ed fun z => absurd he (by rw [z]; exact uU _)] at h1 h2 ⊢
            exact key _ h1 h2 (neq (mem_ok0.mp he).2.1 ed)
        · have st : ∀ e ∈ okd0 os s ord t, nmAt (callS os x q) e = nmAt x e ∧ nmAt x e ≠ q := fun e he => stay (mem_ok0.mp he).2.1 (fun z => hut (inok he z).symm) fun z => uU t (by rw [← z]; exact he)
          have s2 := stay ht (by omega : t ≠ d) (fun z => hut z.symm)
          rcases top with a | ⟨a, b⟩
          · exact .inl fun e he => by rw [(st e he).1]; exact nR (a e he) (st e he).2
          · refine .inr ⟨by rw [s2.1]; exact List.mem_append_left _ a, fun e he h1 h2 => ?_⟩
            rw [(st e he).1] at h1 h2 ⊢
            rw [s2.1]
            exact b e he h1 fun z => h2 (nR z (st e he).2)
    · -- at t or above
      have uU : ∀ c, t ≤ c → u ∉ okd0 os s ord c := fun c h1 h2 => by have := ok0_lt off h2; omega
      refine ⟨cs', spl', sil', fun c h1 h2 h3 => far c h1 h2 h3 (by omega) (uU c (by omega)), ?_⟩
      have st : ∀ e ∈ okd0 os s ord t, nmAt (callS os x q) e = nmAt x e ∧ nmAt x e ≠ q := fun e he => by
        have := ok0_lt off he
        exact stay (mem_ok0.mp he).2.1 (by omega) (by omega)
      rcases top with a | ⟨a, b⟩
      · exact .inl fun e he => by rw [(st e he).1]; exact nR (a e he) (st e he).2
      · by_cases hd2 : d = t
        · exfalso
          rw [← hd2, dn] at a
          have := ix_done ho hn a
          omega
        · have s2 := stay ht (by omega : t ≠ d) (by omega : t ≠ u)
          refine .inr ⟨by rw [s2.1]; exact List.mem_append_left _ a, fun e he h1 h2 => ?_⟩
          rw [(st e he).1] at h1 h2 ⊢
          rw [s2.1]
          exact b e he h1 fun z => h2 (nR z (st e he).2)
theorem Dy.run : ∀ {R x D : List Str}, Dy os s ord t x D R → t ≤ os.length → Dy os s ord t (callsS os x R) ord []
  | [], x, D, dy, _ => by
    have := dy.spl
    rw [List.append_nil] at this
    rw [this]
    rw [this] at dy
    exact dy
  | q :: R, x, D, dy, ht => by
    show Dy os s ord t (callsS os (callS os x q) R) ord []
    exact Dy.run (dy.step ht) ht
end
end Ds
end
section
set_option Elab.async false
set_option linter.all false
set_option maxRecDepth 100000
set_option maxHeartbeats 1000000
open PySem PySem.Spec PyProof.Rows L2
namespace Ds
section
variable {os : List Nat} {s ss ord x : List Str} {t : Nat}
theorem blk_none {U : List Nat} {d : Nat} (hn : ord.Nodup) (hd : nmAt x d ∈ ord) (h : ∀ e ∈ U, ord.idxOf (nmAt x e) < ord.idxOf (nmAt x d)) : blk x ord U d = [] := by
  unfold blk
  rw [if_pos hd, List.map_eq_nil_iff, List.filter_eq_nil_iff]
  intro y hy
  rw [decide_eq_true_eq]
  intro hm
  obtain ⟨e, he, rfl⟩ := List.mem_map.mp hm
  have := (mem_drop_idx hn).mp hy
  have := h e he
  omega
theorem blk_some {U : List Nat} {d : Nat} (c : Case os s ord) (hd : d ≤ os.length) (hU : ∀ e ∈ U, e ≤ os.length ∧ e ≠ d ∧ nmAt s e ∈ ord) (h0 : U ≠ []) (h : blk s ord U d = []) : nmAt s d ∈ ord ∧ ∀ e ∈ U, ord.idxOf (nmAt s e) < ord.idxOf (nmAt s d) := by
  unfold blk at h
  by_cases hc : nmAt s d ∈ ord
  · refine ⟨hc, fun e he => ?_⟩
    rw [if_pos hc, List.map_eq_nil_iff, List.filter_eq_nil_iff] at h
    obtain ⟨h1, h2, h3⟩ := hU e he
    rcases Nat.lt_trichotomy (ord.idxOf (nmAt s e)) (ord.idxOf (nmAt s d)) with z | z | z
    · exact z
    · exact absurd (nm_inj c h1 hd (idx_inj h3 hc z)) h2
    · exact absurd (decide_eq_true (List.mem_map.mpr ⟨e, he, rfl⟩)) (h (nmAt s e) ((mem_drop_idx c.ond).mpr ⟨h3, by omega⟩))
  · rw [if_neg hc, if_neg h0] at h
    cases h
/-- the desks from k on are settled -/
def stF (os : List Nat) (s ord : List Str) (k : Nat) : Prop := ∀ d, k ≤ d → d ≤ os.length → blkD os s ord d = []
theorem settledB_iff : settledB os s ord = true ↔ stF os s ord 0 := by
  unfold settledB stF desks
  rw [List.all_eq_true]
  constructor
  · intro h d _ hd
    exact List.isEmpty_iff.mp (h d (List.mem_range.mpr (by omega)))
  · intro h d hd
    rw [List.mem_range] at hd
    exact List.isEmpty_iff.mpr (h d (Nat.zero_le _) (by omega))
theorem ok0_mem (c : Case os s ord) {d e : Nat} (he : e ∈ okd0 os s ord d) : e ≤ os.length ∧ e ≠ d ∧ nmAt s e ∈ ord := by
  have h := mem_ok0.mp he
  have := ok0_lt c.off he
  exact ⟨h.2.1, by omega, (op0_ok c.off h.2.1 h.2.2.2).1⟩
theorem Dy.start (c : Case os s ord) (h : stF os s ord (t + 1)) : Dy os s ord t s [] ord := by
  refine ⟨c, rfl, fun _ _ _ _ _ => rfl, fun d h1 h2 h3 => ?_, .inl fun e he => (ok0_mem c he).2.2⟩
  obtain ⟨a, b⟩ := blk_some c h2 (fun e he => ok0_mem c he) h3 (h d h1 h2)
  exact ⟨a, fun e he => (ok0_mem c he).2.2, .inl ⟨b, fun _ e he => (ok0_mem c he).2.2⟩⟩
theorem Dy.same (dy : Dy os s ord t x ord []) : ∀ (k e : Nat), os.length - e ≤ k → t < e → e ≤ os.length → okd0 os x ord e = okd0 os s ord e ∧ (op0 os x ord e = true → op0 os s ord e = true) ∧ (t < os.getD (e - 1) 0 → op0 os s ord e = true → op0 os x ord e = true) := by
  intro k
  induction k using Nat.strongRecOn with
  | ind k ih =>
    intro e hk h1 h2
    have off := dy.cs.off
    have e1 : okd0 os x ord e = okd0 os s ord e := by
      unfold okd0 okd
      apply List.filter_congr
      intro c hc
      rw [List.mem_range'_1] at hc
      by_cases hs : os.getD (c - 1) 0 = e
      · have lt := off_lt off (e := c) (by omega) (by omega)
        obtain ⟨_, a, b⟩ := ih (os.length - c) (by omega) c (Nat.le_refl _) (by omega) (by omega)
        have : op os (calB x ord) c = op os (calB s ord) c := by
          cases z : op os (calB s ord) c with
          | true => exact b (by omega) z
          | false =>
            cases w : op os (calB x ord) c with
            | true =>
              have q : op os (calB s ord) c = true := a w
              rw [z] at q; cases q
            | false => rfl
        rw [this]
      · rw [decide_eq_false hs, Bool.false_and, Bool.false_and]
    refine ⟨e1, fun ho => ?_, fun hs ho => ?_⟩
    · obtain ⟨a, b⟩ := op0_ok off h2 ho
      rw [e1] at b
      cases z : op0 os s ord e with
      | true => rfl
      | false =>
        have := dy.sil e h1 h2 z b
        rw [op0_eq off h2, b] at z
        rw [this] at a
        simp [calB, a] at z
    · have hc : os.getD (e - 1) 0 ≤ os.length := by have := off_lt off (e := e) (by omega) h2; omega
      have hm : e ∈ okd0 os s ord (os.getD (e - 1) 0) := mem_ok0.mpr ⟨by omega, h2, rfl, ho⟩
      have g := dy.grp _ hs hc (fun z => by rw [z] at hm; cases hm)
      obtain ⟨_, b⟩ := op0_ok off h2 ho
      rw [op0_eq off h2, e1, b]
      simp [calB, g.2.1 e hm]
theorem Dy.settled (dy : Dy os s ord t x ord []) (ht : t ≤ os.length) : stF os x ord t := by
  intro d h1 h2
  have off := dy.cs.off
  have hn := dy.cs.ond
  show blk x ord (okd0 os x ord d) d = []
  by_cases hdt : d = t
  · subst hdt
    by_cases h0 : okd0 os x ord d = []
    · exact blk_nil h0
    · obtain ⟨e, he⟩ := List.exists_mem_of_ne_nil _ h0
      have sub : ∀ e ∈ okd0 os x ord d, e ∈ okd0 os s ord d ∧ nmAt x e ∈ ord := fun e he => by
        obtain ⟨a, b, c, o⟩ := mem_ok0.mp he
        have lt := ok0_lt off he
        obtain ⟨_, a2, _⟩ := dy.same _ e (Nat.le_refl _) lt b
        exact ⟨mem_ok0.mpr ⟨a, b, c, a2 o⟩, (op0_ok off b o).1⟩
      rcases dy.top with a | ⟨a, b⟩
      · have := a e (sub e he).1
        cases this
      · exact blk_none hn a fun e he => b e (sub e he).1 (sub e he).2 (by simp)
  · rw [(dy.same _ d (Nat.le_refl _) (by omega) h2).1]
    by_cases h0 : okd0 os s ord d = []
    · exact blk_nil h0
    · obtain ⟨g1, g2, g3⟩ := dy.grp d (by omega) h2 h0
      rcases g3 with ⟨a, _⟩ | ⟨_, e0, _, b, _⟩
      · exact blk_none hn g1 a
      · cases b
/-- a day settles one more desk -/
theorem day_settles (c : Case os s ord) (ht : t ≤ os.length) (h : stF os s ord (t + 1)) : stF os (callsS os s ord) ord t :=
  Dy.settled (Dy.run (Dy.start c h) ht) ht
def daysS (os : List Nat) (ord : List Str) : Nat → List Str → List Str
  | 0, s => s
  | k + 1, s => daysS os ord k (callsS os s ord)
theorem settled_stays (c : Case os s ord) (h : settledB os s ord = true) : settledB os (callsS os s ord) ord = true := by
  rw [settledB_iff] at h ⊢
  exact day_settles c (Nat.zero_le _) fun d _ hd => h d (Nat.zero_le _) hd
end
end Ds
end
section
set_option Elab.async false
set_option linter.all false
set_option maxRecDepth 100000
set_option maxHeartbeats 1000000
open PySem PySem.Spec PyProof.Rows L2
namespace Ds
section
variable {os : List Nat} {s ord R : List Str} {x y z : Str}
/-- the persons of a group -/
def InG (s : List Str) (U : List Nat) (d : Nat) (z : Str) : Prop := ∃ k, (k = d ∨ k ∈ U) ∧ nmAt s k = z
theorem okd_cal {s' ord' : List Str} (h : calB s' ord' = calB s ord) (d : Nat) : okd0 os s' ord' d = okd0 os s ord d := by unfold okd0; rw [h]
theorem op_cal {s' ord' : List Str} (h : calB s' ord' = calB s ord) (d : Nat) : op0 os s' ord' d = op0 os s ord d := by unfold op0; rw [h]
/-- what one call of the first of the order does to a recurrent state -/
structure Rot (os : List Nat) (s ord s' ord' : List Str) : Prop where
  cs : Case os s' ord'
  st : stF os s' ord' 0
  cal : calB s' ord' = calB s ord
  grp : ∀ d, d ≤ os.length → okd0 os s ord d ≠ [] → ∀ z, InG s' (okd0 os s ord d) d z ↔ InG s (okd0 os s ord d) d z
  rest : ∀ k, k ≤ os.length → okd0 os s ord k = [] → (op0 os s ord k = false ∨ k = 0) → nmAt s' k = nmAt s k
end
end Ds
end
section
set_option Elab.async false
set_option linter.all false
set_option maxRecDepth 100000
set_option maxHeartbeats 1000000
open PySem PySem.Spec PyProof.Rows L2
namespace Ds
section
variable {os : List Nat} {s s1 s2 o0 o1 o2 : List Str}
theorem Rot.refl (c : Case os s o0) (h : stF os s o0 0) : Rot os s o0 s o0 := ⟨c, h, rfl, fun _ _ _ _ => Iff.rfl, fun _ _ _ _ => rfl⟩
theorem Rot.trans (a : Rot os s o0 s1 o1) (b : Rot os s1 o1 s2 o2) : Rot os s o0 s2 o2 := by
  have e : ∀ d, okd0 os s1 o1 d = okd0 os s o0 d := fun d => okd_cal a.cal d
  have f : ∀ d, op0 os s1 o1 d = op0 os s o0 d := fun d => op_cal a.cal d
  refine ⟨b.cs, b.st, b.cal.trans a.cal, fun d hd h z => ?_, fun k hk h1 h2 => ?_⟩
  · have := b.grp d hd (by rw [e]; exact h) z
    rw [e] at this
    exact this.trans (a.grp d hd h z)
  · rw [b.rest k hk (by rw [e]; exact h1) (by rw [f]; exact h2)]
    exact a.rest k hk h1 h2
end
end Ds
end
section
set_option Elab.async false
set_option linter.all false
set_option maxRecDepth 100000
set_option maxHeartbeats 1000000
open PySem PySem.Spec PyProof.Rows L2
namespace Ds
def rowS (os : List Nat) (ss : List Str) (s : Str) : PyData :=
  .tuple [.str s, .int (ss.idxOf s : Nat), if 0 < ss.idxOf s then .str (nmAt ss (os.getD (ss.idxOf s - 1) 0)) else .none]
section
variable {os : List Nat} {ss ord : List Str}
/-- k is the settling day -/
structure SDay (os : List Nat) (s ord : List Str) (k : Nat) : Prop where
  le : k ≤ os.length
  yes : settledB os (daysS os ord k s) ord = true
  no : ∀ j, j < k → settledB os (daysS os ord j s) ord = false
end
end Ds
end
section
set_option Elab.async false
set_option linter.all false
set_option maxRecDepth 100000
set_option maxHeartbeats 1000000
open PySem PySem.Spec PyProof.Rows L2
namespace Ds
def namesG (os : List Nat) (s ord : List Str) (d : Nat) : List Str := ord.filter fun n => decide (n ∈ (d :: okd0 os s ord d).map (nmAt s))
def grpD (os : List Nat) (s ord : List Str) (d : Nat) : PyData := .tuple [.int (d : Nat), .list (nts (okd0 os s ord d)), .list (sts (namesG os s ord d))]
end Ds
end
section
set_option Elab.async false
set_option linter.all false
set_option maxRecDepth 100000
set_option maxHeartbeats 1000000
open PySem PySem.Spec PyProof.Rows L2
namespace Ds
def depL (os : List Nat) : List Nat := os.foldl (fun acc u => acc ++ [acc.getD u 0 + 1]) [0]
def dep (os : List Nat) (k : Nat) : Nat := (depL os).getD k 0
theorem depL_snoc {os : List Nat} {u : Nat} : depL (os ++ [u]) = depL os ++ [(depL os).getD u 0 + 1] := by
  unfold depL
  rw [List.foldl_append]
  rfl
theorem depL_len : ∀ (n : Nat) (os : List Nat), os.length = n → (depL os).length = n + 1
  | 0, os, h => by rw [List.length_eq_zero_iff.mp h]; rfl
  | n + 1, os, h => by
    obtain ⟨i, u, rfl⟩ : ∃ i u, os = i ++ [u] := ⟨os.dropLast, os.getLast (fun w => by rw [w] at h; cases h), (List.dropLast_concat_getLast _).symm⟩
    rw [List.length_append, List.length_singleton] at h
    rw [depL_snoc, List.length_append, depL_len n i (by omega)]
    rfl
theorem getD_app {l : List Nat} {v k : Nat} (h : k < l.length) : (l ++ [v]).getD k 0 = l.getD k 0 := by
  simp [List.getD, List.getElem?_append_left h]
theorem dep_at : ∀ (n : Nat) (os : List Nat), os.length = n → (∀ (i x : Nat), os[i]? = some x → x ≤ i) → ∀ k, 0 < k → k ≤ n → dep os k = dep os (os.getD (k - 1) 0) + 1
  | 0, os, h, _, k, k0, k1 => by omega
  | n + 1, os, h, ho, k, k0, k1 => by
    obtain ⟨i, u, rfl⟩ : ∃ i u, os = i ++ [u] := ⟨os.dropLast, os.getLast (fun w => by rw [w] at h; cases h), (List.dropLast_concat_getLast _).symm⟩
    rw [List.length_append, List.length_singleton] at h
    have hi : i.length = n := by omega
    have hl := depL_len n i hi
    have hu : u ≤ n := by
      have := ho i.length u (by rw [List.getElem?_append_right (Nat.le_refl _), Nat.sub_self]; rfl)
      omega
    have ho' : ∀ (j x : Nat), i[j]? = some x → x ≤ j := fun j x e => ho j x (by rw [List.getElem?_append_left (List.getElem?_eq_some_iff.mp e).1]; exact e)
    by_cases hk : k = n + 1
    · subst hk
      have e1 : (i ++ [u]).getD (n + 1 - 1) 0 = u := by rw [Nat.add_sub_cancel, ← hi]; simp [List.getD]
      unfold dep
      rw [e1, depL_snoc, getD_app (l := depL i) (k := u) (by omega)]
      have e3 : (depL i ++ [(depL i).getD u 0 + 1])[n + 1]? = some ((depL i).getD u 0 + 1) := by rw [← hl, List.getElem?_append_right (Nat.le_refl _), Nat.sub_self]; rfl
      rw [List.getD_eq_getElem?_getD, e3]
      rfl
    · have ih := dep_at n i hi ho' k k0 (by omega)
      have e1 : (i ++ [u]).getD (k - 1) 0 = i.getD (k - 1) 0 := getD_app (by omega)
      have lt : i.getD (k - 1) 0 < n + 1 := by
        have e : i[k - 1]? = some (i.getD (k - 1) 0) := by simp [List.getD, List.getElem?_eq_getElem (show k - 1 < i.length by omega)]
        have := ho' _ _ e
        omega
      unfold dep at ih ⊢
      rw [e1, depL_snoc, getD_app (by omega), getD_app (by omega), ih]
section
variable {os : List Nat} {s o R s' o' : List Str} {x y z : Str} {d k : Nat}
theorem Off.dep (h : Off os) {k : Nat} (h0 : 0 < k) (h1 : k ≤ os.length) : Ds.dep os k = Ds.dep os (os.getD (k - 1) 0) + 1 := dep_at os.length os rfl h.2 k h0 h1
end
end Ds
end
section
set_option Elab.async false
set_option linter.all false
set_option maxRecDepth 100000
set_option maxHeartbeats 1000000
open PySem PySem.Spec PyProof.Rows L2
namespace Ds
def T1 : Nat → Bool := fun _ => true
abbrev ok1 (os : List Nat) (d : Nat) : List Nat := okd os T1 0 d
abbrev sup (os : List Nat) (d : Nat) : Nat := os.getD (d - 1) 0
def cenL (os : List Nat) : List Nat := (List.range (os.length + 1)).filter fun d => !(ok1 os d).isEmpty
section
variable {os : List Nat} {left cs : List Nat} {d e last : Nat}
theorem op1 (h : Off os) (he : e ≤ os.length) : op os T1 e = true ↔ ok1 os e = [] := by
  rw [op_okd h he]
  simp [T1]
theorem mem_ok1 : e ∈ ok1 os d ↔ 0 < e ∧ e ≤ os.length ∧ sup os e = d ∧ op os T1 e = true := mem_okd
theorem sup_lt (h : Off os) (h1 : 0 < e) (h2 : e ≤ os.length) : sup os e < e := off_lt h h1 h2
/-- what stands while groups are removed -/
structure RI (os left cs : List Nat) : Prop where
  asc : left.Pairwise (· < ·)
  le : ∀ d ∈ left, d ≤ os.length
  out : ∀ d, d ≤ os.length → d ∉ left → d ∈ cs ∨ (0 < d ∧ sup os d ∈ cs ∧ op os T1 d = true)
  cin : ∀ d ∈ cs, d ≤ os.length ∧ d ∉ left ∧ (∀ e ∈ ok1 os d, e ∉ left) ∧ ok1 os d ≠ []
  nd : cs.Nodup
theorem RI.start : RI os (List.range (os.length + 1)) [] where
  asc := List.pairwise_lt_range
  le := fun d h => by have := List.mem_range.mp h; omega
  out := fun d h n => absurd (List.mem_range.mpr (by omega)) n
  cin := fun d h => by cases h
  nd := .nil
theorem RI.open (h : Off os) (r : RI os left cs) (he : e ∈ left) (hk : ∀ x ∈ kids os e, x ∉ left) : op os T1 e = true := by
  have le := r.le e he
  rw [op_eq h le]
  rw [Bool.and_eq_true]
  refine ⟨rfl, List.all_eq_true.mpr fun c hc => ?_⟩
  obtain ⟨m1, m2, m3⟩ := mem_kids.mp hc
  rcases r.out c m2 (hk c hc) with z | ⟨z1, z2, z3⟩
  · have := (r.cin c z).2.2.2
    cases q : op os T1 c with
    | false => rfl
    | true => exact absurd ((op1 h m2).mp q) this
  · rw [show sup os c = e from m3] at z2
    exact absurd he (r.cin e z2).2.1
/-- the deepest desk that is left -/
structure Deep (os left : List Nat) (last : Nat) : Prop where
  mem : last ∈ left
  max : ∀ d ∈ left, dep os d ≤ dep os last
theorem dep_kid (h : Off os) {x : Nat} (hx : x ∈ kids os e) : dep os x = dep os e + 1 := by
  obtain ⟨m1, m2, m3⟩ := mem_kids.mp hx
  rw [h.dep m1 m2]
  rw [show os.getD (x - 1) 0 = e from m3]
theorem RI.deep_open (h : Off os) (r : RI os left cs) (p : Deep os left last) (he : e ∈ left) (hd : dep os e = dep os last) : op os T1 e = true := r.open h he fun x hx hl => by
  have := dep_kid h hx
  have := p.max x hl
  omega
theorem RI.pos (h : Off os) (r : RI os left cs) (p : Deep os left last) (h2 : 1 < left.length) : 0 < last := by
  rcases Nat.eq_zero_or_pos last with z | z
  · exfalso
    subst z
    have d0 : ∀ d ∈ left, d = 0 := fun d hd => by
      rcases Nat.eq_zero_or_pos d with w | w
      · exact w
      · have e1 := h.dep w (r.le d hd)
        have e2 := p.max d hd
        have e3 : dep os 0 = 0 := by
          by_cases q : dep os 0 = 0
          · exact q
          · have e4 := depL_len os.length os rfl
            unfold dep depL at q
            exact absurd (by
              have : ∀ (l acc : List Nat), 0 < acc.length → (l.foldl (fun acc u => acc ++ [acc.getD u 0 + 1]) acc).getD 0 0 = acc.getD 0 0 := by
                intro l
                induction l with
                | nil => intro acc _; rfl
                | cons u l ih =>
                  intro acc ha
                  rw [List.foldl_cons, ih _ (by simp), getD_app ha]
              rw [this os [0] (by decide)]
              rfl) q
        omega
    match left, h2, r.asc, d0 with
    | a :: b :: l, _, asc, d0 =>
      have := (List.pairwise_cons.mp asc).1 b (by simp)
      have := d0 a (by simp)
      have := d0 b (by simp)
      omega
  · exact z
theorem RI.up_in (h : Off os) (r : RI os left cs) (p : Deep os left last) (h0 : 0 < last) : last ∈ ok1 os (sup os last) ∧ sup os last ∈ left := by
  have le := r.le last p.mem
  have m : last ∈ ok1 os (sup os last) := mem_ok1.mpr ⟨h0, le, rfl, r.deep_open h p p.mem rfl⟩
  refine ⟨m, Classical.byContradiction fun n => ?_⟩
  have ul : sup os last ≤ os.length := by have := sup_lt h h0 le; omega
  rcases r.out _ ul n with z | ⟨z1, z2, z3⟩
  · exact (r.cin _ z).2.2.1 last m p.mem
  · rw [(op1 h ul).mp z3] at m
    cases m
theorem RI.step (h : Off os) (r : RI os left cs) (p : Deep os left last) (h0 : 0 < last) : RI os (left.filter fun d => !decide (d = sup os last) && !decide (d ∈ ok1 os (sup os last))) (cs ++ [sup os last]) ∧ (left.filter fun d => !decide (d = sup os last) && !decide (d ∈ ok1 os (sup os last))).length < left.length := by
  have le := r.le last p.mem
  obtain ⟨um, ul⟩ := r.up_in h p h0
  have ule := r.le _ ul
  have mf : ∀ d, d ∈ (left.filter fun d => !decide (d = sup os last) && !decide (d ∈ ok1 os (sup os last))) ↔ d ∈ left ∧ d ≠ sup os last ∧ d ∉ ok1 os (sup os last) := fun d => by
    rw [List.mem_filter]
    simp
  refine ⟨⟨r.asc.filter _, fun d hd => r.le d ((mf d).mp hd).1, fun d hd n => ?_, fun d hd => ?_, ?_⟩, ?_⟩
  · by_cases hl : d ∈ left
    · by_cases e1 : d = sup os last
      · exact .inl (by rw [e1]; simp)
      · by_cases e2 : d ∈ ok1 os (sup os last)
        · obtain ⟨k1, k2, k3, k4⟩ := mem_ok1.mp e2
          exact .inr ⟨k1, by rw [k3]; simp, k4⟩
        · exact absurd ((mf d).mpr ⟨hl, e1, e2⟩) n
    · rcases r.out d hd hl with z | ⟨z1, z2, z3⟩
      · exact .inl (List.mem_append_left _ z)
      · exact .inr ⟨z1, List.mem_append_left _ z2, z3⟩
  · rcases List.mem_append.mp hd with z | z
    · obtain ⟨c1, c2, c3, c4⟩ := r.cin d z
      exact ⟨c1, fun w => c2 ((mf d).mp w).1, fun e he w => c3 e he ((mf e).mp w).1, c4⟩
    · have e : d = sup os last := by simpa using z
      subst e
      exact ⟨ule, fun w => ((mf _).mp w).2.1 rfl, fun e he w => ((mf e).mp w).2.2 he, fun w => by rw [w] at um; cases um⟩
  · refine List.nodup_append.mpr ⟨r.nd, by simp, fun a ha b hb => ?_⟩
    have e : b = sup os last := by simpa using hb
    subst e
    exact fun z => (r.cin a ha).2.1 (by rw [z]; exact ul)
  · refine List.length_filter_lt_length_iff_exists.mpr ⟨sup os last, ul, by simp⟩
/-- nobody is left, or one -/
theorem RI.done (h : Off os) (r : RI os left cs) (h1 : left.length ≤ 1) : cs.Perm (cenL os) ∧ (left = [0] ↔ ok1 os 0 = []) := by
  have full : ∀ d, d ≤ os.length → ok1 os d ≠ [] → d ∈ cs := fun d hd hne => by
    by_cases hl : d ∈ left
    · exfalso
      obtain ⟨e, he⟩ := List.exists_mem_of_ne_nil _ hne
      obtain ⟨k1, k2, k3, k4⟩ := mem_ok1.mp he
      have hlt := sup_lt h k1 k2
      have one : left = [d] := by
        match left, h1, hl with
        | [a], _, hl => rw [show d = a by simpa using hl]
      by_cases el : e ∈ left
      · rw [one] at el
        have : e = d := by simpa using el
        omega
      · rcases r.out e k2 el with z | ⟨z1, z2, z3⟩
        · exact (r.cin e z).2.2.2 ((op1 h k2).mp k4)
        · rw [k3] at z2
          exact (r.cin d z2).2.1 hl
    · rcases r.out d hd hl with z | ⟨z1, z2, z3⟩
      · exact z
      · exact absurd ((op1 h hd).mp z3) hne
  refine ⟨(List.perm_ext_iff_of_nodup r.nd (List.Pairwise.filter _ List.nodup_range)).mpr fun d => ?_, ?_⟩
  · rw [List.mem_filter, List.mem_range]
    constructor
    · intro hd
      obtain ⟨c1, _, _, c4⟩ := r.cin d hd
      exact ⟨by omega, by simpa using c4⟩
    · rintro ⟨h1, h2⟩
      exact full d (by omega) (by simpa using h2)
  · constructor
    · intro e
      apply Classical.byContradiction
      intro n
      have := (r.cin 0 (full 0 (Nat.zero_le _) n)).2.1
      rw [e] at this
      exact this (by simp)
    · intro e
      have m0 : 0 ∈ left := Classical.byContradiction fun n => by
        rcases r.out 0 (Nat.zero_le _) n with z | ⟨z1, _⟩
        · exact (r.cin 0 z).2.2.2 e
        · omega
      match left, h1, m0 with
      | [a], _, m0 => rw [show 0 = a by simpa using m0]
theorem mem_cenL : d ∈ cenL os ↔ d ≤ os.length ∧ ok1 os d ≠ [] := by
  unfold cenL
  rw [List.mem_filter, List.mem_range]
  simp
  omega
end
end Ds
end
section
set_option Elab.async false
set_option linter.all false
set_option maxRecDepth 100000
set_option maxHeartbeats 1000000
open PySem PySem.Spec PyProof.Rows L2
namespace Ds
section
variable {os : List Nat} {ss ord : List Str}
theorem nm_fit {s : Str} (h : Nm s) : Fit 0 8 (.str s) := fit_str (fun c hc => Nat.lt_of_le_of_lt (h.2.2 c hc).2 (by decide)) h.2.1
theorem sts_fit {l : List Str} (h : ∀ s ∈ l, Nm s) (hn : l.length ≤ 40) : Fit 1 400 (.tuple (sts l)) := by
  refine (fit_tup (k := 0) (w := 8) (n := 40) (fun d hd => ?_) (by rw [sts_len]; exact hn)).mono (by decide) (by decide)
  obtain ⟨x, hx, rfl⟩ := List.mem_map.mp hd
  exact nm_fit (h x hx)
theorem nat_fit {n : Nat} (h : n < 1000000) : Fit 0 100 (.int (n : Nat)) := fit_int (by rw [Int.natAbs_natCast]; exact Nat.lt_trans h (by decide))
theorem nts_fitT {l : List Nat} (h : ∀ x ∈ l, x < 1000000) (hn : l.length ≤ 40) : Fit 1 5000 (.tuple (nts l)) := by
  refine (fit_tup (k := 0) (w := 100) (n := 40) (fun d hd => ?_) (by rw [nts_len]; exact hn)).mono (by decide) (by decide)
  obtain ⟨x, hx, rfl⟩ := List.mem_map.mp hd
  exact nat_fit (h x hx)
theorem Off.small {os : List Nat} (h : Off os) : ∀ x ∈ os, x < 1000000 := fun x hx => by
  obtain ⟨i, hi⟩ := List.getElem?_of_mem hx
  have h1 := h.2 i x hi
  have h2 := (List.getElem?_eq_some_iff.mp hi).1
  have := h.1
  omega
end
@[simp] theorem g_cutL {ds : List PyData} {lo hi : Option Int} : gCut (.list ds) lo hi = some (.list (cutD ds lo hi)) := rfl
theorem let_nm {s : Str} (h : (decide (1 ≤ s.length) && decide (s.length ≤ 8) && s.cps.toList.all fun c => decide (97 ≤ c) && decide (c ≤ 122)) = true) : Nm s := by
  simp only [Bool.and_eq_true, decide_eq_true_eq, List.all_eq_true] at h
  exact ⟨h.1.1, h.1.2, h.2⟩
/-- a small case, by its look -/
def caseB (os : List Nat) (ss ord : List Str) : Bool := decide (os.length ≤ 39) && (List.range os.length).all (fun i => decide (os.getD i 0 ≤ i)) && decide (ss.length = os.length + 1) && decide ss.Nodup && (ss.all fun s => decide (1 ≤ s.length) && decide (s.length ≤ 8) && s.cps.toList.all fun c => decide (97 ≤ c) && decide (c ≤ 122)) && decide ord.Nodup && ord.all fun s => decide (s ∈ ss)
theorem caseB_ok {os : List Nat} {ss ord : List Str} (h : caseB os ss ord = true) : Case os ss ord := by
  simp only [caseB, Bool.and_eq_true, decide_eq_true_eq] at h
  obtain ⟨⟨⟨⟨⟨⟨h1, h2⟩, h3⟩, h4⟩, h5⟩, h6⟩, h7⟩ := h
  refine ⟨⟨h1, fun i x e => ?_⟩, h3, h4, fun s hs => let_nm (List.all_eq_true.mp h5 s hs), h6, fun s hs => of_decide_eq_true (List.all_eq_true.mp h7 s hs)⟩
  have := of_decide_eq_true (List.all_eq_true.mp h2 i (List.mem_range.mpr (List.getElem?_eq_some_iff.mp e).1))
  rw [List.getD_eq_getElem?_getD, e] at this
  exact this
/-- one turn's office, seating, order -/
theorem made {k : Nat} {bag : List PyData} (hb : Sg k bag) (hk : k < 500000) {m : Int} (m0 : 0 < m) (m1 : m ≤ 40) : ∃ os ss ord bag2 bag3 bag4 T2 T3 T4, Case os ss ord ∧ Sg (k + 300) bag4 ∧ (os.length : Int) < m ∧ m__law_office [.io bag, .val (.int m)] = .ok (.val (.tuple (nts os))) (.io bag2 :: T2) ∧ m__law_names [.io bag2, .val (.int ((os.length + 1 : Nat) : Int))] = .ok (vS ss) (.io bag3 :: T3) ∧ m__law_called [.io bag3, vS ss] = .ok (vS ord) (.io bag4 :: T4) := by
  obtain ⟨os, bag2, T2, b1, b2, b3, e2⟩ := law_off m0 m1 (by omega) hb
  obtain ⟨ss, bag3, T3, c1, c2, c3, c4, e3⟩ := law_names (n := os.length + 1) b2 (by omega) (by have := b1.1; omega)
  obtain ⟨ord, bag4, T4, d1, d2, d3, e4⟩ := law_called (ss := ss) c4 (by have := b1.1; omega) (by have := b1.1; omega) c2
  exact ⟨os, ss, ord, bag2, bag3, bag4, T2, T3, T4, ⟨b1, c1, c2, c3, d1, d2⟩, d3.mono (by have := b1.1; omega), b3, e2, e3, e4⟩
end Ds
end
section
set_option Elab.async false
set_option linter.all false
set_option maxRecDepth 100000
set_option maxHeartbeats 1000000
open PySem PySem.Spec PyProof.Rows L2
namespace Ds
theorem flat_nts {u : List Nat} : (nts u).all flatD = true := by
  rw [List.all_eq_true]
  intro d hd
  obtain ⟨s, _, rfl⟩ := List.mem_map.mp hd
  rfl
theorem inD_nts {s : Nat} {u : List Nat} : inD (.int (s : Nat)) (nts u) = decide (s ∈ u) := by
  rw [Bool.eq_iff_iff]
  simp only [inD, List.any_eq_true, decide_eq_true_eq]
  constructor
  · rintro ⟨d, h1, h2⟩
    obtain ⟨x, h3, rfl⟩ := List.mem_map.mp h1
    have h2' : ((x : Nat) : Int) = (s : Nat) := by simpa [PyData.eqv] using h2
    have : x = s := by omega
    rw [← this]; exact h3
  · intro h
    exact ⟨.int (s : Nat), List.mem_map.mpr ⟨s, h, rfl⟩, by simp [PyData.eqv]⟩
@[simp] theorem r_sSrtP' {sr : SN} {S : En} : sSrtP sr S = ((sr S).bnd fun ds S1 => R.opt (srtOf ds) S1) := rfl
section
variable {os : List Nat}
theorem nts_atN {l : List Nat} {k : Nat} (h : k < l.length) : atI (nts l) (k : Nat) = some (.int ((l.getD k 0 : Nat) : Int)) := by
  rw [atI_nn (by omega), Int.toNat_natCast, nts_get, List.getElem?_eq_getElem h]
  simp [List.getD, List.getElem?_eq_getElem h]
end
end Ds
end
section
set_option Elab.async false
set_option linter.all false
set_option maxRecDepth 100000
set_option maxHeartbeats 1000000
open PySem PySem.Spec PyProof.Rows L2
namespace Ds
def mx (l : List Nat) : Nat := l.foldl max 0
theorem mx_ge : ∀ {l : List Nat} {a : Nat}, (∀ x ∈ l, x ≤ l.foldl max a) ∧ a ≤ l.foldl max a
  | [], a => ⟨fun x h => (by cases h), Nat.le_refl _⟩
  | y :: l, a => by
    obtain ⟨h1, h2⟩ := mx_ge (l := l) (a := max a y)
    refine ⟨fun x hx => ?_, Nat.le_trans (Nat.le_max_left a y) h2⟩
    rcases List.mem_cons.mp hx with e | e
    · rw [e]; exact Nat.le_trans (Nat.le_max_right a y) h2
    · exact h1 x e
theorem mx_in : ∀ {l : List Nat} {a : Nat}, l.foldl max a = a ∨ l.foldl max a ∈ l
  | [], a => .inl rfl
  | y :: l, a => by
    rcases mx_in (l := l) (a := max a y) with e | e
    · have e2 : (y :: l).foldl max a = max a y := e
      rw [e2]
      by_cases z : a ≤ y
      · right; rw [Nat.max_eq_right z]; exact List.mem_cons_self
      · left; omega
    · exact .inr (List.mem_cons_of_mem _ e)
theorem fold_cast : ∀ (l : List Nat) (a : Nat), (l.map fun n => ((n : Nat) : Int)).foldl max ((a : Nat) : Int) = ((l.foldl max a : Nat) : Int)
  | [], a => rfl
  | y :: l, a => by
    rw [List.map_cons, List.foldl_cons, List.foldl_cons]
    rw [show max ((a : Nat) : Int) ((y : Nat) : Int) = ((max a y : Nat) : Int) by omega]
    exact fold_cast l (max a y)
theorem ints_nts : ∀ l : List Nat, intsOf (nts l) = some (l.map fun n => ((n : Nat) : Int))
  | [] => rfl
  | n :: l => by
    show (intsOf (nts l)).map (((n : Nat) : Int) :: ·) = _
    rw [ints_nts l]
    rfl
theorem max_nts {l : List Nat} (h : l ≠ []) : lMax (nts l) = some (.int ((mx l : Nat) : Int)) := by
  unfold lMax
  rw [ints_nts]
  cases l with
  | nil => exact absurd rfl h
  | cons n l =>
    show some (PyData.int ((l.map fun n => ((n : Nat) : Int)).foldl max ((n : Nat) : Int))) = _
    rw [fold_cast]
    show some (PyData.int ((l.foldl max n : Nat) : Int)) = some (.int (((n :: l).foldl max 0 : Nat) : Int))
    rw [List.foldl_cons, Nat.zero_max]
/-- the desks whose superiors are of the group at d -/
def feed (os : List Nat) (d : Nat) : List Nat := (List.range' 1 os.length).filter fun x => decide (sup os x ∈ d :: ok1 os d)
/-- the table when k desks are done, from the last one on -/
def lvT (os : List Nat) : Nat → List Nat
  | 0 => List.replicate (os.length + 1) 0
  | k + 1 => if ok1 os (os.length - k) = [] then lvT os k else (lvT os k).set (os.length - k) (1 + mx ((feed os (os.length - k)).map fun x => (lvT os k).getD x 0))
section
variable {os : List Nat}
theorem lvT_len : ∀ k, (lvT os k).length = os.length + 1
  | 0 => List.length_replicate
  | k + 1 => by
    show (if _ then _ else _ : List Nat).length = _
    split
    · exact lvT_len k
    · rw [List.length_set]; exact lvT_len k
theorem setI_nts {l : List Nat} {i s : Nat} (h : i < l.length) : setI (nts l) (.int (i : Nat)) (.int (s : Nat)) = some (nts (l.set i s)) := by
  show (if 0 ≤ ((i : Nat) : Int) ∧ ((i : Nat) : Int) < (nts l).length then some ((nts l).set ((i : Nat) : Int).toNat (.int (s : Nat))) else none) = _
  rw [if_pos (by rw [nts_len]; omega), Int.toNat_natCast]
  unfold nts
  rw [List.map_set]
end
end Ds
end
section
set_option Elab.async false
set_option linter.all false
set_option maxRecDepth 100000
set_option maxHeartbeats 1000000
open PySem PySem.Spec PyProof.Rows L2
namespace Ds
section
variable {os : List Nat}
theorem loop_nxP {g : GT} {b : SS} {d : PyData} {ds : List PyData} {S S1 S2 : En} (h1 : g d S = .nx S1) (h2 : b S1 = .nx S2) : loopL g b (d :: ds) S = loopL g b ds S2 := by
  rw [loopL, h1]
  show (match b S1 with | .nx S2 => loopL g b ds S2 | .ct S2 => loopL g b ds S2 | .bk S2 => .nx S2 | r => r) = _
  rw [h2]
end
end Ds
end
section
set_option Elab.async false
set_option linter.all false
set_option maxRecDepth 100000
set_option maxHeartbeats 1000000
open PySem PySem.Spec PyProof.Rows L2
namespace Ds
def lvl (os : List Nat) (d : Nat) : Nat := (lvT os (os.length + 1)).getD d 0
section
variable {os : List Nat} {c d x : Nat} {v : Nat → Nat}
theorem getD_set_ne {l : List Nat} {i j a : Nat} (h : i ≠ j) : (l.set i a).getD j 0 = l.getD j 0 := by
  simp [List.getD, List.getElem?_set_ne h]
theorem getD_set_self {l : List Nat} {i a : Nat} (h : i < l.length) : (l.set i a).getD i 0 = a := by
  simp [List.getD, List.getElem?_set_self h]
theorem lvT_step {k : Nat} (hd : d ≤ os.length) (h : os.length - k ≠ d) : (lvT os (k + 1)).getD d 0 = (lvT os k).getD d 0 := by
  show (if _ then _ else _ : List Nat).getD d 0 = _
  split
  · rfl
  · exact getD_set_ne h
theorem lvT_zero : ∀ {k : Nat}, d + k ≤ os.length → (lvT os k).getD d 0 = 0
  | 0, h => by
    show (List.replicate (os.length + 1) 0).getD d 0 = 0
    simp [List.getD, List.getElem?_replicate]
    split <;> rfl
  | k + 1, h => by rw [lvT_step (by omega) (by omega)]; exact lvT_zero (by omega)
theorem lvT_done {k : Nat} (hd : d ≤ os.length) (h : os.length < d + k) : ∀ {j : Nat}, k + j ≤ os.length + 1 → (lvT os (k + j)).getD d 0 = (lvT os k).getD d 0
  | 0, _ => rfl
  | j + 1, hj => by
    rw [← Nat.add_assoc, lvT_step hd (by omega)]
    exact lvT_done hd h (by omega)
theorem lvl_at {k : Nat} (hd : d ≤ os.length) (h : os.length < d + k) (hk : k ≤ os.length + 1) : (lvT os k).getD d 0 = lvl os d := by
  have := lvT_done hd h (j := os.length + 1 - k) (by omega)
  rw [show k + (os.length + 1 - k) = os.length + 1 by omega] at this
  exact this.symm
theorem feed_gt (h : Off os) (hx : x ∈ feed os d) : d < x ∧ x ≤ os.length := by
  unfold feed at hx
  rw [List.mem_filter, List.mem_range'_1, decide_eq_true_eq] at hx
  obtain ⟨⟨h1, h2⟩, h3⟩ := hx
  have lt := sup_lt h (e := x) (by omega) (by omega)
  refine ⟨?_, by omega⟩
  rcases List.mem_cons.mp h3 with e | e
  · rw [e] at lt; exact lt
  · obtain ⟨k1, k2, k3, _⟩ := mem_ok1.mp e
    have := sup_lt h k1 k2
    omega
theorem mem_feed (h0 : 0 < x) (h1 : x ≤ os.length) : x ∈ feed os d ↔ sup os x ∈ d :: ok1 os d := by
  unfold feed
  rw [List.mem_filter, List.mem_range'_1, decide_eq_true_eq]
  exact ⟨fun q => q.2, fun q => ⟨by omega, q⟩⟩
theorem lvl_eq (h : Off os) (hd : d ≤ os.length) : lvl os d = if ok1 os d = [] then 0 else 1 + mx ((feed os d).map (lvl os)) := by
  rw [← lvl_at (k := os.length - d + 1) hd (by omega) (by omega)]
  have e1 : os.length - (os.length - d) = d := by omega
  show (if ok1 os (os.length - (os.length - d)) = [] then lvT os (os.length - d) else (lvT os (os.length - d)).set (os.length - (os.length - d)) (1 + mx ((feed os (os.length - (os.length - d))).map fun x => (lvT os (os.length - d)).getD x 0))).getD d 0 = _
  rw [e1]
  split
  · exact lvT_zero (by omega)
  · rw [getD_set_self (by rw [lvT_len]; omega)]
    congr 2
    apply List.map_congr_left
    intro x hx
    obtain ⟨k1, k2⟩ := feed_gt h hx
    exact lvl_at k2 (by omega) (by omega)
theorem lvl_feed (h : Off os) (hc : c ∈ cenL os) (hx : x ∈ feed os c) : lvl os x + 1 ≤ lvl os c := by
  obtain ⟨h1, h2⟩ := mem_cenL.mp hc
  have := (mx_ge (l := (feed os c).map (lvl os)) (a := 0)).1 (lvl os x) (List.mem_map_of_mem hx)
  rw [lvl_eq h h1 (d := c), if_neg h2]
  unfold mx
  omega
/-- one look at x, for c -/
def st1 (os : List Nat) (c : Nat) (v : Nat → Nat) (x : Nat) : Nat → Nat := if 0 < x ∧ sup os x ∈ c :: ok1 os c then fun d => if d = c then max (v c) (v x + 1) else v d else v
def inn (os : List Nat) (c : Nat) (v : Nat → Nat) (l : List Nat) : Nat → Nat := l.foldl (st1 os c) v
def out (os : List Nat) (v : Nat → Nat) (l : List Nat) : Nat → Nat := l.foldl (fun v c => inn os c v (cenL os)) v
/-- the centers behind c -/
def rk (os : List Nat) (c : Nat) : Nat := ((cenL os).filter fun x => decide (c < x)).length
end
end Ds
end
section
set_option Elab.async false
set_option linter.all false
set_option maxRecDepth 100000
set_option maxHeartbeats 1000000
open PySem PySem.Spec PyProof.Rows L2
namespace Ds
theorem nd_len : ∀ {l m : List Str}, l.Nodup → (∀ x ∈ l, x ∈ m) → l.length ≤ m.length
  | [], _, _, _ => Nat.zero_le _
  | x :: l, m, h, hs => by
    obtain ⟨h1, h2⟩ := List.nodup_cons.mp h
    have hx := hs x List.mem_cons_self
    have ih := nd_len (l := l) (m := m.erase x) h2 fun y hy => (List.mem_erase_of_ne (fun e => h1 (by rw [← e]; exact hy))).mpr (hs y (List.mem_cons_of_mem _ hy))
    rw [List.length_erase_of_mem hx] at ih
    have := List.length_pos_of_mem hx
    rw [List.length_cons]
    omega
section
variable {os : List Nat} {s x ord D R : List Str} {q : Str} {c c0 d e k : Nat}
theorem all_mem (cs : Case os s ord) (ha : ord.length = os.length + 1) {y : Str} (hy : y ∈ s) : y ∈ ord := by
  apply Classical.byContradiction
  intro n
  have := nd_len (l := y :: ord) (m := s) (List.nodup_cons.mpr ⟨n, cs.ond⟩) fun z hz => by
    rcases List.mem_cons.mp hz with q | q
    · rw [q]; exact hy
    · exact cs.osub z q
  rw [List.length_cons, ha, cs.len] at this
  omega
theorem all_in (cs : Case os s ord) (ha : ord.length = os.length + 1) (he : e ≤ os.length) : nmAt s e ∈ ord := by
  have hl := cs.len
  exact all_mem cs ha (List.mem_of_getElem? (nmAt_get (ss := s) (t := e) (by omega)))
theorem ok_all (cs : Case os s ord) (ha : ord.length = os.length + 1) : ∀ (k e : Nat), os.length - e ≤ k → e ≤ os.length → okd0 os s ord e = ok1 os e := by
  intro k
  induction k using Nat.strongRecOn with
  | ind k ih =>
    intro e hk h2
    have off := cs.off
    show okd os (calB s ord) 0 e = okd os T1 0 e
    unfold okd
    apply List.filter_congr
    intro c hc
    rw [List.mem_range'_1] at hc
    by_cases hs : os.getD (c - 1) 0 = e
    · have lt := off_lt off (e := c) (by omega) (by omega)
      have a := ih (os.length - c) (by omega) c (Nat.le_refl _) (by omega)
      have : op os (calB s ord) c = op os T1 c := by
        rw [op_okd off (by omega), op_okd off (by omega)]
        have a' : okd os (calB s ord) 0 c = okd os T1 0 c := a
        rw [a']
        congr 1
        exact decide_eq_true (all_in cs ha (by omega))
      rw [this]
    · rw [decide_eq_false hs, Bool.false_and, Bool.false_and]
theorem okd_1 (cs : Case os s ord) (ha : ord.length = os.length + 1) (he : e ≤ os.length) : okd0 os s ord e = ok1 os e := ok_all cs ha _ e (Nat.le_refl _) he
/-- what stands during a day: the groups up to level k are settled, c0 is under way -/
structure Da (os : List Nat) (ord : List Str) (k c0 : Nat) (x D R : List Str) : Prop where
  cs : Case os x ord
  spl : ord = D ++ R
  grp : ∀ c ∈ cenL os, lvl os c ≤ k → GP ord (ok1 os c) c (nmAt x) D R
  top : (∀ e ∈ ok1 os c0, nmAt x e ∈ R) ∨ (nmAt x c0 ∈ D ∧ ∀ e ∈ ok1 os c0, nmAt x e ∉ R → ord.idxOf (nmAt x e) < ord.idxOf (nmAt x c0))
theorem ok1_kid (h : Off os) (he : e ∈ ok1 os c) : c < e ∧ e ≤ os.length ∧ sup os e = c ∧ ok1 os e = [] := by
  obtain ⟨h1, h2, h3, h4⟩ := mem_ok1.mp he
  refine ⟨?_, h2, h3, (op1 h h2).mp h4⟩
  have := sup_lt h h1 h2
  omega
theorem Da.step (ha : ord.length = os.length + 1) (hc0 : c0 ∈ cenL os) (l0 : lvl os c0 ≤ k + 1) (dy : Da os ord k c0 x D (q :: R)) : Da os ord k c0 (callS os x q) (D ++ [q]) R := by
  obtain ⟨cs, spl, grp, top⟩ := dy
  have off := cs.off
  have ho := spl
  have hn := cs.ond
  have qo : q ∈ ord := by rw [ho]; simp
  have qx : q ∈ x := cs.osub q qo
  obtain ⟨dl, dn, mv⟩ := call_at cs qx
  have inj : ∀ {i : Nat}, i ≤ os.length → nmAt x i = q → i = x.idxOf q := fun {i} hi e => nm_inj cs hi dl (by rw [e, dn])
  have spl' : ord = D ++ [q] ++ R := by rw [ho, List.append_assoc]; rfl
  have cs' := (cs.call qx).1
  have neq : ∀ {k : Nat}, k ≤ os.length → k ≠ x.idxOf q → nmAt x k ≠ q := fun {k} h1 h2 z => h2 (inj h1 z)
  have nR : ∀ {y : Str}, y ∈ q :: R → y ≠ q → y ∈ R := fun h n => mem_rest h n
  have nocen : ∀ c ∈ cenL os, lvl os c ≤ k → x.idxOf q ≠ c := fun c h1 h2 z => by
    obtain ⟨h3, h4⟩ := mem_cenL.mp h1
    refine (grp c h1 h2).nocall ho hn h4 (fun e he w => ?_) (by rw [← z]; exact dn)
    have := ok1_kid off he
    have := nm_inj cs this.2.1 h3 w
    omega
  rcases mv with ⟨d0, ex⟩ | ⟨d0, m1, m2, m3⟩
  · -- at desk 0: nothing moves
    rw [ex]
    refine ⟨cs, spl', fun c h1 h2 => (grp c h1 h2).keep fun k hk => ⟨rfl, ?_⟩, ?_⟩
    · rcases hk with hk | hk
      · subst hk
        exact neq (mem_cenL.mp h1).1 fun z => nocen _ h1 h2 z.symm
      · exact neq (ok1_kid off hk).2.1 (by have := (ok1_kid off hk).1; omega)
    · rcases top with a | ⟨a, b⟩
      · exact .inl fun e he => nR (a e he) (neq (ok1_kid off he).2.1 (by have := (ok1_kid off he).1; omega))
      · refine .inr ⟨List.mem_append_left _ a, fun e he h2 => b e he fun z => h2 (nR z (neq (ok1_kid off he).2.1 (by have := (ok1_kid off he).1; omega)))⟩
  · have ult := off_lt off (e := x.idxOf q) d0 dl
    generalize hd : x.idxOf q = d at *
    generalize hu : os.getD (d - 1) 0 = u at *
    have stay : ∀ {k : Nat}, k ≤ os.length → k ≠ d → k ≠ u → nmAt (callS os x q) k = nmAt x k ∧ nmAt x k ≠ q := fun {k} h0 h1 h2 => ⟨m3 k h1 h2, neq h0 h1⟩
    have inok : ∀ {c k : Nat}, k ∈ ok1 os c → k = d → c = u := fun {c k} h z => by
      have := (ok1_kid off h).2.2.1
      rw [z] at this
      rw [← this]
      exact hu
    have keep : ∀ c, c ∈ cenL os → lvl os c ≤ k → c ≠ d → c ≠ u → d ∉ ok1 os c → u ∉ ok1 os c → GP ord (ok1 os c) c (nmAt (callS os x q)) (D ++ [q]) R := fun c h1 h2 h3 h4 h5 h6 => (grp c h1 h2).keep fun k hk => by
      rcases hk with hk | hk
      · subst hk; exact stay (mem_cenL.mp h1).1 h3 h4
      · exact stay (ok1_kid off hk).2.1 (fun z => h5 (by rw [← z]; exact hk)) fun z => h6 (by rw [← z]; exact hk)
    by_cases hop : ok1 os d = []
    · -- from an open desk
      have dU : d ∈ ok1 os u := mem_ok1.mpr ⟨d0, dl, hu, (op1 off dl).mpr hop⟩
      have nU : ok1 os u ≠ [] := fun z => by rw [z] at dU; cases dU
      have uU : ∀ c, u ∉ ok1 os c := fun c h => nU (ok1_kid off h).2.2.2
      have cd : ∀ c, c ∈ cenL os → c ≠ d := fun c h1 z => (mem_cenL.mp h1).2 (by rw [z]; exact hop)
      refine ⟨cs', spl', fun c h1 h2 => ?_, ?_⟩
      · by_cases hcu : c = u
        · subst hcu
          refine (grp c h1 h2).move ho hn dU dn (uU c) (fun e he hne => neq (ok1_kid off he).2.1 hne) m2 m1 fun k hk hne => m3 k hne fun z => absurd hk (by rw [z]; exact uU _)
        · exact keep c h1 h2 (cd c h1) hcu (fun z => hcu (inok z rfl)) (uU c)
      · by_cases hut : u = c0
        · subst hut
          right
          refine ⟨by rw [m2]; simp, fun e he h2 => ?_⟩
          rw [m2]
          have key : ∀ y, y ∈ ord → y ∉ R → y ≠ q → ord.idxOf y < ord.idxOf q := fun y a b c => by
            rcases in_three ho a with z | z | z
            · exact ix_done ho hn z
            · exact absurd z c
            · exact absurd z b
          have hul := (mem_cenL.mp hc0).1
          by_cases ed : e = d
          · subst ed
            rw [m1] at h2 ⊢
            exact key _ (all_in cs ha hul) h2 (neq hul (by omega))
          · rw [m3 e ed fun z => absurd he (by rw [z]; exact uU _)] at h2 ⊢
            have el := (ok1_kid off he).2.1
            exact key _ (all_in cs ha el) h2 (neq el ed)
        · have st : ∀ e ∈ ok1 os c0, nmAt (callS os x q) e = nmAt x e ∧ nmAt x e ≠ q := fun e he => stay (ok1_kid off he).2.1 (fun z => hut (inok he z).symm) fun z => uU c0 (by rw [← z]; exact he)
          have s2 := stay (mem_cenL.mp hc0).1 (cd c0 hc0) (fun z => hut z.symm)
          rcases top with a | ⟨a, b⟩
          · exact .inl fun e he => by rw [(st e he).1]; exact nR (a e he) (st e he).2
          · refine .inr ⟨by rw [s2.1]; exact List.mem_append_left _ a, fun e he h2 => ?_⟩
            rw [(st e he).1] at h2 ⊢
            rw [s2.1]
            exact b e he fun z => h2 (nR z (st e he).2)
    · -- from a center that is not settled
      have dc : d ∈ cenL os := mem_cenL.mpr ⟨dl, hop⟩
      have dk : ¬ lvl os d ≤ k := fun h => nocen d dc h rfl
      have df : ∀ c, c ∈ cenL os → lvl os c ≤ k + 1 → ¬ (u = c ∨ u ∈ ok1 os c) := fun c h1 h2 h3 => by
        have hf : d ∈ feed os c := (mem_feed d0 dl).mpr (by
          rw [show sup os d = u from hu]
          rcases h3 with z | z
          · rw [z]; exact List.mem_cons_self
          · exact List.mem_cons_of_mem _ z)
        have := lvl_feed off h1 hf
        exact dk (by omega)
      have dO : ∀ c, d ∉ ok1 os c := fun c h => hop (ok1_kid off h).2.2.2
      refine ⟨cs', spl', fun c h1 h2 => ?_, ?_⟩
      · have f := df c h1 (by omega)
        exact keep c h1 h2 (fun z => dk (by rw [← z]; exact h2)) (fun z => f (.inl z.symm)) (dO c) fun z => f (.inr z)
      · have f := df c0 hc0 l0
        have st : ∀ e ∈ ok1 os c0, nmAt (callS os x q) e = nmAt x e ∧ nmAt x e ≠ q := fun e he => stay (ok1_kid off he).2.1 (fun z => dO c0 (by rw [← z]; exact he)) fun z => f (.inr (by rw [← z]; exact he))
        rcases top with a | ⟨a, b⟩
        · exact .inl fun e he => by rw [(st e he).1]; exact nR (a e he) (st e he).2
        · by_cases hd2 : c0 = d
          · exfalso
            rw [hd2, dn] at a
            have := ix_done ho hn a
            omega
          · have s2 := stay (mem_cenL.mp hc0).1 hd2 (fun z => f (.inl z.symm))
            refine .inr ⟨by rw [s2.1]; exact List.mem_append_left _ a, fun e he h2 => ?_⟩
            rw [(st e he).1] at h2 ⊢
            rw [s2.1]
            exact b e he fun z => h2 (nR z (st e he).2)
theorem Da.run (ha : ord.length = os.length + 1) (hc0 : c0 ∈ cenL os) (l0 : lvl os c0 ≤ k + 1) : ∀ {R x D : List Str}, Da os ord k c0 x D R → Da os ord k c0 (callsS os x R) ord []
  | [], x, D, dy => by
    have := dy.spl
    rw [List.append_nil] at this
    rw [this]
    rw [this] at dy
    exact dy
  | q :: R, x, D, dy => by
    show Da os ord k c0 (callsS os (callS os x q) R) ord []
    exact Da.run ha hc0 l0 (dy.step ha hc0 l0)
/-- the groups up to level k are settled -/
def stL (os : List Nat) (s ord : List Str) (k : Nat) : Prop := ∀ c ∈ cenL os, lvl os c ≤ k → blkD os s ord c = []
theorem Da.start (cs : Case os s ord) (ha : ord.length = os.length + 1) (h : stL os s ord k) : Da os ord k c0 s [] ord := by
  refine ⟨cs, rfl, fun d h1 h2 => ?_, .inl fun e he => all_in cs ha (ok1_kid cs.off he).2.1⟩
  obtain ⟨h3, h4⟩ := mem_cenL.mp h1
  have hk := okd_1 cs ha h3
  have hb : blk s ord (ok1 os d) d = [] := by
    rw [← hk]
    exact h d h1 h2
  obtain ⟨a, b⟩ := blk_some cs h3 (fun e he => ⟨(ok1_kid cs.off he).2.1, by have := (ok1_kid cs.off he).1; omega, all_in cs ha (ok1_kid cs.off he).2.1⟩) h4 hb
  exact ⟨a, fun e he => all_in cs ha (ok1_kid cs.off he).2.1, .inl ⟨b, fun _ e he => all_in cs ha (ok1_kid cs.off he).2.1⟩⟩
theorem Da.done (ha : ord.length = os.length + 1) (hc0 : c0 ∈ cenL os) (dy : Da os ord k c0 x ord []) : blkD os x ord c0 = [] := by
  obtain ⟨h3, h4⟩ := mem_cenL.mp hc0
  show blk x ord (okd0 os x ord c0) c0 = []
  rw [okd_1 dy.cs ha h3]
  rcases dy.top with a | ⟨a, b⟩
  · obtain ⟨e, he⟩ := List.exists_mem_of_ne_nil _ h4
    have := a e he
    cases this
  · exact blk_none dy.cs.ond a fun e he => b e he (by simp)
end
end Ds
end
section
set_option Elab.async false
set_option linter.all false
set_option maxRecDepth 100000
set_option maxHeartbeats 1000000
open PySem PySem.Spec PyProof.Rows L2
namespace Ds
theorem nm_strOk {x : Str} (h : Nm x) : PyData.strOk x = true := by
  unfold PyData.strOk
  rw [← Array.all_toList, List.all_eq_true]
  intro c hc
  have := h.2.2 c hc
  exact decide_eq_true (by omega)
end Ds
end
section
set_option Elab.async false
set_option linter.all false
set_option maxRecDepth 100000
set_option maxHeartbeats 1000000
open PySem PySem.Spec PyProof.Rows L2
namespace Ds
theorem fit_small {n : Nat} (h : n < 1000) : Fit 0 12 (.int (n : Nat)) := by
  have l : n.log2 < 10 := by
    by_cases z : n = 0
    · rw [z]; decide
    · exact (Nat.log2_lt z).mpr (Nat.lt_trans h (by decide))
  have f := fit_int (i := (n : Nat)) (by rw [Int.natAbs_natCast]; exact Nat.lt_trans h (by decide))
  refine ⟨f.sh, f.lv, f.dp, ?_, f.nd⟩
  simp only [PyData.weight, Int.natAbs_natCast]
  split <;> omega
@[simp] theorem g_cutSc {ds : List PyData} {lo hi : Option Int} : gCut (.dict [(.bool true, .list ds)]) lo hi = some (.list (cutD ds lo hi)) := rfl
end Ds
end
section
set_option Elab.async false
set_option linter.all false
set_option maxRecDepth 100000
set_option maxHeartbeats 1000000
open PySem PySem.Spec PyProof.Rows L2
namespace Ds
section
variable {os os' : List Nat} {cal cal' : Nat → Bool}
/-- os' goes on after os, with desks nobody of which is called -/
structure Wid (os os' : List Nat) (cal cal' : Nat → Bool) : Prop where
  off : Off os
  off' : Off os'
  le : os.length ≤ os'.length
  get : ∀ i, i < os.length → os'.getD i 0 = os.getD i 0
  cal : ∀ d, d ≤ os.length → cal' d = cal d
  sil : ∀ d, os.length < d → d ≤ os'.length → cal' d = false
theorem Wid.op_out (w : Wid os os' cal cal') {e : Nat} (h : os.length < e) (h2 : e ≤ os'.length) : op os' cal' e = false := by
  rw [op_eq w.off' h2, w.sil e h h2, Bool.false_and]
theorem Wid.op_in (w : Wid os os' cal cal') : ∀ (n e : Nat), os.length - e ≤ n → e ≤ os.length → op os' cal' e = op os cal e := by
  intro n
  induction n with
  | zero =>
    intro e hn he
    have hl := w.le
    rw [op_eq w.off' (by omega), op_eq w.off he, w.cal e he]
    congr 1
    rw [Bool.eq_iff_iff, List.all_eq_true, List.all_eq_true]
    constructor
    · intro _ c hc
      obtain ⟨c1, c2, c3⟩ := mem_kids.mp hc
      have := off_lt w.off c1 c2
      omega
    · intro _ c hc
      obtain ⟨c1, c2, c3⟩ := mem_kids.mp hc
      have := off_lt w.off' c1 c2
      rw [w.op_out (by omega) c2]
      rfl
  | succ n ih =>
    intro e hn he
    have hl := w.le
    rw [op_eq w.off' (by omega), op_eq w.off he, w.cal e he]
    congr 1
    rw [Bool.eq_iff_iff, List.all_eq_true, List.all_eq_true]
    constructor
    · intro h c hc
      obtain ⟨c1, c2, c3⟩ := mem_kids.mp hc
      have lt := off_lt w.off c1 c2
      have := h c (mem_kids.mpr ⟨c1, by omega, by rw [w.get _ (by omega)]; exact c3⟩)
      rw [ih c (by omega) c2] at this
      exact this
    · intro h c hc
      obtain ⟨c1, c2, c3⟩ := mem_kids.mp hc
      have lt := off_lt w.off' c1 c2
      by_cases ho : os.length < c
      · rw [w.op_out ho c2]
        rfl
      · have := h c (mem_kids.mpr ⟨c1, by omega, by rw [← w.get _ (by omega)]; exact c3⟩)
        rw [ih c (by omega) (by omega)]
        exact this
theorem Wid.okd (w : Wid os os' cal cal') (d : Nat) : okd os' cal' 0 d = okd os cal 0 d := by
  have hl := w.le
  unfold Ds.okd
  rw [Nat.zero_add, Nat.sub_zero, Nat.sub_zero, show os'.length = os.length + (os'.length - os.length) by omega, ← List.range'_append_1, List.filter_append]
  rw [show ((List.range' (1 + os.length) (os'.length - os.length)).filter fun e => decide (os'.getD (e - 1) 0 = d) && op os' cal' e) = [] from List.filter_eq_nil_iff.mpr fun e he => by
    rw [List.mem_range'_1] at he
    rw [w.op_out (by omega) (by omega), Bool.and_false]
    exact Bool.false_ne_true, List.append_nil]
  apply List.filter_congr
  intro e he
  rw [List.mem_range'_1] at he
  rw [w.get _ (by omega), w.op_in _ e (Nat.le_refl _) (by omega)]
end
section
variable {os : List Nat} {s ord : List Str} {u : Nat} {z : Str}
theorem nm_app {d : Nat} (h : d < s.length) : nmAt (s ++ [z]) d = nmAt s d := by
  unfold nmAt
  rw [List.getD_eq_getElem?_getD, List.getD_eq_getElem?_getD, List.getElem?_append_left h]
theorem nm_last : nmAt (s ++ [z]) s.length = z := by
  unfold nmAt
  rw [List.getD_eq_getElem?_getD, List.getElem?_append_right (Nat.le_refl _), Nat.sub_self]
  rfl
/-- an office and a seating with one desk more, the new person in no order -/
structure Wd (os : List Nat) (s ord : List Str) (u : Nat) (z : Str) : Prop where
  c : Case os s ord
  h38 : os.length ≤ 38
  ul : u ≤ os.length
  nz : z ∉ s
  mz : Nm z
theorem Wd.no (w : Wd os s ord u z) : z ∉ ord := fun h => w.nz (w.c.osub z h)
theorem Wd.cs (w : Wd os s ord u z) : Case (os ++ [u]) (s ++ [z]) ord := by
  refine ⟨⟨by rw [List.length_append, List.length_singleton]; have := w.h38; omega, fun i x e => ?_⟩, ?_, ?_, ?_, w.c.ond, fun y h => List.mem_append_left _ (w.c.osub y h)⟩
  · by_cases h : i < os.length
    · rw [List.getElem?_append_left h] at e
      exact w.c.off.2 i x e
    · rw [List.getElem?_append_right (by omega)] at e
      cases q : i - os.length with
      | zero =>
        rw [q] at e
        cases e
        have := w.ul
        omega
      | succ m => rw [q] at e; cases e
  · rw [List.length_append, List.length_append, w.c.len]
    rfl
  · rw [List.nodup_append]
    refine ⟨w.c.nd, by simp, fun a ha b hb e => ?_⟩
    rw [List.mem_singleton] at hb
    rw [e, hb] at ha
    exact w.nz ha
  · intro y hy
    rcases List.mem_append.mp hy with hy | hy
    · exact w.c.nm y hy
    · rw [List.mem_singleton.mp hy]
      exact w.mz
theorem Wd.wid (w : Wd os s ord u z) : Wid os (os ++ [u]) (calB s ord) (calB (s ++ [z]) ord) := by
  have hl := w.c.len
  refine ⟨w.c.off, w.cs.off, by simp, fun i h => ?_, fun d h => ?_, fun d h1 h2 => ?_⟩
  · rw [List.getD_eq_getElem?_getD, List.getD_eq_getElem?_getD, List.getElem?_append_left h]
  · unfold calB
    rw [nm_app (by omega)]
  · rw [List.length_append, List.length_singleton] at h2
    unfold calB
    rw [show d = s.length by omega, nm_last]
    exact decide_eq_false w.no
theorem Wd.okd (w : Wd os s ord u z) (d : Nat) : okd0 (os ++ [u]) (s ++ [z]) ord d = okd0 os s ord d := w.wid.okd d
theorem Wd.blk (w : Wd os s ord u z) {d : Nat} (h : d ≤ os.length) : blkD (os ++ [u]) (s ++ [z]) ord d = blkD os s ord d := by
  have hl := w.c.len
  have e : Ds.okd (os ++ [u]) (calB (s ++ [z]) ord) 0 d = Ds.okd os (calB s ord) 0 d := w.wid.okd d
  have hU : ∀ x ∈ Ds.okd os (calB s ord) 0 d, x < s.length := (okd_small w.c).1
  unfold blkD
  rw [e]
  unfold Ds.blk
  rw [nm_app (by omega), show (Ds.okd os (calB s ord) 0 d).map (nmAt (s ++ [z])) = (Ds.okd os (calB s ord) 0 d).map (nmAt s) from List.map_congr_left fun x hx => nm_app (hU x hx)]
  split
  · apply List.map_congr_left
    intro y hy
    have hy2 : y ∈ s := w.c.osub y (List.mem_of_mem_drop (List.mem_filter.mp hy).1)
    rw [List.idxOf_append, if_pos hy2]
  · rfl
theorem Wd.call (w : Wd os s ord u z) {n : Str} (hn : n ∈ s) : callS (os ++ [u]) (s ++ [z]) n = callS os s n ++ [z] := by
  have hl := w.c.len
  have hi := idx_lt hn
  unfold callS
  rw [List.idxOf_append, if_pos hn]
  by_cases h0 : 0 < s.idxOf n
  · rw [if_pos h0, if_pos h0]
    have g : (os ++ [u]).getD (s.idxOf n - 1) 0 = os.getD (s.idxOf n - 1) 0 := by
      rw [List.getD_eq_getElem?_getD, List.getD_eq_getElem?_getD, List.getElem?_append_left (by omega)]
    have lt := off_lt w.c.off h0 (by omega)
    rw [g, nm_app (by omega), List.set_append_left _ _ hi, List.set_append_left _ _ (by rw [List.length_set]; omega)]
  · rw [if_neg h0, if_neg h0]
theorem Wd.grp (w : Wd os s ord u z) {d : Nat} (h : d ≤ os.length) : grpD (os ++ [u]) (s ++ [z]) ord d = grpD os s ord d := by
  have hl := w.c.len
  have hU : ∀ x ∈ okd0 os s ord d, x < s.length := (okd_small w.c).1
  unfold grpD namesG
  rw [w.okd, show (d :: okd0 os s ord d).map (nmAt (s ++ [z])) = (d :: okd0 os s ord d).map (nmAt s) from List.map_congr_left fun x hx => nm_app (by
    rcases List.mem_cons.mp hx with e | hx
    · omega
    · exact hU x hx)]
end
end Ds
end
section
set_option Elab.async false
set_option linter.all false
set_option maxRecDepth 100000
set_option maxHeartbeats 1000000
open PySem PySem.Spec PyProof.Rows L2
namespace Ds
section
variable {os : List Nat} {s ord : List Str} {φ : Str → Str}
theorem nm_map {d : Nat} (h : d < s.length) : nmAt (s.map φ) d = φ (nmAt s d) := by
  unfold nmAt
  rw [List.getD_eq_getElem?_getD, List.getD_eq_getElem?_getD, List.getElem?_map, List.getElem?_eq_getElem h]
  rfl
theorem idx_map {l : List Str} {x : Str} (h : ∀ y ∈ l, φ y = φ x → y = x) : (l.map φ).idxOf (φ x) = l.idxOf x := by
  induction l with
  | nil => rfl
  | cons y l ih =>
    rw [List.map_cons, List.idxOf_cons, List.idxOf_cons, ih fun z hz => h z (List.mem_cons_of_mem _ hz)]
    by_cases e : y = x
    · rw [e, beq_self_eq_true, beq_self_eq_true]
    · have e2 : φ y ≠ φ x := fun q => e (h y List.mem_cons_self q)
      rw [beq_eq_false_iff_ne.mpr e, beq_eq_false_iff_ne.mpr e2]
/-- the names turned into others -/
structure Ren (os : List Nat) (s ord : List Str) (φ : Str → Str) : Prop where
  c : Case os s ord
  inj : ∀ x ∈ s, ∀ y ∈ s, φ x = φ y → x = y
  nm : ∀ x ∈ s, Nm (φ x)
theorem Ren.mem (r : Ren os s ord φ) {l : List Str} (hl : ∀ y ∈ l, y ∈ s) {x : Str} (hx : x ∈ s) : φ x ∈ l.map φ ↔ x ∈ l := by
  constructor
  · intro h
    obtain ⟨y, hy, e⟩ := List.mem_map.mp h
    rw [← r.inj y (hl y hy) x hx e]
    exact hy
  · exact fun h => List.mem_map_of_mem h
theorem nodup_map {l : List Str} (h : l.Nodup) (hi : ∀ x ∈ l, ∀ y ∈ l, φ x = φ y → x = y) : (l.map φ).Nodup := by
  induction l with
  | nil => exact List.nodup_nil
  | cons a l ih =>
    obtain ⟨h1, h2⟩ := List.nodup_cons.mp h
    rw [List.map_cons, List.nodup_cons]
    refine ⟨fun m => ?_, ih h2 fun x hx y hy => hi x (List.mem_cons_of_mem _ hx) y (List.mem_cons_of_mem _ hy)⟩
    obtain ⟨y, hy, e⟩ := List.mem_map.mp m
    rw [hi y (List.mem_cons_of_mem _ hy) a List.mem_cons_self e] at hy
    exact h1 hy
theorem Ren.cs (r : Ren os s ord φ) : Case os (s.map φ) (ord.map φ) := by
  refine ⟨r.c.off, by rw [List.length_map]; exact r.c.len, nodup_map r.c.nd r.inj, fun y hy => ?_, nodup_map r.c.ond fun x hx y hy => r.inj x (r.c.osub x hx) y (r.c.osub y hy), fun y hy => ?_⟩
  · obtain ⟨x, hx, rfl⟩ := List.mem_map.mp hy
    exact r.nm x hx
  · obtain ⟨x, hx, rfl⟩ := List.mem_map.mp hy
    exact List.mem_map_of_mem (r.c.osub x hx)
theorem Ren.wid (r : Ren os s ord φ) : Wid os os (calB s ord) (calB (s.map φ) (ord.map φ)) := by
  have hl := r.c.len
  refine ⟨r.c.off, r.c.off, Nat.le_refl _, fun _ _ => rfl, fun d h => ?_, fun d h1 h2 => by omega⟩
  unfold calB
  rw [nm_map (by omega), Bool.eq_iff_iff, decide_eq_true_eq, decide_eq_true_eq]
  exact r.mem r.c.osub (nm_mem (by omega))
theorem Ren.okd (r : Ren os s ord φ) (d : Nat) : okd0 os (s.map φ) (ord.map φ) d = okd0 os s ord d := r.wid.okd d
theorem Ren.maps (r : Ren os s ord φ) {U : List Nat} (hU : ∀ x ∈ U, x < s.length) : U.map (nmAt (s.map φ)) = (U.map (nmAt s)).map φ := by
  rw [List.map_map]
  exact List.map_congr_left fun x hx => nm_map (hU x hx)
theorem filter_map_mem {l m : List Str} (h : ∀ x ∈ l, φ x ∈ m.map φ ↔ x ∈ m) : (l.map φ).filter (fun x => decide (x ∈ m.map φ)) = (l.filter fun x => decide (x ∈ m)).map φ := by
  rw [List.filter_map]
  congr 1
  apply List.filter_congr
  intro x hx
  show decide (φ x ∈ m.map φ) = decide (x ∈ m)
  rw [Bool.eq_iff_iff, decide_eq_true_eq, decide_eq_true_eq]
  exact h x hx
theorem nms_sub (c : Case os s ord) {U : List Nat} (hU : ∀ x ∈ U, x < s.length) : ∀ y ∈ U.map (nmAt s), y ∈ s := fun y hy => by
  obtain ⟨x, hx, rfl⟩ := List.mem_map.mp hy
  exact nm_mem (hU x hx)
theorem Ren.blk (r : Ren os s ord φ) {d : Nat} (h : d ≤ os.length) : blkD os (s.map φ) (ord.map φ) d = blkD os s ord d := by
  have hl := r.c.len
  have e : Ds.okd os (calB (s.map φ) (ord.map φ)) 0 d = Ds.okd os (calB s ord) 0 d := r.wid.okd d
  have hU : ∀ x ∈ Ds.okd os (calB s ord) 0 d, x < s.length := (okd_small r.c).1
  have hd : nmAt s d ∈ s := nm_mem (by omega)
  unfold blkD
  rw [e]
  unfold Ds.blk
  rw [nm_map (by omega), r.maps hU]
  by_cases g : nmAt s d ∈ ord
  · rw [if_pos g, if_pos (List.mem_map_of_mem g), idx_map fun y hy => r.inj y (r.c.osub y hy) _ hd, ← List.map_drop, filter_map_mem fun x hx => r.mem (nms_sub r.c hU) (r.c.osub x (List.mem_of_mem_drop hx)), List.map_map]
    apply List.map_congr_left
    intro y hy
    have hy2 : y ∈ s := r.c.osub y (List.mem_of_mem_drop (List.mem_filter.mp hy).1)
    show PyData.int (((s.map φ).idxOf (φ y) : Nat) : Int) = _
    rw [idx_map fun x hx => r.inj x hx y hy2]
  · rw [if_neg g, if_neg fun q => g ((r.mem r.c.osub hd).mp q)]
theorem Ren.call (r : Ren os s ord φ) {n : Str} (hn : n ∈ s) : callS os (s.map φ) (φ n) = (callS os s n).map φ := by
  have hl := r.c.len
  have hi := idx_lt hn
  unfold callS
  rw [idx_map fun x hx => r.inj x hx n hn]
  by_cases h0 : 0 < s.idxOf n
  · rw [if_pos h0, if_pos h0]
    have lt := off_lt r.c.off h0 (by omega)
    rw [nm_map (by omega), List.map_set, List.map_set]
  · rw [if_neg h0, if_neg h0]
theorem Ren.names (r : Ren os s ord φ) {d : Nat} (h : d ≤ os.length) : namesG os (s.map φ) (ord.map φ) d = (namesG os s ord d).map φ := by
  have hl := r.c.len
  have hU : ∀ x ∈ d :: okd0 os s ord d, x < s.length := fun x hx => by
    rcases List.mem_cons.mp hx with e | hx
    · omega
    · exact (okd_small r.c).1 x hx
  unfold namesG
  rw [r.okd, r.maps hU]
  exact filter_map_mem fun x hx => r.mem (nms_sub r.c hU) (r.c.osub x hx)
end
section
variable {os : List Nat} {s ord A B : List Str}
theorem SDay.fin {k : Nat} (c : Case os s ord) (d : SDay os s ord k) : SDay os (daysS os ord k s) ord 0 := ⟨Nat.zero_le _, d.yes, fun j hj => absurd hj (Nat.not_lt_zero j)⟩
theorem SDay.next {k : Nat} (c : Case os s ord) (d : SDay os s ord k) : SDay os (callsS os s ord) ord (k - 1) := by
  cases k with
  | zero => exact ⟨Nat.zero_le _, settled_stays c d.yes, fun j hj => absurd hj (Nat.not_lt_zero j)⟩
  | succ k => exact ⟨by have := d.le; omega, d.yes, fun j hj => d.no (j + 1) (by rw [Nat.add_sub_cancel] at hj; omega)⟩
end
end Ds
end
section
set_option Elab.async false
set_option linter.all false
set_option maxRecDepth 100000
set_option maxHeartbeats 1000000
open PySem PySem.Spec PyProof.Rows L2
namespace Ds
def Bg (k : Nat) (ds : List PyData) : Prop := ∃ a c n : Int, ds = [.int a, .int c, .int n] ∧ 0 ≤ n ∧ n ≤ k
theorem Bg.mono {k j : Nat} {ds : List PyData} (h : Bg k ds) (l : k ≤ j) : Bg j ds := by
  obtain ⟨a, c, n, e, h1, h2⟩ := h
  exact ⟨a, c, n, e, h1, by omega⟩
def codes (s : Str) : List Nat := s.cps.toList
theorem codes_len {a : Str} : a.length = (codes a).length := (Array.length_toList ..).symm
def Small (l : List Nat) : Prop := ∀ c ∈ l, 97 ≤ c ∧ c ≤ 122
theorem nm_codes {s : Str} (h1 : 1 ≤ (codes s).length) (h2 : (codes s).length ≤ 8) (h : Small (codes s)) : Nm s := ⟨by rw [codes_len]; exact h1, by rw [codes_len]; exact h2, h⟩
def two (j : Nat) : List Nat := [97 + j / 26, 97 + j % 26]
def NForm (head : Str) (way : Int) (j : Nat) (x : Str) : Prop := (way = 0 ∧ codes x = codes head ++ two j) ∨ (way ≠ 0 ∧ ((codes x = [97 + j] ∧ j < 26) ∨ ∃ t, Small t ∧ t.length ≤ 6 ∧ codes x = two j ++ t))
theorem two_inj {i j : Nat} (h : two i = two j) : i = j := by
  unfold two at h
  injection h with h1 h2
  injection h2 with h2 _
  omega
theorem two_app {i j : Nat} {t u : List Nat} (h : two i ++ t = two j ++ u) : i = j := by
  unfold two at h
  injection h with h1 h2
  injection h2 with h2 _
  omega
theorem NForm.inj {head x : Str} {way : Int} {i j : Nat} (h : NForm head way i x) (g : NForm head way j x) : i = j := by
  rcases h with ⟨w, h⟩ | ⟨w, h⟩
  · rcases g with ⟨_, g⟩ | ⟨w', _⟩
    · exact two_inj (List.append_cancel_left (h.symm.trans g))
    · exact absurd w w'
  · rcases g with ⟨w', _⟩ | ⟨_, g⟩
    · exact absurd w' w
    · rcases h with ⟨h, hi⟩ | ⟨t, _, _, h⟩
      · rcases g with ⟨g, hj⟩ | ⟨u, _, _, g⟩
        · have := h.symm.trans g
          injection this with this _
          omega
        · have := congrArg List.length (h.symm.trans g)
          simp [two] at this
      · rcases g with ⟨g, hj⟩ | ⟨u, _, _, g⟩
        · have := congrArg List.length (h.symm.trans g)
          simp [two] at this
        · exact two_app (h.symm.trans g)
theorem two_small {j : Nat} (h : j < 260) : Small (two j) := fun c hc => by
  simp only [two, List.mem_cons, List.not_mem_nil, or_false] at hc
  rcases hc with rfl | rfl <;> omega
theorem NForm.nm {head x : Str} {way : Int} {j : Nat} (hj : j < 260) (h1 : Small (codes head)) (h2 : (codes head).length ≤ 6) (h : NForm head way j x) : Nm x := by
  have two2 : (two j).length = 2 := rfl
  rcases h with ⟨_, h⟩ | ⟨_, ⟨h, hi⟩ | ⟨t, t1, t2, h⟩⟩
  · refine nm_codes (by rw [h, List.length_append]; omega) (by rw [h, List.length_append]; omega) ?_
    rw [h]
    exact fun c hc => (List.mem_append.mp hc).elim (h1 c) (two_small hj c)
  · refine nm_codes (by rw [h]; simp) (by rw [h]; simp) ?_
    rw [h]
    exact fun c hc => by rw [List.mem_singleton.mp hc]; omega
  · refine nm_codes (by rw [h, List.length_append]; omega) (by rw [h, List.length_append]; omega) ?_
    rw [h]
    exact fun c hc => (List.mem_append.mp hc).elim (two_small hj c) (t1 c)
theorem cut_to {ds : List PyData} {k : Nat} (h : k ≤ ds.length) : cutD ds none (some (k : Int)) = ds.take k := by
  unfold cutD
  rw [HT.sIx_nat, HT.sIx_none, Nat.min_eq_left h, Nat.sub_zero, List.drop_zero]
theorem take_sts {l : List Str} {k : Nat} (h : k ≤ l.length) : cutD (sts l) none (some (k : Int)) = sts (l.take k) := by
  rw [cut_to (by rw [sts_len]; exact h)]
  unfold sts
  rw [List.map_take]
end Ds
end
section
set_option Elab.async false
set_option linter.all false
set_option maxRecDepth 100000
set_option maxHeartbeats 1000000
open PySem PySem.Spec PyProof.Rows L2
namespace Ds
section
variable {os : List Nat} {s ord A B : List Str} {φ : Str → Str} {u : Nat} {z : Str}
/-- a row with other names -/
def rowM (φ : Str → Str) : PyData → PyData
  | .tuple [.str n, d, .str p] => .tuple [.str (φ n), d, .str (φ p)]
  | .tuple [.str n, d, .none] => .tuple [.str (φ n), d, .none]
  | w => w
theorem Ren.row (r : Ren os s ord φ) {n : Str} (hn : n ∈ s) : rowS os (s.map φ) (φ n) = rowM φ (rowS os s n) := by
  have hi := idx_lt hn
  have hl := r.c.len
  unfold rowS
  rw [idx_map fun x hx => r.inj x hx n hn]
  by_cases h0 : 0 < s.idxOf n
  · have lt := off_lt r.c.off h0 (by omega)
    rw [if_pos h0, if_pos h0, nm_map (by omega)]
    rfl
  · rw [if_neg h0, if_neg h0]
    rfl
end
end Ds
end
section
set_option Elab.async false
set_option linter.all false
set_option maxRecDepth 100000
set_option maxHeartbeats 1000000
open PySem PySem.Spec PyProof.Rows L2
namespace Ds
mutual
theorem eqv_lay : ∀ d : PyData, d.canLay0 = true → PyData.eqv d d = true
  | .none, _ => rfl
  | .bool b, _ => by simp [PyData.eqv]
  | .int i, _ => by simp [PyData.eqv]
  | .str x, _ => by simp [PyData.eqv]
  | .list xs, h => by
    simp only [PyData.canLay0] at h
    simp only [PyData.eqv]
    exact eqv_layA xs h
  | .tuple xs, h => by
    simp only [PyData.canLay0] at h
    simp only [PyData.eqv]
    exact eqv_layA xs h
  | .dict kvs, h => by simp [PyData.canLay0] at h
theorem eqv_layA : ∀ ds : List PyData, PyData.canLayAll0 ds = true → PyData.eqvAll ds ds = true
  | [], _ => rfl
  | d :: ds, h => by
    simp only [PyData.canLayAll0, Bool.and_eq_true] at h
    simp only [PyData.eqvAll, Bool.and_eq_true]
    exact ⟨eqv_lay d h.1, eqv_layA ds h.2⟩
end
/-- data that can be compared -/
structure Lay (d : PyData) (n : Nat) : Prop where
  lay : d.canLay0 = true
  deep : d.depth ≤ n
theorem Lay.ok {d : PyData} {n : Nat} (h : Lay d n) (hn : n ≤ 64) : okEq d = true := by
  have h1 := h.lay
  have h2 : d.depth ≤ 64 := Nat.le_trans h.deep hn
  have h3 := PyData.hasDict_of_canLay d h1
  unfold okEq SeqAt.shaped
  rw [h1, h3, decide_eq_true h2]
  cases d with
  | dict kvs => simp [PyData.canLay0] at h1
  | _ => rfl
theorem Lay.eq {d : PyData} {n : Nat} (h : Lay d n) (hn : n ≤ 64) : gEq d d = some (.bool true) := by
  unfold gEq
  cases e : bothS d d with
  | some b =>
    obtain ⟨x, y, e1, e2, e3⟩ := bothS_some e
    rw [e1] at e2
    cases e2
    rw [e3, beq_self_eq_true]
  | none =>
    show (if okEq d = true ∧ okEq d = true then some (PyData.bool (PyData.eqv d d)) else none) = _
    rw [if_pos ⟨h.ok hn, h.ok hn⟩, eqv_lay d h.lay]
theorem Lay.ne {d : PyData} {n : Nat} (h : Lay d n) (hn : n ≤ 64) : gNe d d = some (.bool false) := by
  unfold gNe
  cases e : bothS d d with
  | some b =>
    obtain ⟨x, y, e1, e2, e3⟩ := bothS_some e
    rw [e1] at e2
    cases e2
    rw [e3, beq_self_eq_true]
    rfl
  | none =>
    show (if okEq d = true ∧ okEq d = true then some (PyData.bool (!PyData.eqv d d)) else none) = _
    rw [if_pos ⟨h.ok hn, h.ok hn⟩, eqv_lay d h.lay]
    rfl
theorem lay_all {n : Nat} : ∀ {ds : List PyData}, (∀ d ∈ ds, Lay d n) → PyData.canLayAll0 ds = true ∧ PyData.depthAll ds ≤ n
  | [], _ => ⟨rfl, Nat.zero_le _⟩
  | d :: ds, h => by
    obtain ⟨a, b⟩ := lay_all (ds := ds) fun e he => h e (List.mem_cons_of_mem _ he)
    have c := h d List.mem_cons_self
    have c1 := c.lay
    have c2 := c.deep
    refine ⟨by simp only [PyData.canLayAll0, c1, a]; rfl, ?_⟩
    simp only [PyData.depthAll]
    omega
theorem Lay.list {n : Nat} {ds : List PyData} (h : ∀ d ∈ ds, Lay d n) : Lay (.list ds) (n + 1) := by
  obtain ⟨a, b⟩ := lay_all h
  exact ⟨by simp only [PyData.canLay0]; exact a, by simp only [PyData.depth]; omega⟩
theorem Lay.tuple {n : Nat} {ds : List PyData} (h : ∀ d ∈ ds, Lay d n) : Lay (.tuple ds) (n + 1) := by
  obtain ⟨a, b⟩ := lay_all h
  exact ⟨by simp only [PyData.canLay0]; exact a, by simp only [PyData.depth]; omega⟩
theorem Lay.int {i : Int} : Lay (.int i) 0 := ⟨rfl, Nat.le_refl _⟩
theorem Lay.up {d : PyData} {n m : Nat} (h : Lay d n) (l : n ≤ m) : Lay d m := ⟨h.lay, Nat.le_trans h.deep l⟩
theorem Lay.str {x : Str} (h : Nm x) : Lay (.str x) 0 := ⟨by simp only [PyData.canLay0]; exact nm_strOk h, Nat.le_refl _⟩
end Ds
end
section
set_option Elab.async false
set_option linter.all false
set_option maxRecDepth 100000
set_option maxHeartbeats 1000000
open PySem PySem.Spec PyProof.Rows L2
namespace Ds
abbrev tS (u : List (List Str)) : List PyData := u.map mkQ
theorem tS_len {u : List (List Str)} : (tS u).length = u.length := List.length_map ..
end Ds
end
section
set_option Elab.async false
set_option linter.all false
set_option maxRecDepth 100000
set_option maxHeartbeats 1000000
open PySem PySem.Spec PyProof.Rows L2
namespace Ds
def nxtL (ss t : List Str) : List (List Str) := (ss.filter fun x => decide (x ∉ t)).map fun x => t ++ [x]
def arrL (ss : List Str) : Nat → List (List Str)
  | 0 => [[]]
  | k + 1 => (arrL ss k).flatMap (nxtL ss)
structure Arr (ss t : List Str) (k : Nat) : Prop where
  len : t.length = k
  nd : t.Nodup
  sub : ∀ x ∈ t, x ∈ ss
theorem nxt_mem {ss t u : List Str} : u ∈ nxtL ss t ↔ ∃ x, x ∈ ss ∧ x ∉ t ∧ u = t ++ [x] := by
  unfold nxtL
  rw [List.mem_map]
  constructor
  · rintro ⟨x, h1, h2⟩
    rw [List.mem_filter] at h1
    exact ⟨x, h1.1, of_decide_eq_true h1.2, h2.symm⟩
  · rintro ⟨x, h1, h2, h3⟩
    exact ⟨x, List.mem_filter.mpr ⟨h1, decide_eq_true h2⟩, h3.symm⟩
theorem arr_mem {ss : List Str} : ∀ {k : Nat} {t : List Str}, t ∈ arrL ss k ↔ Arr ss t k
  | 0, t => by
    show t ∈ [[]] ↔ _
    rw [List.mem_singleton]
    constructor
    · rintro rfl
      exact ⟨rfl, List.nodup_nil, fun x hx => by cases hx⟩
    · intro h
      exact List.length_eq_zero_iff.mp h.len
  | k + 1, t => by
    show t ∈ (arrL ss k).flatMap (nxtL ss) ↔ _
    rw [List.mem_flatMap]
    constructor
    · rintro ⟨u, h1, h2⟩
      have a := arr_mem.mp h1
      obtain ⟨x, g1, g2, rfl⟩ := nxt_mem.mp h2
      refine ⟨by rw [List.length_append, a.len]; rfl, ?_, fun y hy => ?_⟩
      · refine List.nodup_append.mpr ⟨a.nd, by simp, fun y hy z hz => ?_⟩
        rw [List.mem_singleton.mp hz]
        exact fun e => g2 (e ▸ hy)
      · rcases List.mem_append.mp hy with q | q
        · exact a.sub y q
        · rw [List.mem_singleton.mp q]; exact g1
    · intro a
      rcases List.eq_nil_or_concat t with e | ⟨u, x, e⟩
      · have := a.len
        rw [e] at this
        cases this
      · have e2 : t = u ++ [x] := e.trans List.concat_eq_append
        clear e
        subst e2
        have nd := List.nodup_append.mp a.nd
        have hl := a.len
        rw [List.length_append, List.length_singleton] at hl
        exact ⟨u, arr_mem.mpr ⟨by omega, nd.1, fun y hy => a.sub y (List.mem_append_left _ hy)⟩, nxt_mem.mpr ⟨x, a.sub x (by simp), fun hx => nd.2.2 x hx x (by simp) rfl, rfl⟩⟩
theorem nd_le {α : Type} [DecidableEq α] : ∀ {l m : List α}, l.Nodup → (∀ x ∈ l, x ∈ m) → l.length ≤ m.length
  | [], m, _, _ => Nat.zero_le _
  | x :: l, m, h, hs => by
    have q := List.nodup_cons.mp h
    have hx := hs x List.mem_cons_self
    have ih := nd_le (l := l) (m := m.erase x) q.2 fun y hy => (List.mem_erase_of_ne fun e => q.1 (by rw [← e]; exact hy)).mpr (hs y (List.mem_cons_of_mem _ hy))
    have e := List.length_erase_of_mem hx
    have := List.length_pos_of_mem hx
    rw [List.length_cons]
    omega
theorem arr_perm {ss t : List Str} (h : ss.Nodup) : t ∈ arrL ss ss.length ↔ t.Perm ss := by
  rw [arr_mem]
  constructor
  · intro a
    refine (List.perm_ext_iff_of_nodup a.nd h).mpr fun x => ⟨a.sub x, fun hx => ?_⟩
    refine Classical.byContradiction fun hn => ?_
    have := nd_le (l := x :: t) (m := ss) (List.nodup_cons.mpr ⟨hn, a.nd⟩) fun y hy => (List.mem_cons.mp hy).elim (fun e => e ▸ hx) (a.sub y)
    rw [List.length_cons, a.len] at this
    omega
  · intro p
    exact ⟨p.length_eq, p.nodup_iff.mpr h, fun x hx => p.mem_iff.mp hx⟩
theorem nxt_len {ss t : List Str} : (nxtL ss t).length ≤ ss.length := by
  unfold nxtL
  rw [List.length_map]
  exact List.length_filter_le _ _
theorem flat_len {α β : Type} {f : α → List β} {m : Nat} : ∀ {l : List α}, (∀ a ∈ l, (f a).length ≤ m) → (l.flatMap f).length ≤ l.length * m
  | [], _ => by simp
  | a :: l, h => by
    have h1 := h a List.mem_cons_self
    have h2 := flat_len (l := l) fun b hb => h b (List.mem_cons_of_mem _ hb)
    rw [List.flatMap_cons, List.length_append, List.length_cons, Nat.add_mul]
    omega
theorem arr_len {ss : List Str} : ∀ k, (arrL ss k).length ≤ ss.length ^ k
  | 0 => Nat.le_refl 1
  | k + 1 => by
    show ((arrL ss k).flatMap (nxtL ss)).length ≤ _
    refine Nat.le_trans (flat_len fun a _ => nxt_len) ?_
    rw [Nat.pow_succ]
    exact Nat.mul_le_mul_right _ (arr_len k)
theorem Case.permS {os : List Nat} {ss t ord : List Str} (c : Case os ss ord) (h : ss.Perm t) : Case os t ord :=
  ⟨c.off, by rw [← h.length_eq]; exact c.len, h.nodup_iff.mp c.nd, fun z hz => c.nm z (h.mem_iff.mpr hz), c.ond, fun z hz => h.mem_iff.mp (c.osub z hz)⟩
end Ds
end
section
set_option Elab.async false
set_option linter.all false
set_option maxRecDepth 100000
set_option maxHeartbeats 1000000
open PySem PySem.Spec PyProof.Rows L2
namespace Ds
def gone (os W : List Nat) (d : Nat) : Nat := if 0 < d ∧ os.getD (d - 1) 0 ∈ W then os.getD (d - 1) 0 else d
def leftW (os W : List Nat) (d : Nat) : List Nat := W.filter fun e => decide (e ≠ gone os W d)
def psd (os W : List Nat) (d : Nat) : Bool := decide (0 < d ∧ os.getD (d - 1) 0 ∈ W)
def nextD (os W : List Nat) (d : Nat) : PyData := .tuple [.int (d : Nat), .bool (psd os W d), .tuple (nts (leftW os W d))]
theorem left_sub {os W : List Nat} {d e : Nat} (h : e ∈ leftW os W d) : e ∈ W := (List.mem_filter.mp h).1
theorem left_len {os W : List Nat} {d : Nat} : (leftW os W d).length ≤ W.length := List.length_filter_le _ _
def q_nc1_W : SS := (sSet 4 (sAndV (sBin gGt (sVar 3) (sK (.int 0))) (sBin (gInT false) (sBin gIx (sVar 0) (sBin gSub_ (sVar 3) (sK (.int 1)))) (sVar 1))))
def q_nc2_W : SS := (sSet 5 (sIfE (sTst (sVar 4)) (sBin gIx (sVar 0) (sBin gSub_ (sVar 3) (sK (.int 1)))) (sVar 3)))
def q_nc3_W : SN := sLc (sISq (sVar 1)) (gNm 6) (sTst (sBin gNe (sVar 6) (sVar 5))) (sVar 6) [6]
def q_nc4_W : SS := sDrop (sAppend 2 (sTup (sCons (sVar 3) (sCons (sVar 4) (sCons (sRd lTup q_nc3_W) sNil)))))
theorem c_nc_eq_W : c_next_calls = sSeq (sSetNew 2 (sLst sNil)) (sSeq (sFor (sISq (sVar 1)) (gNm 3) (sSeq q_nc1_W (sSeq q_nc2_W q_nc4_W))) (sRetOwn 2)) := rfl
theorem g_inNT_W {s : Nat} {u : List Nat} : gInT false (.int (s : Nat)) (.tuple (nts u)) = some (.bool (decide (s ∈ u))) := by
  show (if flatD (.int (s : Nat)) = true ∧ (nts u).all flatD = true then some (PyData.bool (if false = true then !inD (.int (s : Nat)) (nts u) else inD (.int (s : Nat)) (nts u))) else none) = _
  rw [if_pos ⟨rfl, flat_nts⟩, inD_nts]
  rfl
section
variable {s0 s1 s2 s3 s4 s5 s6 : Sl} {O Wd L F : List PyData} {v : PyData} {b : Bool} {d g : Int}
theorem t_nc1z_W (hd : d = 0) (h4 : noio (some s4) = true) : q_nc1_W [s0, s1, s2, .val (.int d), s4, s5, s6] = .nx [s0, s1, s2, .val (.int d), .val (.bool false), s5, s6] := by
  subst hd
  simp [q_nc1_W, h4]
theorem t_nc1p_W (hd : 0 < d) (a : atI O (d - 1) = some v) (gi : gInT false v (.tuple Wd) = some (.bool b)) (h4 : noio (some s4) = true) : q_nc1_W [.val (.tuple O), .val (.tuple Wd), s2, .val (.int d), s4, s5, s6] = .nx [.val (.tuple O), .val (.tuple Wd), s2, .val (.int d), .val (.bool b), s5, s6] := by
  have h : d > 0 := hd
  simp [q_nc1_W, a, gi, h4, h]
theorem t_nc2t_W (a : atI O (d - 1) = some v) (h5 : noio (some s5) = true) : q_nc2_W [.val (.tuple O), s1, s2, .val (.int d), .val (.bool true), s5, s6] = .nx [.val (.tuple O), s1, s2, .val (.int d), .val (.bool true), .val v, s6] := by simp [q_nc2_W, a, h5]
theorem t_nc2f_W (h5 : noio (some s5) = true) : q_nc2_W [s0, s1, s2, .val (.int d), .val (.bool false), s5, s6] = .nx [s0, s1, s2, .val (.int d), .val (.bool false), .val (.int d), s6] := by simp [q_nc2_W, h5]
theorem t_nc3_W {W : List Nat} {z : Nat} (hz : W.length ≤ 100) : q_nc3_W [s0, .val (.tuple (nts W)), s2, s3, s4, .val (.int (z : Nat)), .nil] = .ok (nts (W.filter fun e => decide (e ≠ z))) [s0, .val (.tuple (nts W)), s2, s3, s4, .val (.int (z : Nat)), .nil] := by
  have lc : lcL (gNm 6) (sTst (sBin gNe (sVar 6) (sVar 5))) (sVar 6) [6] (nts W) [s0, .val (.tuple (nts W)), s2, s3, s4, .val (.int (z : Nat)), .nil] = .ok (nts (W.filter fun e => decide (e ≠ z))) [s0, .val (.tuple (nts W)), s2, s3, s4, .val (.int (z : Nat)), .nil] := by
    rw [lc_filtF (c := fun y => match y with | .int k => decide (k ≠ ((z : Nat) : Int)) | _ => false) (f := id) fun y hy => ?_]
    · congr 1
      rw [List.map_id]
      unfold nts
      rw [List.filter_map]
      congr 1
      refine List.filter_congr fun e _ => ?_
      show decide (((e : Nat) : Int) ≠ ((z : Nat) : Int)) = _
      exact decide_eq_decide.mpr ⟨fun h q => h (by rw [q]), fun h q => h (by omega)⟩
    · obtain ⟨k, _, rfl⟩ := List.mem_map.mp hy
      generalize nts W = WW
      refine ⟨[s0, .val (.tuple WW), s2, s3, s4, .val (.int (z : Nat)), .val (.int (k : Nat))], [s0, .val (.tuple WW), s2, s3, s4, .val (.int (z : Nat)), .val (.int (k : Nat))], by simp, by simp, by simp [wipeS], fun _ => ⟨[s0, .val (.tuple WW), s2, s3, s4, .val (.int (z : Nat)), .val (.int (k : Nat))], by simp, by simp [wipeS]⟩⟩
  have hl : (nts W).length < 16777216 := by rw [nts_len]; omega
  generalize nts (W.filter fun e => decide (e ≠ z)) = Z at *
  generalize nts W = WW at *
  simp [q_nc3_W, wipeS, lc, unwipe, sizeLine, hl]
theorem t_nc4_W {n : SN} (e : n [s0, s1, .own F, .val (.int d), .val (.bool b), s5, s6] = .ok L [s0, s1, .own F, .val (.int d), .val (.bool b), s5, s6]) (hF : F.length < 1000000) : sDrop (sAppend 2 (sTup (sCons (sVar 3) (sCons (sVar 4) (sCons (sRd lTup n) sNil))))) [s0, s1, .own F, .val (.int d), .val (.bool b), s5, s6] = .nx [s0, s1, .own (F ++ [.tuple [.int d, .bool b, .tuple L]]), .val (.int d), .val (.bool b), s5, s6] := by
  have h : F.length < 16777216 := by omega
  simp [e, h, sizeLine, lTup]
end
section
variable {os W : List Nat}
theorem nc_body_W (h : Off os) {d : Nat} (hd : d ≤ os.length) (hW : W.length ≤ 100) {F : List PyData} (hF : F.length < 1000000) {x4 x5 : Sl} (b4 : bare (some x4) = true) (b5 : bare (some x5) = true) :
    ∃ y4 y5, bare (some y4) = true ∧ bare (some y5) = true ∧ sSeq q_nc1_W (sSeq q_nc2_W q_nc4_W) [vO os, .val (.tuple (nts W)), .own F, .val (.int (d : Nat)), x4, x5, .nil] = .nx [vO os, .val (.tuple (nts W)), .own (F ++ [nextD os W d]), .val (.int (d : Nat)), y4, y5, .nil] := by
  refine ⟨.val (.bool (psd os W d)), .val (.int (gone os W d : Nat)), rfl, rfl, ?_⟩
  have s4 := fun (S : Sl) => t_nc4_W (s0 := vO os) (s1 := .val (.tuple (nts W))) (s5 := S) (s6 := .nil) (F := F) (b := psd os W d) (d := (d : Nat)) (n := q_nc3_W) (L := nts (leftW os W d))
  have s3 := t_nc3_W (s0 := vO os) (s2 := .own F) (s3 := .val (.int (d : Nat))) (s4 := .val (.bool (psd os W d))) (W := W) (z := gone os W d) hW
  by_cases h0 : 0 < d
  · have u := off_at h (d := d) h0 hd
    have hI : (0 : Int) < (d : Nat) := by omega
    by_cases hm : os.getD (d - 1) 0 ∈ W
    · have ep : psd os W d = true := decide_eq_true ⟨h0, hm⟩
      have eg : gone os W d = os.getD (d - 1) 0 := if_pos ⟨h0, hm⟩
      have g : gInT false (.int ((os.getD (d - 1) 0 : Nat) : Int)) (.tuple (nts W)) = some (.bool (psd os W d)) := by rw [g_inNT_W, ep, decide_eq_true hm]
      have e1 := t_nc1p_W (s2 := .own F) (s5 := x5) (s6 := .nil) hI u.1 g (noio_bare b4)
      have e2 := t_nc2t_W (s1 := .val (.tuple (nts W))) (s2 := .own F) (s6 := .nil) u.1 (noio_bare b5)
      rw [← eg] at e2
      rw [← ep] at e2
      rw [r_sSeq, e1, sq_nx, r_sSeq, e2, sq_nx]
      exact s4 _ s3 hF
    · have ep : psd os W d = false := decide_eq_false fun z => hm z.2
      have eg : gone os W d = d := if_neg fun z => hm z.2
      have g : gInT false (.int ((os.getD (d - 1) 0 : Nat) : Int)) (.tuple (nts W)) = some (.bool (psd os W d)) := by rw [g_inNT_W, ep, decide_eq_false hm]
      have e1 := t_nc1p_W (s2 := .own F) (s5 := x5) (s6 := .nil) hI u.1 g (noio_bare b4)
      have e2 := t_nc2f_W (s0 := vO os) (s1 := .val (.tuple (nts W))) (s2 := .own F) (s6 := .nil) (d := (d : Nat)) (noio_bare b5)
      rw [← ep] at e2
      rw [r_sSeq, e1, sq_nx, r_sSeq, e2, sq_nx]
      rw [eg] at s3 ⊢
      exact s4 _ (by rw [s3]; unfold leftW; rw [eg]) hF
  · have hz : d = 0 := by omega
    subst hz
    have ep : psd os W 0 = false := decide_eq_false fun z => h0 z.1
    have eg : gone os W 0 = 0 := if_neg fun z => h0 z.1
    have e1 := t_nc1z_W (s0 := vO os) (s1 := .val (.tuple (nts W))) (s2 := .own F) (s5 := x5) (s6 := .nil) (d := ((0 : Nat) : Int)) rfl (noio_bare b4)
    have e2 := t_nc2f_W (s0 := vO os) (s1 := .val (.tuple (nts W))) (s2 := .own F) (s6 := .nil) (d := ((0 : Nat) : Int)) (noio_bare b5)
    rw [eg] at s3 ⊢
    rw [ep] at s3 s4 ⊢
    rw [r_sSeq, e1, sq_nx, r_sSeq, e2, sq_nx]
    refine (s4 _ (by rw [s3]; unfold leftW; rw [eg]) hF).trans ?_
    unfold nextD
    rw [ep]
theorem nc_loop_W (h : Off os) (hW : W.length ≤ 100) : ∀ {ds : List Nat} {F : List PyData} {x3 x4 x5 : Sl}, (∀ d ∈ ds, d ≤ os.length) → F.length + ds.length ≤ 1000 → bare (some x3) = true → bare (some x4) = true → bare (some x5) = true →
    ∃ y3 y4 y5, loopL (gNm 3) (sSeq q_nc1_W (sSeq q_nc2_W q_nc4_W)) (nts ds) [vO os, .val (.tuple (nts W)), .own F, x3, x4, x5, .nil] = .nx [vO os, .val (.tuple (nts W)), .own (F ++ ds.map (nextD os W)), y3, y4, y5, .nil]
  | [], F, x3, x4, x5, _, _, _, _, _ => ⟨x3, x4, x5, by rw [List.map_nil, List.append_nil]; rfl⟩
  | d :: ds, F, x3, x4, x5, hd, hF, b3, b4, b5 => by
    rw [List.length_cons] at hF
    obtain ⟨y4, y5, c4, c5, e⟩ := nc_body_W h (hd d List.mem_cons_self) hW (F := F) (by omega) b4 b5
    have e0 : gNm 3 (.int (d : Nat)) [vO os, .val (.tuple (nts W)), .own F, x3, x4, x5, .nil] = .nx [vO os, .val (.tuple (nts W)), .own F, .val (.int (d : Nat)), x4, x5, .nil] := by simp [b3]
    obtain ⟨z3, z4, z5, ih⟩ := nc_loop_W h hW (ds := ds) (F := F ++ [nextD os W d]) (x3 := .val (.int (d : Nat))) (fun z hz => hd z (List.mem_cons_of_mem _ hz)) (by rw [List.length_append, List.length_singleton]; omega) rfl c4 c5
    refine ⟨z3, z4, z5, ?_⟩
    rw [nts_cons, loop_nxP e0 e, ih, List.map_cons, List.append_assoc]
    rfl
theorem nextc_ok (h : Off os) (hd : ∀ d ∈ W, d ≤ os.length) (hW : W.length ≤ 100) : ∃ T, m_next_calls [vO os, .val (.tuple (nts W))] = .ok (.own (W.map (nextD os W))) T := by
  obtain ⟨y3, y4, y5, e⟩ := nc_loop_W h hW (ds := W) (F := []) (x3 := .nil) (x4 := .nil) (x5 := .nil) hd (by simp; omega) rfl rfl rfl
  refine ⟨[vO os, .val (.tuple (nts W)), .own (W.map (nextD os W)), y3, y4, y5, .nil], ?_⟩
  rw [m_next_calls, r_mB]
  show (c_next_calls [vO os, .val (.tuple (nts W)), .nil, .nil, .nil, .nil, .nil]).fin = _
  have s1 : sSetNew 2 (sLst sNil) [vO os, .val (.tuple (nts W)), .nil, .nil, .nil, .nil, .nil] = .nx [vO os, .val (.tuple (nts W)), .own [], .nil, .nil, .nil, .nil] := by
    generalize nts W = WW
    simp [sizeLine]
  have s2 : sISq (sVar 1) [vO os, .val (.tuple (nts W)), .own [], .nil, .nil, .nil, .nil] = .ok (nts W) [vO os, .val (.tuple (nts W)), .own [], .nil, .nil, .nil, .nil] := by
    generalize nts W = WW
    simp
  rw [c_nc_eq_W, r_sSeq, s1, sq_nx, r_sSeq, r_sFor, s2, stt_ok, e, sq_nx, List.nil_append]
  generalize W.map (nextD os W) = Z
  simp
end
def keyT (W : List Nat) : NK := .tup (W.map fun d => .num ((d : Nat) : Int))
theorem keys_D_W : ∀ W : List Nat, nkDs (W.map fun d => NestedKey.num ((d : Nat) : Int)) = nts W
  | [] => by rw [List.map_nil, nkDs]; rfl
  | d :: W => by rw [List.map_cons, nkDs, nkD, keys_D_W W]; rfl
theorem keyT_D (W : List Nat) : nkD (keyT W) = .tuple (nts W) := by unfold keyT; rw [nkD, keys_D_W]
theorem toNs_nts : ∀ W : List Nat, toNs (nts W) = some (W.map fun d => NestedKey.num ((d : Nat) : Int))
  | [] => by rw [List.map_nil]; show toNs [] = _; rw [toNs]
  | d :: W => by
    show toNs (.int ((d : Nat) : Int) :: nts W) = _
    rw [toNs, toNs_nts W, toN]
    rfl
theorem depthAll_num : ∀ W : List Nat, NestedKey.depthAll (W.map fun d => NestedKey.num ((d : Nat) : Int)) ≤ 1
  | [] => by rw [List.map_nil, NestedKey.depthAll]; omega
  | d :: W => by
    rw [List.map_cons, NestedKey.depthAll, NestedKey.depth]
    have := depthAll_num W
    omega
theorem keyT_depth (W : List Nat) : (keyT W).depth ≤ 8 := by
  unfold keyT
  rw [NestedKey.depth]
  have := depthAll_num W
  omega
theorem toT_nts (W : List Nat) : toT (.tuple (nts W)) = some (keyT W) := by
  unfold toT
  have e : toN (.tuple (nts W)) = some (.tup (W.map fun d => NestedKey.num ((d : Nat) : Int))) := by rw [toN, toNs_nts]; rfl
  rw [e]
  show (if (keyT W).depth ≤ 8 then some (keyT W) else none) = _
  rw [if_pos (keyT_depth W)]
theorem keyT_inj {W V : List Nat} (h : keyT W = keyT V) : W = V := by
  have e := congrArg nkD h
  rw [keyT_D, keyT_D] at e
  injection e with e
  unfold nts at e
  exact (List.map_inj_right (fun a b q => by injection q with q; omega)).mp e
abbrev CT := List (List Nat × Nat)
def kvT (c : CT) : List (NK × PyData) := c.map fun p => (keyT p.1, .int ((p.2 : Nat) : Int))
def getC : CT → List Nat → Nat
  | [], _ => 0
  | (V, m) :: c, W => if V = W then m else getC c W
def addC : CT → List Nat → Nat → CT
  | [], W, n => [(W, n)]
  | (V, m) :: c, W, n => if V = W then (V, m + n) :: c else (V, m) :: addC c W n
def keysC (c : CT) : List (List Nat) := c.map (·.1)
theorem keys_add : ∀ {c : CT} {W V : List Nat} {n : Nat}, V ∈ keysC (addC c W n) ↔ V ∈ keysC c ∨ V = W
  | [], W, V, n => by simp [addC, keysC]
  | (U, m) :: c, W, V, n => by
    unfold addC
    by_cases e : U = W
    · rw [if_pos e]
      simp only [keysC, List.map_cons, List.mem_cons]
      constructor
      · exact fun h => .inl h
      · rintro (h | h)
        · exact h
        · exact .inl (h.trans e.symm)
    · rw [if_neg e]
      have ih := keys_add (c := c) (W := W) (V := V) (n := n)
      simp only [keysC, List.map_cons, List.mem_cons] at ih ⊢
      rw [ih]
      constructor
      · rintro (h | h | h)
        · exact .inl (.inl h)
        · exact .inl (.inr h)
        · exact .inr h
      · rintro ((h | h) | h)
        · exact .inl h
        · exact .inr (.inl h)
        · exact .inr (.inr h)
theorem nd_add : ∀ {c : CT} {W : List Nat} {n : Nat}, (keysC c).Nodup → (keysC (addC c W n)).Nodup
  | [], W, n, _ => by simp [addC, keysC]
  | (U, m) :: c, W, n, h => by
    have q := List.nodup_cons.mp (show (U :: keysC c).Nodup from h)
    unfold addC
    by_cases e : U = W
    · rw [if_pos e]; exact h
    · rw [if_neg e]
      show (U :: keysC (addC c W n)).Nodup
      refine List.nodup_cons.mpr ⟨fun z => ?_, nd_add q.2⟩
      rcases keys_add.mp z with z | z
      · exact q.1 z
      · exact e z
theorem len_add : ∀ {c : CT} {W : List Nat} {n : Nat}, (addC c W n).length ≤ c.length + 1
  | [], W, n => Nat.le_refl _
  | (U, m) :: c, W, n => by
    unfold addC
    split
    · simp
    · rw [List.length_cons, List.length_cons]
      have := len_add (c := c) (W := W) (n := n)
      omega
theorem valT_get : ∀ {c : CT} {W : List Nat}, ((dGetT (kvT c) (keyT W)).getD (.int 0)) = .int ((getC c W : Nat) : Int)
  | [], W => rfl
  | (U, m) :: c, W => by
    show ((dGetT ((keyT U, PyData.int ((m : Nat) : Int)) :: kvT c) (keyT W)).getD (.int 0)) = _
    unfold dGetT
    rw [valT_cons]
    unfold getC
    by_cases e : U = W
    · rw [if_pos (by rw [e]), if_pos e]; rfl
    · rw [if_neg (fun z => e (keyT_inj z)), if_neg e]; exact valT_get (c := c)
theorem valT_some : ∀ {c : CT} {W : List Nat}, (valT (kvT c) (keyT W)).isSome = decide (W ∈ keysC c)
  | [], W => rfl
  | (U, m) :: c, W => by
    show (valT ((keyT U, PyData.int ((m : Nat) : Int)) :: kvT c) (keyT W)).isSome = _
    rw [valT_cons]
    by_cases e : U = W
    · rw [if_pos (by rw [e])]
      exact (decide_eq_true (by rw [e]; exact List.mem_cons_self)).symm
    · rw [if_neg (fun z => e (keyT_inj z)), valT_some (c := c)]
      refine decide_eq_decide.mpr ⟨fun h => List.mem_cons_of_mem _ h, fun h => ?_⟩
      rcases List.mem_cons.mp h with z | z
      · exact absurd z.symm e
      · exact z
theorem map_idW : ∀ {c : CT} {W : List Nat} {v : PyData}, W ∉ keysC c → (kvT c).map (fun kv => if kv.1 = keyT W then (kv.1, v) else kv) = kvT c
  | [], W, v, _ => rfl
  | (U, m) :: c, W, v, h => by
    have h1 : ¬ U = W := fun z => h (by rw [← z]; exact List.mem_cons_self)
    show (if keyT U = keyT W then (keyT U, v) else (keyT U, PyData.int ((m : Nat) : Int))) :: (kvT c).map _ = _
    rw [if_neg (fun z => h1 (keyT_inj z)), map_idW (c := c) fun z => h (List.mem_cons_of_mem _ z)]
    rfl
theorem put_add : ∀ {c : CT} {W : List Nat} {n : Nat}, (keysC c).Nodup → dPutT (kvT c) (keyT W) (.int ((getC c W + n : Nat) : Int)) = kvT (addC c W n)
  | [], W, n, _ => by
    unfold dPutT
    rw [if_neg (by simp [kvT, valT])]
    simp [kvT, addC, getC]
  | (U, m) :: c, W, n, h => by
    have q := List.nodup_cons.mp (show (U :: keysC c).Nodup from h)
    have ih := put_add (c := c) (W := W) (n := n) q.2
    unfold dPutT at ih ⊢
    rw [valT_some] at ih ⊢
    unfold getC addC
    by_cases e : U = W
    · subst e
      rw [if_pos (decide_eq_true (show U ∈ keysC ((U, m) :: c) from List.mem_cons_self)), if_pos rfl, if_pos rfl]
      show (if keyT U = keyT U then (keyT U, PyData.int ((m + n : Nat) : Int)) else (keyT U, PyData.int ((m : Nat) : Int))) :: (kvT c).map _ = _
      rw [if_pos rfl, map_idW q.1]
      rfl
    · rw [if_neg e, if_neg e]
      have ed : decide (W ∈ keysC ((U, m) :: c)) = decide (W ∈ keysC c) := decide_eq_decide.mpr ⟨fun z => (List.mem_cons.mp z).elim (fun z => absurd z.symm e) id, fun z => List.mem_cons_of_mem _ z⟩
      rw [ed]
      show (if decide (W ∈ keysC c) = true then (if keyT U = keyT W then (keyT U, _) else (keyT U, PyData.int ((m : Nat) : Int))) :: (kvT c).map _ else (keyT U, PyData.int ((m : Nat) : Int)) :: kvT c ++ _) = (keyT U, PyData.int ((m : Nat) : Int)) :: kvT (addC c W n)
      rw [if_neg (fun z => e (keyT_inj z)), ← ih]
      by_cases z : decide (W ∈ keysC c) = true
      · rw [if_pos z, if_pos z]
      · rw [if_neg z, if_neg z]; rfl
def wsum (g : List Nat → Nat) (c : CT) : Nat := (c.map fun p => p.2 * g p.1).sum
theorem wsum_add {g : List Nat → Nat} : ∀ {c : CT} {W : List Nat} {n : Nat}, wsum g (addC c W n) = wsum g c + n * g W
  | [], W, n => by simp [wsum, addC]
  | (U, m) :: c, W, n => by
    unfold addC
    by_cases e : U = W
    · rw [if_pos e]
      simp only [wsum, List.map_cons, List.sum_cons]
      rw [e, Nat.add_mul]
      omega
    · rw [if_neg e]
      have ih := wsum_add (g := g) (c := c) (W := W) (n := n)
      simp only [wsum, List.map_cons, List.sum_cons] at ih ⊢
      omega
theorem ints_kv : ∀ {c : CT}, intsOf ((kvT c).map (·.2)) = some (c.map fun p => ((p.2 : Nat) : Int))
  | [] => rfl
  | (U, m) :: c => by
    show intsOf (PyData.int ((m : Nat) : Int) :: (kvT c).map (·.2)) = _
    unfold intsOf
    rw [ints_kv (c := c)]
    rfl
theorem sum_kv : ∀ {c : CT}, (c.map fun p => ((p.2 : Nat) : Int)).sum = ((wsum (fun _ => 1) c : Nat) : Int)
  | [] => rfl
  | (U, m) :: c => by
    have ih := sum_kv (c := c)
    rw [List.map_cons, List.sum_cons, ih]
    simp [wsum]
def addN (os : List Nat) (c : Int) (W : List Nat) (n : Nat) (ds : List Nat) (acc : CT) : CT := ds.foldl (fun acc d => if ((dep os d : Nat) : Int) = c then addC acc (leftW os W d) n else acc) acc
def stepN (os : List Nat) (c : Int) (now acc : CT) : CT := now.foldl (fun acc p => addN os c p.1 p.2 p.1 acc) acc
def cwN (os : List Nat) (cs : List Int) (now : CT) : CT := cs.foldl (fun now c => stepN os c now []) now
structure GoodC (os : List Nat) (c : CT) : Prop where
  nd : (keysC c).Nodup
  le : ∀ W ∈ keysC c, (∀ d ∈ W, d ≤ os.length) ∧ W.length ≤ 7
theorem GoodC.nil {os : List Nat} : GoodC os [] := ⟨List.nodup_nil, fun W h => by cases h⟩
theorem GoodC.add {os : List Nat} {c : CT} (h : GoodC os c) {W : List Nat} {n : Nat} (hW : (∀ d ∈ W, d ≤ os.length) ∧ W.length ≤ 7) : GoodC os (addC c W n) :=
  ⟨nd_add h.nd, fun V z => (keys_add.mp z).elim (h.le V) fun e => e ▸ hW⟩
theorem good_left {os W : List Nat} {d : Nat} (hW : (∀ d ∈ W, d ≤ os.length) ∧ W.length ≤ 7) : (∀ e ∈ leftW os W d, e ≤ os.length) ∧ (leftW os W d).length ≤ 7 :=
  ⟨fun e z => hW.1 e (left_sub z), Nat.le_trans left_len hW.2⟩
def q_ic_W : SS := sIf (sTst (sBin gEq (sBin gIx (sVar 4) (sVar 10)) (sVar 6))) (sDtPt 7 (sVar 12) (sBin gAdd (sDtGd 7 (sVar 12) (sK (.int 0))) (sVar 9))) sNx
def g_ic_W : GT := gTp (gNC (gNm 10) (gNC (gNm 11) (gNC (gNm 12) gN0)))
def g_oc_W : GT := gTp (gNC (gNm 8) (gNC (gNm 9) gN0))
def q_nn_W (M : Mf) : SN := sIL (sNE (sCallN M (sGv (sVar 0) (sGv (sVar 8) sG0))))
def q_oc_W (M : Mf) : SS := sFor (q_nn_W M) g_ic_W q_ic_W
def q_cc_W (M : Mf) : SS := sSeq (sDtNew 7) (sSeq (sForT 5 g_oc_W (q_oc_W M)) (sDtMv 5 7))
section
variable {s0 s1 s2 s3 s4 s5 s6 s7 s8 s9 s10 s11 s12 : Sl} {Lv L : List PyData} {kv : List (NK × PyData)} {κ : NK} {d e c n g : Int} {v w x : PyData}
theorem t_ict_W (a : atI Lv d = some (.int c)) (hl : kv.length < 16000000) (ht : toT (.tuple L) = some κ) (hg : (dGetT kv κ).getD (.int 0) = .int g) :
    q_ic_W [s0, s1, s2, s3, .val (.list Lv), s5, .val (.int c), .nst (.dt kv), s8, .val (.int n), .val (.int d), s11, .val (.tuple L)] = .nx [s0, s1, s2, s3, .val (.list Lv), s5, .val (.int c), .nst (.dt (dPutT kv κ (.int (g + n)))), s8, .val (.int n), .val (.int d), s11, .val (.tuple L)] := by
  have h : kv.length < 16777216 := by omega
  simp [q_ic_W, a, ht, hg, h, sizeLine]
theorem t_icf_W (a : atI Lv d = some (.int e)) (hne : ¬ e = c) :
    q_ic_W [s0, s1, s2, s3, .val (.list Lv), s5, .val (.int c), s7, s8, s9, .val (.int d), s11, s12] = .nx [s0, s1, s2, s3, .val (.list Lv), s5, .val (.int c), s7, s8, s9, .val (.int d), s11, s12] := by
  simp [q_ic_W, a, hne]
theorem t_gic_W (b10 : bare (some s10) = true) (b11 : bare (some s11) = true) (b12 : bare (some s12) = true) : g_ic_W (.tuple [v, w, x]) [s0, s1, s2, s3, s4, s5, s6, s7, s8, s9, s10, s11, s12] = .nx [s0, s1, s2, s3, s4, s5, s6, s7, s8, s9, .val v, .val w, .val x] := by
  simp [g_ic_W, gTp, gNC, gN0, b10, b11, b12]
theorem t_goc_W (b8 : bare (some s8) = true) (b9 : bare (some s9) = true) : g_oc_W (.tuple [v, w]) [s0, s1, s2, s3, s4, s5, s6, s7, s8, s9, s10, s11, s12] = .nx [s0, s1, s2, s3, s4, s5, s6, s7, .val v, .val w, s10, s11, s12] := by
  simp [g_oc_W, gTp, gNC, gN0, b8, b9]
theorem t_nn_W {M : Mf} {o a : PyData} {T : En} (e : M [.val o, .val a] = .ok (.own L) T) : q_nn_W M [.val o, s1, s2, s3, s4, s5, s6, s7, .val a, s9, s10, s11, s12] = .ok L [.val o, s1, s2, s3, s4, s5, s6, s7, .val a, s9, s10, s11, s12] := by simp [q_nn_W, e]
end
section
variable {os : List Nat} {s1 s2 s3 : Sl}
theorem dep_atN {d : Nat} (hd : d ≤ os.length) : atI (nts (depL os)) (d : Nat) = some (.int ((dep os d : Nat) : Int)) := by
  have := depL_len _ os rfl
  exact nts_atN (l := depL os) (k := d) (by omega)
theorem ic_loop_W {c : Int} {W : List Nat} (hW : (∀ d ∈ W, d ≤ os.length) ∧ W.length ≤ 7) {n : Nat} {x8 : Sl} : ∀ {ds : List Nat} {acc : CT} {x10 x11 x12 : Sl}, (∀ d ∈ ds, d ≤ os.length) → GoodC os acc → acc.length + ds.length < 16000000 → bare (some x10) = true → bare (some x11) = true → bare (some x12) = true →
    ∃ y10 y11 y12, bare (some y10) = true ∧ bare (some y11) = true ∧ bare (some y12) = true ∧ GoodC os (addN os c W n ds acc) ∧ (addN os c W n ds acc).length ≤ acc.length + ds.length ∧
      loopL g_ic_W q_ic_W (ds.map (nextD os W)) [vO os, s1, s2, s3, .val (.list (nts (depL os))), .nil, .val (.int c), .nst (.dt (kvT acc)), x8, .val (.int (n : Nat)), x10, x11, x12] = .nx [vO os, s1, s2, s3, .val (.list (nts (depL os))), .nil, .val (.int c), .nst (.dt (kvT (addN os c W n ds acc))), x8, .val (.int (n : Nat)), y10, y11, y12]
  | [], acc, x10, x11, x12, _, g, _, b10, b11, b12 => ⟨x10, x11, x12, b10, b11, b12, g, Nat.le_refl _, rfl⟩
  | d :: ds, acc, x10, x11, x12, hd, g, hl, b10, b11, b12 => by
    rw [List.length_cons] at hl
    have hd0 := hd d List.mem_cons_self
    have e0 := t_gic_W (s0 := vO os) (s1 := s1) (s2 := s2) (s3 := s3) (s4 := .val (.list (nts (depL os)))) (s5 := .nil) (s6 := .val (.int c)) (s7 := .nst (.dt (kvT acc))) (s8 := x8) (s9 := .val (.int (n : Nat))) (v := .int (d : Nat)) (w := .bool (psd os W d)) (x := .tuple (nts (leftW os W d))) b10 b11 b12
    have a := dep_atN (os := os) hd0
    by_cases q : ((dep os d : Nat) : Int) = c
    · have eA : addN os c W n (d :: ds) acc = addN os c W n ds (addC acc (leftW os W d) n) := by
        unfold addN
        rw [List.foldl_cons, if_pos q]
      have l1 := len_add (c := acc) (W := leftW os W d) (n := n)
      have e1 := t_ict_W (s0 := vO os) (s1 := s1) (s2 := s2) (s3 := s3) (s5 := .nil) (s8 := x8) (s11 := .val (.bool (psd os W d))) (n := (n : Nat)) (q ▸ a) (by unfold kvT; rw [List.length_map]; omega) (toT_nts (leftW os W d)) (valT_get (c := acc))
      rw [show ((getC acc (leftW os W d) : Nat) : Int) + ((n : Nat) : Int) = ((getC acc (leftW os W d) + n : Nat) : Int) by omega, put_add g.nd] at e1
      obtain ⟨y10, y11, y12, c10, c11, c12, g', l', ih⟩ := ic_loop_W (c := c) hW (n := n) (x8 := x8) (ds := ds) (acc := addC acc (leftW os W d) n) (x10 := .val (.int (d : Nat))) (x11 := .val (.bool (psd os W d))) (x12 := .val (.tuple (nts (leftW os W d)))) (fun z hz => hd z (List.mem_cons_of_mem _ hz)) (g.add (good_left hW)) (by omega) rfl rfl rfl
      refine ⟨y10, y11, y12, c10, c11, c12, eA ▸ g', by rw [eA, List.length_cons]; omega, ?_⟩
      rw [eA, List.map_cons]
      exact (loop_nxP e0 e1).trans ih
    · have eA : addN os c W n (d :: ds) acc = addN os c W n ds acc := by
        unfold addN
        rw [List.foldl_cons, if_neg q]
      have e1 := t_icf_W (s0 := vO os) (s1 := s1) (s2 := s2) (s3 := s3) (s5 := .nil) (s7 := .nst (.dt (kvT acc))) (s8 := x8) (s9 := .val (.int (n : Nat))) (s11 := .val (.bool (psd os W d))) (s12 := .val (.tuple (nts (leftW os W d)))) a q
      obtain ⟨y10, y11, y12, c10, c11, c12, g', l', ih⟩ := ic_loop_W (c := c) hW (n := n) (x8 := x8) (ds := ds) (acc := acc) (x10 := .val (.int (d : Nat))) (x11 := .val (.bool (psd os W d))) (x12 := .val (.tuple (nts (leftW os W d)))) (fun z hz => hd z (List.mem_cons_of_mem _ hz)) g (by omega) rfl rfl rfl
      refine ⟨y10, y11, y12, c10, c11, c12, eA ▸ g', by rw [eA, List.length_cons]; omega, ?_⟩
      rw [eA, List.map_cons]
      exact (loop_nxP e0 e1).trans ih
theorem its_cons_W {p : List Nat × Nat} {c : CT} : itsT (kvT (p :: c)) = .tuple [.tuple (nts p.1), .int ((p.2 : Nat) : Int)] :: itsT (kvT c) := by
  unfold itsT kvT
  rw [List.map_cons, List.map_cons, keyT_D]
theorem oc_loop_W (h : Off os) {c : Int} : ∀ {now acc : CT} {x8 x9 x10 x11 x12 : Sl}, GoodC os now → GoodC os acc → acc.length + now.length * 7 < 16000000 → bare (some x8) = true → bare (some x9) = true → bare (some x10) = true → bare (some x11) = true → bare (some x12) = true →
    ∃ y8 y9 y10 y11 y12, bare (some y8) = true ∧ bare (some y9) = true ∧ bare (some y10) = true ∧ bare (some y11) = true ∧ bare (some y12) = true ∧ GoodC os (stepN os c now acc) ∧ (stepN os c now acc).length ≤ acc.length + now.length * 7 ∧
      loopL g_oc_W (q_oc_W m_next_calls) (itsT (kvT now)) [vO os, s1, s2, s3, .val (.list (nts (depL os))), .nil, .val (.int c), .nst (.dt (kvT acc)), x8, x9, x10, x11, x12] = .nx [vO os, s1, s2, s3, .val (.list (nts (depL os))), .nil, .val (.int c), .nst (.dt (kvT (stepN os c now acc))), y8, y9, y10, y11, y12]
  | [], acc, x8, x9, x10, x11, x12, _, g, _, b8, b9, b10, b11, b12 => ⟨x8, x9, x10, x11, x12, b8, b9, b10, b11, b12, g, Nat.le_refl _, rfl⟩
  | (W, n) :: now, acc, x8, x9, x10, x11, x12, gn, g, hl, b8, b9, b10, b11, b12 => by
    rw [List.length_cons] at hl
    have hW := gn.le W List.mem_cons_self
    have e0 := t_goc_W (s0 := vO os) (s1 := s1) (s2 := s2) (s3 := s3) (s4 := .val (.list (nts (depL os)))) (s5 := .nil) (s6 := .val (.int c)) (s7 := .nst (.dt (kvT acc))) (s10 := x10) (s11 := x11) (s12 := x12) (v := .tuple (nts W)) (w := .int (n : Nat)) b8 b9
    obtain ⟨T, e⟩ := nextc_ok h hW.1 (by omega)
    have e1 := t_nn_W (s1 := s1) (s2 := s2) (s3 := s3) (s4 := .val (.list (nts (depL os)))) (s5 := .nil) (s6 := .val (.int c)) (s7 := .nst (.dt (kvT acc))) (s9 := .val (.int (n : Nat))) (s10 := x10) (s11 := x11) (s12 := x12) e
    obtain ⟨z10, z11, z12, d10, d11, d12, g1, l1, e2⟩ := ic_loop_W (s1 := s1) (s2 := s2) (s3 := s3) (c := c) hW (n := n) (x8 := .val (.tuple (nts W))) (ds := W) (acc := acc) hW.1 g (by omega) b10 b11 b12
    obtain ⟨y8, y9, y10, y11, y12, c8, c9, c10, c11, c12, g', l', ih⟩ := oc_loop_W h (c := c) (now := now) (acc := addN os c W n W acc) (x8 := .val (.tuple (nts W))) (x9 := .val (.int (n : Nat))) ⟨(List.nodup_cons.mp gn.nd).2, fun V hV => gn.le V (List.mem_cons_of_mem _ hV)⟩ g1 (by omega) rfl rfl d10 d11 d12
    refine ⟨y8, y9, y10, y11, y12, c8, c9, c10, c11, c12, g', by rw [List.length_cons]; show (stepN os c now (addN os c W n W acc)).length ≤ _; omega, ?_⟩
    rw [its_cons_W, loop_nxP e0 (show q_oc_W m_next_calls _ = _ from by rw [q_oc_W, r_sFor, e1, stt_ok, e2])]
    exact ih
theorem cc_loop_W (h : Off os) : ∀ {cs : List Int} {now : CT} {x6 x7 x8 x9 x10 x11 x12 : Sl} {m : Nat}, GoodC os now → now.length ≤ m → m * 7 ^ cs.length < 16000000 → bare (some x6) = true → bare (some x7) = true → bare (some x8) = true → bare (some x9) = true → bare (some x10) = true → bare (some x11) = true → bare (some x12) = true →
    ∃ y6 y7 y8 y9 y10 y11 y12, loopL (gNm 6) (q_cc_W m_next_calls) (cs.map PyData.int) [vO os, s1, s2, s3, .val (.list (nts (depL os))), .nst (.dt (kvT now)), x6, x7, x8, x9, x10, x11, x12] = .nx [vO os, s1, s2, s3, .val (.list (nts (depL os))), .nst (.dt (kvT (cwN os cs now))), y6, y7, y8, y9, y10, y11, y12]
  | [], now, x6, x7, x8, x9, x10, x11, x12, m, _, _, _, _, _, _, _, _, _, _ => ⟨x6, x7, x8, x9, x10, x11, x12, rfl⟩
  | c :: cs, now, x6, x7, x8, x9, x10, x11, x12, m, g, hm, h0, b6, b7, b8, b9, b10, b11, b12 => by
    rw [List.length_cons, Nat.pow_succ] at h0
    have p1 : 1 ≤ 7 ^ cs.length := Nat.one_le_pow _ _ (by decide)
    have p2 : m ≤ m * 7 ^ cs.length := Nat.le_mul_of_pos_right _ p1
    have p3 : m * (7 ^ cs.length * 7) = m * 7 ^ cs.length * 7 := by rw [Nat.mul_assoc]
    have p5 : m * 7 ≤ m * 7 ^ cs.length * 7 := Nat.mul_le_mul_right _ p2
    have p4 : m * 7 * 7 ^ cs.length = m * 7 ^ cs.length * 7 := by rw [Nat.mul_assoc, Nat.mul_comm 7, ← Nat.mul_assoc]
    have e0 : gNm 6 (.int c) [vO os, s1, s2, s3, .val (.list (nts (depL os))), .nst (.dt (kvT now)), x6, x7, x8, x9, x10, x11, x12] = .nx [vO os, s1, s2, s3, .val (.list (nts (depL os))), .nst (.dt (kvT now)), .val (.int c), x7, x8, x9, x10, x11, x12] := by
      generalize nts (depL os) = Z
      generalize kvT now = Y
      simp [b6]
    obtain ⟨y8, y9, y10, y11, y12, c8, c9, c10, c11, c12, g', l', e⟩ := oc_loop_W (s1 := s1) (s2 := s2) (s3 := s3) h (c := c) (now := now) (acc := []) g GoodC.nil (by rw [List.length_nil]; omega) b8 b9 b10 b11 b12
    rw [List.length_nil] at l'
    obtain ⟨z6, z7, z8, z9, z10, z11, z12, ih⟩ := cc_loop_W h (cs := cs) (now := stepN os c now []) (x6 := .val (.int c)) (x7 := .nil) (m := m * 7) g' (by omega) (by rw [p4]; omega) rfl rfl c8 c9 c10 c11 c12
    refine ⟨z6, z7, z8, z9, z10, z11, z12, ?_⟩
    have s1' : sDtNew 7 [vO os, s1, s2, s3, .val (.list (nts (depL os))), .nst (.dt (kvT now)), .val (.int c), x7, x8, x9, x10, x11, x12] = .nx [vO os, s1, s2, s3, .val (.list (nts (depL os))), .nst (.dt (kvT now)), .val (.int c), .nst (.dt []), x8, x9, x10, x11, x12] := by
      generalize nts (depL os) = Z
      generalize kvT now = Y
      simp [noio_bare b7]
    have s2' : sForT 5 g_oc_W (q_oc_W m_next_calls) [vO os, s1, s2, s3, .val (.list (nts (depL os))), .nst (.dt (kvT now)), .val (.int c), .nst (.dt []), x8, x9, x10, x11, x12] = loopL g_oc_W (q_oc_W m_next_calls) (itsT (kvT now)) [vO os, s1, s2, s3, .val (.list (nts (depL os))), .nil, .val (.int c), .nst (.dt []), x8, x9, x10, x11, x12] := by
      rw [r_sForT]
      rfl
    have s3' : ∀ Y, sDtMv 5 7 [vO os, s1, s2, s3, .val (.list (nts (depL os))), .nil, .val (.int c), .nst (.dt Y), y8, y9, y10, y11, y12] = .nx [vO os, s1, s2, s3, .val (.list (nts (depL os))), .nst (.dt Y), .val (.int c), .nil, y8, y9, y10, y11, y12] := fun Y => by
      generalize nts (depL os) = Z
      simp
    rw [List.map_cons, loop_nxP e0 (show q_cc_W m_next_calls _ = _ from by
      rw [q_cc_W, r_sSeq, s1', sq_nx, r_sSeq, s2', show ([] : List (NK × PyData)) = kvT [] from rfl, e, sq_nx, s3'])]
    exact ih
end
end Ds
end
section
set_option Elab.async false
set_option linter.all false
set_option maxRecDepth 100000
set_option maxHeartbeats 1000000
open PySem PySem.Spec PyProof.Rows L2
namespace Ds
section
variable {os : List Nat}
def q_dpW : SS := sDrop (sAppend 1 (sBin gAdd (sIxV 1 (sVar 2)) (sK (.int 1))))
theorem c_dpW_eq : c_depths = sSeq (sSetNew 1 (sLst (sCons (sK (.int 0)) sNil))) (sSeq (sFor (sISq (sVar 0)) (gNm 2) q_dpW) (sRetOwn 1)) := rfl
theorem t_dpW {L : List PyData} {u : Int} {v : Int} {s0 : Sl} (e : atI L u = some (.int v)) (hL : L.length < 16777216) : q_dpW [s0, .own L, .val (.int u)] = .nx [s0, .own (L ++ [.int (v + 1)]), .val (.int u)] := by
  simp [q_dpW, e, sizeLine, hL]
theorem depths_okW (h : Off os) : ∃ T, m_depths [vO os] = .ok (.own (nts (depL os))) T := by
  have h39 := h.1
  obtain ⟨S', el, x2, b2, rfl⟩ := loop_inv (g := gNm 2) (b := q_dpW) (ds := nts os) (P := fun i S => ∃ x2, bare (some x2) = true ∧ S = [vO os, .own (nts (depL (os.take i))), x2]) (S := [vO os, .own [.int 0], .nil]) ⟨.nil, rfl, rfl⟩ fun i z S hz hS => by
    obtain ⟨x2, b2, rfl⟩ := hS
    rw [nts_get] at hz
    cases q : os[i]? with
    | none => rw [q] at hz; cases hz
    | some u =>
      rw [q] at hz
      cases hz
      have li := (List.getElem?_eq_some_iff.mp q).1
      have uq := h.2 i u q
      have tl : (os.take i).length = i := by rw [List.length_take]; omega
      have dl := depL_len i (os.take i) tl
      have tk : os.take (i + 1) = os.take i ++ [u] := by
        rw [List.take_succ_eq_append_getElem li]
        rw [List.getElem?_eq_getElem li] at q
        rw [Option.some.inj q]
      refine ⟨[vO os, .own (nts (depL (os.take i))), .val (.int (u : Nat))], _, by simp [b2], t_dpW (nts_atN (k := u) (by omega)) (by rw [nts_len]; omega), .val (.int (u : Nat)), rfl, ?_⟩
      rw [tk, depL_snoc]
      congr 2
      congr 1
      unfold nts
      rw [List.map_append]
      rfl
  refine ⟨[vO os, .own (nts (depL os)), x2], ?_⟩
  rw [m_depths, r_mB]
  show (c_depths [vO os, .nil, .nil]).fin = _
  have s1 : sSetNew 1 (sLst (sCons (sK (.int 0)) sNil)) [vO os, .nil, .nil] = .nx [vO os, .own [.int 0], .nil] := by simp [sizeLine]
  have s2 : sISq (sVar 0) [vO os, .own [.int 0], .nil] = .ok (nts os) [vO os, .own [.int 0], .nil] := by simp
  rw [nts_len, List.take_length] at el
  rw [c_dpW_eq, r_sSeq, s1, sq_nx, r_sSeq, r_sFor, s2, stt_ok, el, sq_nx]
  simp
end
def q_t4_W : SS := (sSet 4 (sNE (sCallN m_depths (sGv (sVar 0) sG0))))
def q_t5_W : SS := (sDt1 5 (sTupRg (sCallB gLen (sCons (sVar 1) sNil))) (sK (.int 1)))
def q_t6_W : SS := (sFor (sISq (sVar 3)) (gNm 6) (q_cc_W m_next_calls))
def q_t7_W : SS := (sRet (sBin gMul (sSumT 5) (sCallB gFac (sCons (sBin gSub_ (sCallB gLen (sCons (sVar 1) sNil)) (sCallB gLen (sCons (sVar 2) sNil))) sNil))))
def q_tail_W : SS := sSeq q_t4_W (sSeq q_t5_W (sSeq q_t6_W q_t7_W))
section
variable {s0 s1 s2 s3 s4 s5 s6 s7 s8 s9 s10 s11 s12 : Sl} {O L A B : List PyData} {kv : List (NK × PyData)} {o : PyData}
theorem t_t4_W {M : Mf} {T : En} (e : M [.val o] = .ok (.own L) T) : sSet 4 (sNE (sCallN M (sGv (sVar 0) sG0))) [.val o, s1, s2, s3, .nil, s5, s6, s7, s8, s9, s10, s11, s12] = .nx [.val o, s1, s2, s3, .val (.list L), s5, s6, s7, s8, s9, s10, s11, s12] := by simp [e]
theorem t_t5_W {n : Int} {R : List PyData} {κ : NK} (hn : (A.length : Int) = n) (h0 : 0 ≤ n) (h1 : n ≤ 16777216) (e : rng 0 n = R) (ht : toT (.tuple R) = some κ) : q_t5_W [s0, .val (.tuple A), s2, s3, s4, .nil, s6, s7, s8, s9, s10, s11, s12] = .nx [s0, .val (.tuple A), s2, s3, s4, .nst (.dt [(κ, .int 1)]), s6, s7, s8, s9, s10, s11, s12] := by
  simp [q_t5_W, hn, h0, h1, e, ht]
theorem t_t7_W {ns : List Int} {m : Int} {f : Int} {z : PyData} (e : intsOf (kv.map (·.2)) = some ns) (hm : (A.length : Int) - (B.length : Int) = m) (hf : gFac [.int m] = some (.int f)) (hz : gMul (.int ns.sum) (.int f) = some z) : q_t7_W [s0, .val (.tuple A), .val (.tuple B), s3, s4, .nst (.dt kv), s6, s7, s8, s9, s10, s11, s12] = .rt (.val z) [s0, .val (.tuple A), .val (.tuple B), s3, s4, .nst (.dt kv), s6, s7, s8, s9, s10, s11, s12] := by
  simp only [q_t7_W, r_sRet, r_sBin, r_sSumT, List.getElem?_cons_succ, List.getElem?_cons_zero, dtt?_n, e, bnd_ok]
  simp [hm, hf, hz]
end
section
variable {os : List Nat} {ss ord : List Str}
theorem wadd_le {c : Int} {W : List Nat} {n : Nat} : ∀ {ds : List Nat} {acc : CT}, wsum (fun _ => 1) (addN os c W n ds acc) ≤ wsum (fun _ => 1) acc + n * ds.length
  | [], acc => Nat.le_add_right _ _
  | d :: ds, acc => by
    show wsum _ (addN os c W n ds (if ((dep os d : Nat) : Int) = c then addC acc (leftW os W d) n else acc)) ≤ _
    refine Nat.le_trans wadd_le ?_
    rw [List.length_cons, Nat.mul_add, Nat.mul_one]
    by_cases q : ((dep os d : Nat) : Int) = c
    · rw [if_pos q, wsum_add]; omega
    · rw [if_neg q]; omega
theorem good_addN {c : Int} {W : List Nat} (hW : (∀ d ∈ W, d ≤ os.length) ∧ W.length ≤ 7) {n : Nat} : ∀ {ds : List Nat} {acc : CT}, GoodC os acc → GoodC os (addN os c W n ds acc)
  | [], acc, g => g
  | d :: ds, acc, g => by
    show GoodC os (addN os c W n ds (if ((dep os d : Nat) : Int) = c then addC acc (leftW os W d) n else acc))
    by_cases q : ((dep os d : Nat) : Int) = c
    · rw [if_pos q]; exact good_addN hW (g.add (good_left hW))
    · rw [if_neg q]; exact good_addN hW g
theorem GoodC.tail {os : List Nat} {p : List Nat × Nat} {c : CT} (h : GoodC os (p :: c)) : GoodC os c := ⟨(List.nodup_cons.mp h.nd).2, fun V hV => h.le V (List.mem_cons_of_mem _ hV)⟩
theorem good_step {c : Int} : ∀ {now acc : CT}, GoodC os now → GoodC os acc → GoodC os (stepN os c now acc)
  | [], acc, _, g => g
  | p :: now, acc, gn, g => show GoodC os (stepN os c now (addN os c p.1 p.2 p.1 acc)) from good_step (GoodC.tail gn) (good_addN (gn.le p.1 List.mem_cons_self) g)
theorem wstep_le {c : Int} : ∀ {now acc : CT}, GoodC os now → wsum (fun _ => 1) (stepN os c now acc) ≤ wsum (fun _ => 1) acc + 7 * wsum (fun _ => 1) now
  | [], acc, _ => Nat.le_add_right _ _
  | p :: now, acc, gn => by
    have h1 := wstep_le (c := c) (now := now) (acc := addN os c p.1 p.2 p.1 acc) gn.tail
    have h2 := wadd_le (os := os) (c := c) (W := p.1) (n := p.2) (ds := p.1) (acc := acc)
    have h3 := (gn.le p.1 List.mem_cons_self).2
    have h4 : p.2 * p.1.length ≤ p.2 * 7 := Nat.mul_le_mul_left _ h3
    show wsum _ (stepN os c now (addN os c p.1 p.2 p.1 acc)) ≤ wsum _ acc + 7 * wsum (fun _ => 1) (p :: now)
    have e : wsum (fun _ => 1) (p :: now) = p.2 + wsum (fun _ => 1) now := by simp [wsum]
    rw [e, Nat.mul_add]
    omega
theorem good_cw : ∀ {cs : List Int} {now : CT}, GoodC os now → GoodC os (cwN os cs now) ∧ wsum (fun _ => 1) (cwN os cs now) ≤ 7 ^ cs.length * wsum (fun _ => 1) now
  | [], now, g => ⟨g, by simp [cwN]⟩
  | c :: cs, now, g => by
    obtain ⟨h1, h2⟩ := good_cw (cs := cs) (good_step (c := c) g (GoodC.nil (os := os)))
    refine ⟨h1, Nat.le_trans h2 ?_⟩
    have h3 := wstep_le (c := c) (acc := []) g
    have e : wsum (fun _ => 1) ([] : CT) = 0 := rfl
    rw [e, Nat.zero_add] at h3
    rw [List.length_cons, Nat.pow_succ, Nat.mul_assoc]
    exact Nat.mul_le_mul_left _ h3
theorem fac7_W : ∀ m, m ≤ 7 → facN m ≤ 5040 := by decide
theorem rng_ntsW {n : Nat} : rng 0 ((n : Nat) : Int) = nts (List.range n) := by
  unfold rng nts
  rw [show (((n : Nat) : Int) - 0).toNat = n by omega]
  refine List.map_congr_left fun i _ => ?_
  rw [Int.zero_add]
theorem start_good_W (h : os.length + 1 ≤ 7) : GoodC os [(List.range (os.length + 1), 1)] :=
  ⟨by simp [keysC], fun W hW => by
    obtain rfl : W = List.range (os.length + 1) := by simpa [keysC] using hW
    exact ⟨fun d hd => by have := List.mem_range.mp hd; omega, by rw [List.length_range]; exact h⟩⟩
abbrev totC (os : List Nat) (cs : List Int) : Nat := wsum (fun _ => 1) (cwN os cs [(List.range (os.length + 1), 1)])
theorem tail_ok_W (c : Case os ss ord) (h7 : ss.length ≤ 7) {cs : List Int} (hc : cs.length = ord.length) :
    ∃ T, q_tail_W [vO os, vS ss, vS ord, .val (.tuple (cs.map PyData.int)), .nil, .nil, .nil, .nil, .nil, .nil, .nil, .nil, .nil] = .rt (.val (.int ((totC os cs * facN (ss.length - ord.length) : Nat) : Int))) T := by
  have hl := c.len
  have ho := nodup_len_le c.ond c.osub
  obtain ⟨T1, e1⟩ := depths_okW c.off
  have g0 := start_good_W (os := os) (by omega)
  have k1 : 7 ^ cs.length ≤ 7 ^ 7 := Nat.pow_le_pow_right (by decide) (by omega)
  obtain ⟨y6, y7, y8, y9, y10, y11, y12, e6⟩ := cc_loop_W (s1 := vS ss) (s2 := vS ord) (s3 := .val (.tuple (cs.map PyData.int))) c.off (cs := cs) (now := [(List.range (os.length + 1), 1)]) (x6 := .nil) (x7 := .nil) (x8 := .nil) (x9 := .nil) (x10 := .nil) (x11 := .nil) (x12 := .nil) (m := 1) g0 (Nat.le_refl _)
    (by have : (7 : Nat) ^ 7 = 823543 := by decide
        omega) rfl rfl rfl rfl rfl rfl rfl
  obtain ⟨g1, w1⟩ := good_cw (cs := cs) g0
  have w1' : totC os cs ≤ 7 ^ cs.length := by
    have e : wsum (fun _ => 1) [(List.range (os.length + 1), 1)] = 1 := rfl
    rw [e, Nat.mul_one] at w1
    exact w1
  have p7 : (7 : Nat) ^ 7 = 823543 := by decide
  refine ⟨[vO os, vS ss, vS ord, .val (.tuple (cs.map PyData.int)), .val (.list (nts (depL os))), .nst (.dt (kvT (cwN os cs [(List.range (os.length + 1), 1)]))), y6, y7, y8, y9, y10, y11, y12], ?_⟩
  have q4 := t_t4_W (s1 := vS ss) (s2 := vS ord) (s3 := .val (.tuple (cs.map PyData.int))) (s5 := .nil) (s6 := .nil) (s7 := .nil) (s8 := .nil) (s9 := .nil) (s10 := .nil) (s11 := .nil) (s12 := .nil) e1
  have q5 := t_t5_W (s0 := vO os) (A := sts ss) (s2 := vS ord) (s3 := .val (.tuple (cs.map PyData.int))) (s4 := .val (.list (nts (depL os)))) (s6 := .nil) (s7 := .nil) (s8 := .nil) (s9 := .nil) (s10 := .nil) (s11 := .nil) (s12 := .nil) (n := ((os.length + 1 : Nat) : Int)) (by rw [sts_len]; omega) (by omega) (by omega) rng_ntsW (toT_nts _)
  have q6 : sISq (sVar 3) [vO os, vS ss, vS ord, .val (.tuple (cs.map PyData.int)), .val (.list (nts (depL os))), .nst (.dt (kvT [(List.range (os.length + 1), 1)])), .nil, .nil, .nil, .nil, .nil, .nil, .nil] = .ok (cs.map PyData.int) [vO os, vS ss, vS ord, .val (.tuple (cs.map PyData.int)), .val (.list (nts (depL os))), .nst (.dt (kvT [(List.range (os.length + 1), 1)])), .nil, .nil, .nil, .nil, .nil, .nil, .nil] := by
    generalize cs.map PyData.int = D
    generalize nts (depL os) = Z
    simp
  have f0 : gFac [.int ((ss.length - ord.length : Nat) : Int)] = some (.int ((facN (ss.length - ord.length) : Nat) : Int)) := by
    show (if 0 ≤ ((ss.length - ord.length : Nat) : Int) ∧ ((ss.length - ord.length : Nat) : Int) ≤ 20000 then some (PyData.int ((facN ((ss.length - ord.length : Nat) : Int).toNat : Nat) : Int)) else none) = _
    rw [if_pos ⟨by omega, by omega⟩, Int.toNat_natCast]
  have m0 : gMul (.int ((totC os cs : Nat) : Int)) (.int ((facN (ss.length - ord.length) : Nat) : Int)) = some (.int ((totC os cs * facN (ss.length - ord.length) : Nat) : Int)) := by
    have l1 := Nat.log2_le_self (totC os cs)
    have l2 := Nat.log2_le_self (facN (ss.length - ord.length))
    have l3 := fac7_W (ss.length - ord.length) (by omega)
    have hb : cMul ((totC os cs : Nat) : Int) ((facN (ss.length - ord.length) : Nat) : Int) = true := by
      show decide (((totC os cs : Nat) : Int).natAbs.log2 + ((facN (ss.length - ord.length) : Nat) : Int).natAbs.log2 < 1000000) = true
      rw [Int.natAbs_natCast, Int.natAbs_natCast]
      exact decide_eq_true (by omega)
    show (if cMul _ _ = true then some (PyData.int _) else none) = _
    rw [if_pos hb]
    exact congrArg (fun z => some (PyData.int z)) (Int.natCast_mul _ _).symm
  have q7 := t_t7_W (s0 := vO os) (A := sts ss) (B := sts ord) (s3 := .val (.tuple (cs.map PyData.int))) (s4 := .val (.list (nts (depL os)))) (s6 := y6) (s7 := y7) (s8 := y8) (s9 := y9) (s10 := y10) (s11 := y11) (s12 := y12) (kv := kvT (cwN os cs [(List.range (os.length + 1), 1)])) ints_kv (m := ((ss.length - ord.length : Nat) : Int)) (by rw [sts_len, sts_len]; omega) f0 (by rw [sum_kv]; exact m0)
  rw [q_tail_W, r_sSeq, show q_t4_W _ = _ from q4, sq_nx, r_sSeq, q5, sq_nx, r_sSeq, q_t6_W, r_sFor, show ([(keyT (List.range (os.length + 1)), PyData.int 1)] : List (NK × PyData)) = kvT [(List.range (os.length + 1), 1)] from rfl, q6, stt_ok, e6, sq_nx, q7]
end
end Ds
end
section
set_option Elab.async false
set_option linter.all false
set_option maxRecDepth 100000
set_option maxHeartbeats 1000000
open PySem PySem.Spec PyProof.Rows L2
namespace Ds
def SeqL (os : List Nat) : List Int → List Nat → List (List Nat)
  | [], _ => [[]]
  | c :: cs, W => W.flatMap fun d => if ((dep os d : Nat) : Int) = c then (SeqL os cs (leftW os W d)).map (d :: ·) else []
abbrev nS (os : List Nat) (cs : List Int) (W : List Nat) : Nat := (SeqL os cs W).length
section
variable {os : List Nat}
theorem nS_cons {c : Int} {cs : List Int} {W : List Nat} : nS os (c :: cs) W = (W.map fun d => if ((dep os d : Nat) : Int) = c then nS os cs (leftW os W d) else 0).sum := by
  show (W.flatMap _).length = _
  rw [List.length_flatMap]
  congr 1
  refine List.map_congr_left fun d _ => ?_
  by_cases h : ((dep os d : Nat) : Int) = c
  · rw [if_pos h, if_pos h, List.length_map]
  · rw [if_neg h, if_neg h]; rfl
theorem wsum_addN {g : List Nat → Nat} {c : Int} {W : List Nat} {n : Nat} : ∀ {ds : List Nat} {acc : CT}, wsum g (addN os c W n ds acc) = wsum g acc + n * (ds.map fun d => if ((dep os d : Nat) : Int) = c then g (leftW os W d) else 0).sum
  | [], acc => by simp [addN]
  | d :: ds, acc => by
    show wsum g (addN os c W n ds (if ((dep os d : Nat) : Int) = c then addC acc (leftW os W d) n else acc)) = _
    rw [wsum_addN, List.map_cons, List.sum_cons, Nat.mul_add]
    by_cases h : ((dep os d : Nat) : Int) = c
    · rw [if_pos h, if_pos h, wsum_add]; omega
    · rw [if_neg h, if_neg h]; omega
theorem wsum_step {c : Int} {cs : List Int} : ∀ {now acc : CT}, wsum (nS os cs) (stepN os c now acc) = wsum (nS os cs) acc + wsum (nS os (c :: cs)) now
  | [], acc => by simp [stepN, wsum]
  | p :: now, acc => by
    show wsum (nS os cs) (stepN os c now (addN os c p.1 p.2 p.1 acc)) = _
    rw [wsum_step, wsum_addN, ← nS_cons]
    have e : wsum (nS os (c :: cs)) (p :: now) = p.2 * nS os (c :: cs) p.1 + wsum (nS os (c :: cs)) now := by simp [wsum]
    rw [e]
    omega
theorem wsum_cw : ∀ {cs : List Int} {now : CT}, wsum (fun _ => 1) (cwN os cs now) = wsum (nS os cs) now
  | [], now => rfl
  | c :: cs, now => by
    show wsum (fun _ => 1) (cwN os cs (stepN os c now [])) = _
    rw [wsum_cw, wsum_step]
    have e : wsum (nS os cs) ([] : CT) = 0 := rfl
    omega
theorem tot_eq {cs : List Int} : totC os cs = nS os cs (List.range (os.length + 1)) := by
  rw [totC, wsum_cw]
  simp [wsum]
def upr (os : List Nat) (d : Nat) : Nat := os.getD (d - 1) 0
def tauW (os : List Nat) (d e : Nat) : Nat := if 0 < d then (if e = upr os d then d else if e = d then upr os d else e) else e
def swW (os m : List Nat) (d : Nat) : List Nat := if 0 < d then (m.set d (m.getD (upr os d) 0)).set (upr os d) (m.getD d 0) else m
def wtW (n : Nat) (m f : List Nat) : List Nat := (List.range n).filter fun e => decide (m.getD e 0 ∉ f)
def firstW (os : List Nat) : List Nat → List Nat → List Nat
  | [], _ => []
  | d :: ds, m => m.getD d 0 :: firstW os ds (swW os m d)
theorem upr_lt (h : Off os) {d : Nat} (h0 : 0 < d) (h1 : d ≤ os.length) : upr os d < d := by
  have := (off_at h h0 h1).2
  unfold upr
  omega
structure MapW (n : Nat) (m : List Nat) : Prop where
  len : m.length = n
  lt : ∀ e, e < n → m.getD e 0 < n
  inj : ∀ e e', e < n → e' < n → m.getD e 0 = m.getD e' 0 → e = e'
theorem getD_set {l : List Nat} {i j v : Nat} (hi : i < l.length) : (l.set i v).getD j 0 = if j = i then v else l.getD j 0 := by
  by_cases h : j = i
  · subst h
    rw [if_pos rfl]
    simp [List.getD, hi]
  · rw [if_neg h]
    simp [List.getD, List.getElem?_set_ne (Ne.symm h)]
theorem swW_get (h : Off os) {m : List Nat} (hm : m.length = os.length + 1) {d : Nat} (hd : d ≤ os.length) {e : Nat} : (swW os m d).getD e 0 = m.getD (tauW os d e) 0 := by
  unfold swW tauW
  by_cases h0 : 0 < d
  · have := upr_lt h h0 hd
    rw [if_pos h0, if_pos h0, getD_set (by rw [List.length_set]; omega), getD_set (by omega)]
    by_cases e1 : e = upr os d
    · rw [if_pos e1, if_pos e1]
    · rw [if_neg e1, if_neg e1]
      by_cases e2 : e = d
      · rw [if_pos e2, if_pos e2]
      · rw [if_neg e2, if_neg e2]
  · rw [if_neg h0, if_neg h0]
theorem tau_lt (h : Off os) {d e : Nat} (hd : d ≤ os.length) (he : e < os.length + 1) : tauW os d e < os.length + 1 := by
  unfold tauW
  by_cases h0 : 0 < d
  · have := upr_lt h h0 hd
    rw [if_pos h0]
    split
    · omega
    · split <;> omega
  · rw [if_neg h0]; exact he
theorem tau_inj (h : Off os) {d e e' : Nat} (hd : d ≤ os.length) (q : tauW os d e = tauW os d e') : e = e' := by
  unfold tauW at q
  by_cases h0 : 0 < d
  · have := upr_lt h h0 hd
    rw [if_pos h0, if_pos h0] at q
    split at q <;> split at q <;> (try split at q) <;> (try split at q) <;> omega
  · rw [if_neg h0, if_neg h0] at q; exact q
theorem MapW.sw (h : Off os) {m : List Nat} (M : MapW (os.length + 1) m) {d : Nat} (hd : d ≤ os.length) : MapW (os.length + 1) (swW os m d) :=
  ⟨by unfold swW; split <;> simp [M.len], fun e he => by rw [swW_get h M.len hd]; exact M.lt _ (tau_lt h hd he), fun e e' he he' q => by
    rw [swW_get h M.len hd, swW_get h M.len hd] at q
    exact tau_inj h hd (M.inj _ _ (tau_lt h hd he) (tau_lt h hd he') q)⟩
theorem MapW.range {n : Nat} : MapW n (List.range n) := by
  have g : ∀ e, e < n → (List.range n).getD e 0 = e := fun e he => by simp [List.getD, he]
  exact ⟨by simp, fun e he => by rw [g e he]; exact he, fun e e' he he' q => by rwa [g e he, g e' he'] at q⟩
theorem wt_mem {n : Nat} {m f : List Nat} {e : Nat} : e ∈ wtW n m f ↔ e < n ∧ m.getD e 0 ∉ f := by
  unfold wtW
  rw [List.mem_filter, List.mem_range, decide_eq_true_iff]
theorem wt_step (h : Off os) {m f : List Nat} (M : MapW (os.length + 1) m) {d : Nat} (hd : d ≤ os.length) (hf : m.getD d 0 ∉ f) : wtW (os.length + 1) (swW os m d) (f ++ [m.getD d 0]) = leftW os (wtW (os.length + 1) m f) d := by
  have key : ∀ e, e < os.length + 1 → ((m.getD (tauW os d e) 0 ∉ f ++ [m.getD d 0]) ↔ (e ≠ gone os (wtW (os.length + 1) m f) d ∧ m.getD e 0 ∉ f)) := fun e he => by
    have e1 : (m.getD (tauW os d e) 0 ∉ f ++ [m.getD d 0]) ↔ (m.getD (tauW os d e) 0 ∉ f ∧ tauW os d e ≠ d) := by
      rw [List.mem_append, List.mem_singleton, not_or]
      refine and_congr Iff.rfl (not_congr ⟨fun q => M.inj _ _ (tau_lt h hd he) (by omega) q, fun q => by rw [q]⟩)
    rw [e1]
    unfold gone
    by_cases h0 : 0 < d
    · have hu := upr_lt h h0 hd
      have mw : (os.getD (d - 1) 0 ∈ wtW (os.length + 1) m f) ↔ m.getD (upr os d) 0 ∉ f := by
        rw [wt_mem]
        exact ⟨fun z => z.2, fun z => ⟨by unfold upr at hu; omega, z⟩⟩
      unfold tauW
      rw [if_pos h0]
      by_cases q1 : e = upr os d
      · rw [if_pos q1]
        by_cases q2 : m.getD (upr os d) 0 ∈ f
        · rw [if_neg (fun z => (mw.mp z.2) q2)]
          constructor
          · exact fun z => absurd rfl z.2
          · exact fun z => absurd q2 (q1 ▸ z.2)
        · rw [if_pos ⟨h0, mw.mpr q2⟩]
          constructor
          · exact fun z => absurd rfl z.2
          · exact fun z => absurd q1 z.1
      · rw [if_neg q1]
        by_cases q3 : e = d
        · rw [if_pos q3]
          by_cases q2 : m.getD (upr os d) 0 ∈ f
          · rw [if_neg (fun z => (mw.mp z.2) q2)]
            constructor
            · exact fun z => absurd q2 z.1
            · exact fun z => absurd q3 z.1
          · rw [if_pos ⟨h0, mw.mpr q2⟩]
            constructor
            · exact fun _ => ⟨q1, q3 ▸ hf⟩
            · exact fun _ => ⟨q2, by omega⟩
        · rw [if_neg q3]
          by_cases q2 : m.getD (upr os d) 0 ∈ f
          · rw [if_neg (fun z => (mw.mp z.2) q2)]
            exact ⟨fun z => ⟨q3, z.1⟩, fun z => ⟨z.2, q3⟩⟩
          · rw [if_pos ⟨h0, mw.mpr q2⟩]
            exact ⟨fun z => ⟨q1, z.1⟩, fun z => ⟨z.2, q3⟩⟩
    · unfold tauW
      rw [if_neg h0, if_neg (fun z => h0 z.1)]
      exact ⟨fun z => ⟨z.2, z.1⟩, fun z => ⟨z.2, z.1⟩⟩
  unfold leftW
  show _ = ((List.range (os.length + 1)).filter fun e => decide (m.getD e 0 ∉ f)).filter _
  rw [List.filter_filter]
  unfold wtW at key ⊢
  refine List.filter_congr fun e he => ?_
  rw [swW_get h M.len hd, ← Bool.decide_and]
  exact decide_eq_decide.mpr (key e (List.mem_range.mp he))
abbrev depI (os : List Nat) (d : Nat) : Int := ((dep os d : Nat) : Int)
theorem seq_first (h : Off os) : ∀ {cs : List Int} {m f ds : List Nat}, MapW (os.length + 1) m → ds ∈ SeqL os cs (wtW (os.length + 1) m f) →
    ds.map (depI os) = cs ∧ (∀ d ∈ ds, d ≤ os.length) ∧ (firstW os ds m).Nodup ∧ (∀ x ∈ firstW os ds m, x ∉ f ∧ x < os.length + 1) ∧ (firstW os ds m).length = ds.length
  | [], m, f, ds, M, hs => by
    obtain rfl : ds = [] := by simpa [SeqL] using hs
    exact ⟨rfl, fun d hd => (by cases hd), List.nodup_nil, fun x hx => (by cases hx), rfl⟩
  | c :: cs, m, f, ds, M, hs => by
    unfold SeqL at hs
    obtain ⟨d, hd, h2⟩ := List.mem_flatMap.mp hs
    by_cases hc : ((dep os d : Nat) : Int) = c
    · rw [if_pos hc] at h2
      obtain ⟨r, hr, rfl⟩ := List.mem_map.mp h2
      obtain ⟨d1, d2⟩ := wt_mem.mp hd
      rw [← wt_step h M (by omega) d2] at hr
      obtain ⟨i1, i2, i3, i4, i5⟩ := seq_first h (M.sw h (by omega)) hr
      refine ⟨by rw [List.map_cons, i1, ← hc], fun z hz => (List.mem_cons.mp hz).elim (fun e => by omega) (i2 z), ?_, fun x hx => ?_, by rw [firstW, List.length_cons, List.length_cons, i5]⟩
      · rw [firstW]
        exact List.nodup_cons.mpr ⟨fun z => (i4 _ z).1 (by simp), i3⟩
      · rw [firstW] at hx
        rcases List.mem_cons.mp hx with q | q
        · rw [q]; exact ⟨d2, M.lt d d1⟩
        · exact ⟨fun z => (i4 x q).1 (List.mem_append_left _ z), (i4 x q).2⟩
    · rw [if_neg hc] at h2
      cases h2
theorem seq_nd (h : Off os) : ∀ {cs : List Int} {W : List Nat}, W.Nodup → (SeqL os cs W).Nodup
  | [], W, _ => by show [[]].Nodup; simp
  | c :: cs, W, hW => by
    show (W.flatMap _).Nodup
    unfold List.Nodup
    rw [List.pairwise_flatMap]
    refine ⟨fun d _ => ?_, hW.imp fun {a b} ne x hx y hy e => ?_⟩
    · by_cases hc : ((dep os d : Nat) : Int) = c
      · rw [if_pos hc, List.pairwise_map]
        refine (seq_nd h (cs := cs) (W := leftW os W d) (hW.filter _)).imp fun {a b} hab e => hab ?_
        injection e
      · rw [if_neg hc]; exact List.Pairwise.nil
    · by_cases hc : ((dep os a : Nat) : Int) = c
      · rw [if_pos hc] at hx
        obtain ⟨r, _, rfl⟩ := List.mem_map.mp hx
        by_cases hc2 : ((dep os b : Nat) : Int) = c
        · rw [if_pos hc2] at hy
          obtain ⟨r2, _, rfl⟩ := List.mem_map.mp hy
          injection e with e1
          exact ne e1
        · rw [if_neg hc2] at hy; cases hy
      · rw [if_neg hc] at hx; cases hx
end
def dayW (os : List Nat) : List Str → List Str → List Nat
  | [], _ => []
  | x :: xs, p => p.idxOf x :: dayW os xs (callS os p x)
theorem dayW_len {os : List Nat} : ∀ {xs p : List Str}, (dayW os xs p).length = xs.length
  | [], p => rfl
  | x :: xs, p => by rw [dayW, List.length_cons, List.length_cons, dayW_len]
theorem nm_idxW {l : List Str} (h : l.Nodup) {i : Nat} (hi : i < l.length) : l.idxOf (nmAt l i) = i := by
  have e : nmAt l i = l[i] := by
    have := nmAt_get (ss := l) hi
    rw [List.getElem?_eq_getElem hi] at this
    exact (Option.some.inj this).symm
  rw [e]
  exact h.idxOf_getElem i hi
theorem nm_mapW {ss : List Str} {m : List Nat} {i : Nat} (hi : i < m.length) : nmAt (m.map (nmAt ss)) i = nmAt ss (m.getD i 0) := by
  have e := nmAt_get (ss := m.map (nmAt ss)) (t := i) (by rw [List.length_map]; exact hi)
  rw [List.getElem?_map, List.getElem?_eq_getElem hi] at e
  rw [← Option.some.inj e]
  simp [List.getD, List.getElem?_eq_getElem hi]
section
variable {os : List Nat} {p0 ord : List Str}
/-- a call, seen from the first positions -/
theorem call_map {p : List Str} {m : List Nat} (c : Case os p ord) (M : MapW (os.length + 1) m) (ep : p = m.map (nmAt p0)) (hp : p0.Nodup) (hl : p0.length = os.length + 1) {x : Str} (hx : x ∈ p) :
    m.getD (p.idxOf x) 0 = p0.idxOf x ∧ callS os p x = (swW os m (p.idxOf x)).map (nmAt p0) := by
  have li := idx_lt hx
  have pl : p.length = os.length + 1 := c.len
  have mp : p.length = m.length := by rw [ep, List.length_map]
  have e1 : nmAt p (p.idxOf x) = x := nm_idx hx
  have e2 : nmAt p (p.idxOf x) = nmAt p0 (m.getD (p.idxOf x) 0) := by
    have := nm_mapW (ss := p0) (m := m) (i := p.idxOf x) (by omega)
    rw [← ep] at this
    exact this
  have hd : m.getD (p.idxOf x) 0 < p0.length := by rw [hl]; exact M.lt _ (by omega)
  have e3 := nm_idxW hp hd
  rw [← e2, e1] at e3
  refine ⟨e3.symm, ?_⟩
  have e4 : nmAt p0 (p0.idxOf x) = x := by rw [e3, ← e2, e1]
  unfold callS swW upr
  by_cases h0 : 0 < p.idxOf x
  · rw [if_pos h0, if_pos h0]
    have u := off_at c.off (d := p.idxOf x) h0 (by omega)
    have ub := u.2
    generalize os.getD (p.idxOf x - 1) 0 = b at *
    have e5 := nm_mapW (ss := p0) (m := m) (i := b) (by omega)
    rw [← ep] at e5
    rw [e5, ← e3, List.map_set, List.map_set, e4, ← ep]
  · rw [if_neg h0, if_neg h0]; exact ep
/-- the desks of the day tell the first positions, and the other way round -/
theorem day_first (hp : p0.Nodup) (hl : p0.length = os.length + 1) : ∀ {xs p : List Str} {m ds : List Nat}, Case os p ord → MapW (os.length + 1) m → p = m.map (nmAt p0) → (∀ x ∈ xs, x ∈ p) → (∀ d ∈ ds, d ≤ os.length) → (dayW os xs p = ds ↔ xs.map (fun x => p0.idxOf x) = firstW os ds m)
  | [], p, m, [], _, _, _, _, _ => by simp [dayW, firstW]
  | [], p, m, d :: ds, _, _, _, _, _ => by simp [dayW, firstW]
  | x :: xs, p, m, [], _, _, _, _, _ => by simp [dayW, firstW]
  | x :: xs, p, m, d :: ds, c, M, ep, hx, hd => by
    have x1 := hx x List.mem_cons_self
    have li := idx_lt x1
    have pl : p.length = os.length + 1 := c.len
    obtain ⟨k1, k2⟩ := call_map c M ep hp hl x1
    obtain ⟨c1, m1⟩ := c.call x1
    have hd0 := hd d List.mem_cons_self
    rw [dayW, List.map_cons, firstW, List.cons.injEq, List.cons.injEq]
    have a1 : p.idxOf x = d ↔ p0.idxOf x = m.getD d 0 := ⟨fun q => by rw [← k1, q], fun q => M.inj _ _ (by omega) (by omega) (by rw [k1, q])⟩
    constructor
    · rintro ⟨q1, q2⟩
      refine ⟨a1.mp q1, ?_⟩
      rw [q1] at k2
      exact (day_first hp hl (xs := xs) (ds := ds) c1 (M.sw c.off hd0) k2 (fun z hz => (m1 z).mpr (hx z (List.mem_cons_of_mem _ hz))) (fun z hz => hd z (List.mem_cons_of_mem _ hz))).mp q2
    · rintro ⟨q1, q2⟩
      have q1' := a1.mpr q1
      refine ⟨q1', ?_⟩
      rw [q1'] at k2
      exact (day_first hp hl (xs := xs) (ds := ds) c1 (M.sw c.off hd0) k2 (fun z hz => (m1 z).mpr (hx z (List.mem_cons_of_mem _ hz))) (fun z hz => hd z (List.mem_cons_of_mem _ hz))).mpr q2
/-- each day's desks are among the sequences -/
theorem day_seq (hp : p0.Nodup) (hl : p0.length = os.length + 1) : ∀ {xs p : List Str} {m f : List Nat}, Case os p ord → MapW (os.length + 1) m → p = m.map (nmAt p0) → (∀ x ∈ xs, x ∈ p) → xs.Nodup → (∀ x ∈ xs, p0.idxOf x ∉ f) → dayW os xs p ∈ SeqL os ((dayW os xs p).map (depI os)) (wtW (os.length + 1) m f)
  | [], p, m, f, _, _, _, _, _, _ => by simp [dayW, SeqL]
  | x :: xs, p, m, f, c, M, ep, hx, nd, hf => by
    have x1 := hx x List.mem_cons_self
    have li := idx_lt x1
    have pl : p.length = os.length + 1 := c.len
    obtain ⟨k1, k2⟩ := call_map c M ep hp hl x1
    obtain ⟨c1, m1⟩ := c.call x1
    obtain ⟨n1, n2⟩ := List.nodup_cons.mp nd
    have df : m.getD (p.idxOf x) 0 ∉ f := by rw [k1]; exact hf x List.mem_cons_self
    have ih := day_seq hp hl (xs := xs) (p := callS os p x) (m := swW os m (p.idxOf x)) (f := f ++ [m.getD (p.idxOf x) 0]) c1 (M.sw c.off (by omega)) k2 (fun z hz => (m1 z).mpr (hx z (List.mem_cons_of_mem _ hz))) n2 fun z hz => by
      rw [List.mem_append, List.mem_singleton, k1]
      rintro (q | q)
      · exact hf z (List.mem_cons_of_mem _ hz) q
      · have mem : ∀ y ∈ p, y ∈ p0 := fun y hy => by
          rw [ep] at hy
          obtain ⟨k, hk, rfl⟩ := List.mem_map.mp hy
          obtain ⟨i, hi, rfl⟩ := List.mem_iff_getElem.mp hk
          have g : m.getD i 0 = m[i] := by simp [List.getD, List.getElem?_eq_getElem hi]
          have : m[i] < p0.length := by rw [hl, ← g]; exact M.lt i (by rw [← M.len]; exact hi)
          exact List.mem_of_getElem? (nmAt_get this)
        have zx : z = x := idx_inj (mem z (hx z (List.mem_cons_of_mem _ hz))) (mem x x1) q
        exact n1 (zx ▸ hz)
    rw [wt_step c.off M (by omega) df] at ih
    rw [dayW, List.map_cons]
    refine List.mem_flatMap.mpr ⟨p.idxOf x, wt_mem.mpr ⟨by omega, df⟩, ?_⟩
    rw [if_pos rfl]
    exact List.mem_map.mpr ⟨_, ih, rfl⟩
end
def comp (ss : List Str) : Nat → List Str → List (List Str)
  | 0, t => [t]
  | k + 1, t => (nxtL ss t).flatMap (comp ss k)
theorem comp_back {ss : List Str} : ∀ {k : Nat} {t : List Str}, (comp ss k t).flatMap (nxtL ss) = comp ss (k + 1) t
  | 0, t => by
    show ([t] : List (List Str)).flatMap (nxtL ss) = (nxtL ss t).flatMap fun u => [u]
    rw [List.flatMap_singleton, List.flatMap_singleton']
  | k + 1, t => by
    show ((nxtL ss t).flatMap (comp ss k)).flatMap (nxtL ss) = (nxtL ss t).flatMap (comp ss (k + 1))
    rw [List.flatMap_assoc]
    congr 1
    funext u
    exact comp_back
theorem arr_comp {ss : List Str} : ∀ k, arrL ss k = comp ss k []
  | 0 => rfl
  | k + 1 => by
    show (arrL ss k).flatMap (nxtL ss) = _
    rw [arr_comp k, comp_back]
abbrev Pos2 := List (Nat × Str)
def okP (L : Pos2) (p : List Str) : Bool := L.all fun q => decide (p[q.1]? = some q.2)
def okT (L : Pos2) (t : List Str) : Bool := L.all fun q => if q.1 < t.length then decide (t[q.1]? = some q.2) else decide (q.2 ∉ t)
def rstT (L : Pos2) (j : Nat) : Nat := (L.filter fun q => decide (j ≤ q.1)).length
theorem fac_succ (n : Nat) : facN (n + 1) = (n + 1) * facN n := by
  unfold facN Builtin.Math.factorialNat
  rw [List.range_succ, List.foldl_append, Nat.mul_comm (n + 1)]
  rfl
theorem map_inj {α β : Type} {f : α → β} : ∀ {l : List α}, (l.map f).Nodup → ∀ {a b : α}, a ∈ l → b ∈ l → f a = f b → a = b
  | [], _, a, b, ha, _, _ => by cases ha
  | x :: l, h, a, b, ha, hb, e => by
    rw [List.map_cons] at h
    obtain ⟨h1, h2⟩ := List.nodup_cons.mp h
    rcases List.mem_cons.mp ha with qa | qa
    · rcases List.mem_cons.mp hb with qb | qb
      · rw [qa, qb]
      · exact absurd (List.mem_map.mpr ⟨b, qb, by rw [← e, qa]⟩) h1
    · rcases List.mem_cons.mp hb with qb | qb
      · exact absurd (List.mem_map.mpr ⟨a, qa, by rw [e, qb]⟩) h1
      · exact map_inj h2 qa qb e
theorem rst_step {j : Nat} : ∀ {L : Pos2}, rstT L j = rstT L (j + 1) + (L.filter fun q => decide (q.1 = j)).length
  | [] => rfl
  | q :: L => by
    have ih := rst_step (j := j) (L := L)
    unfold rstT at ih ⊢
    rw [List.filter_cons, List.filter_cons, List.filter_cons]
    rcases Nat.lt_trichotomy q.1 j with h | h | h
    · rw [if_neg (by simpa using h), if_neg (by simp; omega), if_neg (by simp; omega)]; exact ih
    · rw [if_pos (by simp; omega), if_neg (by simp; omega), if_pos (by simpa using h), List.length_cons, List.length_cons]; omega
    · rw [if_pos (by simp; omega), if_pos (by simp; omega), if_neg (by simp; omega), List.length_cons, List.length_cons]; omega
theorem ok_snoc {L : Pos2} {t : List Str} {x : Str} (hx : x ∉ t) : okT L (t ++ [x]) = true ↔ okT L t = true ∧ ∀ q ∈ L, (q.1 = t.length → q.2 = x) ∧ (t.length < q.1 → q.2 ≠ x) := by
  unfold okT
  rw [List.all_eq_true, List.all_eq_true, ← forall_and]
  refine forall_congr' fun q => ?_
  rw [← imp_and]
  refine imp_congr_right fun _ => ?_
  rw [List.length_append, List.length_singleton]
  rcases Nat.lt_trichotomy q.1 t.length with h | h | h
  · rw [if_pos (by omega), if_pos h, List.getElem?_append_left h]
    exact ⟨fun z => ⟨z, fun e => by omega, fun e => by omega⟩, fun z => z.1⟩
  · rw [if_pos (by omega), if_neg (by omega), h, List.getElem?_append_right (Nat.le_refl _), Nat.sub_self, decide_eq_true_iff, decide_eq_true_iff]
    constructor
    · intro z
      have e : x = q.2 := by simpa using z
      exact ⟨e ▸ hx, fun _ => e.symm, fun e => by omega⟩
    · rintro ⟨_, z, _⟩
      rw [z rfl]; rfl
  · rw [if_neg (by omega), if_neg (by omega), decide_eq_true_iff, decide_eq_true_iff, List.mem_append, List.mem_singleton, not_or]
    exact ⟨fun z => ⟨z.1, fun e => by omega, fun _ => z.2⟩, fun z => ⟨z.1, z.2.2 h⟩⟩
theorem sum_ite {α : Type} {P : α → Bool} {K : Nat} : ∀ {l : List α}, (l.map fun x => if P x = true then K else 0).sum = K * (l.filter P).length
  | [] => rfl
  | x :: l => by
    rw [List.map_cons, List.sum_cons, sum_ite, List.filter_cons]
    by_cases h : P x = true
    · rw [if_pos h, if_pos h, List.length_cons, Nat.mul_add]; omega
    · rw [if_neg h, if_neg h]; omega
theorem filt_out {ss A : List Str} (hs : ss.Nodup) (hA : A.Nodup) (h : ∀ x ∈ A, x ∈ ss) : (ss.filter fun x => decide (x ∉ A)).length + A.length = ss.length := by
  have p : (ss.filter fun x => decide (x ∈ A)).Perm A := (List.perm_ext_iff_of_nodup (hs.filter _) hA).mpr fun x => by
    rw [List.mem_filter, decide_eq_true_iff]
    exact ⟨fun z => z.2, fun z => ⟨h x z, z⟩⟩
  have e := List.length_eq_countP_add_countP (fun x => decide (x ∈ A)) (l := ss)
  rw [List.countP_eq_length_filter, List.countP_eq_length_filter, p.length_eq] at e
  have e2 : (ss.filter fun x => decide (x ∉ A)) = ss.filter fun x => decide (¬decide (x ∈ A) = true) := List.filter_congr fun x _ => decide_eq_decide.mpr (by rw [decide_eq_true_iff])
  rw [e2]
  omega
theorem comp_count {ss : List Str} {L : Pos2} (hn : ss.Nodup) (hp : (L.map (·.1)).Nodup) (hx : (L.map (·.2)).Nodup) (hL : ∀ q ∈ L, q.1 < ss.length ∧ q.2 ∈ ss) : ∀ (k : Nat) (t : List Str), t.length + k = ss.length → t.Nodup → (∀ x ∈ t, x ∈ ss) →
    ((comp ss k t).filter (okP L)).length = if okT L t = true then facN (k - rstT L t.length) else 0
  | 0, t, hk, nd, hs => by
    have e : okT L t = okP L t := by
      unfold okT okP
      rw [Bool.eq_iff_iff, List.all_eq_true, List.all_eq_true]
      refine forall_congr' fun q => imp_congr_right fun hq => ?_
      have := (hL q hq).1
      rw [if_pos (by omega)]
    show ((([t] : List (List Str)).filter (okP L)).length) = _
    rw [e, Nat.zero_sub]
    by_cases z : okP L t = true
    · rw [List.filter_cons, if_pos z, if_pos z]; rfl
    · rw [List.filter_cons, if_neg z, if_neg z]; rfl
  | k + 1, t, hk, nd, hs => by
    show (((nxtL ss t).flatMap (comp ss k)).filter (okP L)).length = _
    rw [List.filter_flatMap, List.length_flatMap]
    have e : ((nxtL ss t).map fun u => ((comp ss k u).filter (okP L)).length).sum = ((ss.filter fun x => decide (x ∉ t)).map fun x => if okT L (t ++ [x]) = true then facN (k - rstT L (t.length + 1)) else 0).sum := by
      unfold nxtL
      rw [List.map_map]
      congr 1
      refine List.map_congr_left fun x hxm => ?_
      obtain ⟨x1, x2⟩ := List.mem_filter.mp hxm
      have x2 := of_decide_eq_true x2
      have ih := comp_count hn hp hx hL k (t ++ [x]) (by rw [List.length_append, List.length_singleton]; omega) (List.nodup_append.mpr ⟨nd, by simp, fun y hy z hz => by
        rw [List.mem_singleton.mp hz]
        exact fun q => x2 (q ▸ hy)⟩) fun y hy => (List.mem_append.mp hy).elim (hs y) fun q => by rw [List.mem_singleton.mp q]; exact x1
      rw [List.length_append, List.length_singleton] at ih
      exact ih
    rw [e, sum_ite]
    by_cases ot : okT L t = true
    · rw [if_pos ot]
      have otq : ∀ q ∈ L, ¬ q.1 < t.length → q.2 ∉ t := fun q hq hlt => by
        have := List.all_eq_true.mp ot q hq
        rw [if_neg hlt] at this
        exact of_decide_eq_true this
      have Lnd : L.Nodup := List.Pairwise.of_map (fun q : Nat × Str => q.1) (fun a b h e => h (by rw [e])) hp
      by_cases ex : ∃ q0, q0 ∈ L ∧ q0.1 = t.length
      · obtain ⟨q0, q1, q2⟩ := ex
        have one : (L.filter fun q => decide (q.1 = t.length)).Perm [q0] := (List.perm_ext_iff_of_nodup (Lnd.filter _) (by simp)).mpr fun q => by
          rw [List.mem_filter, decide_eq_true_iff, List.mem_singleton]
          exact ⟨fun z => map_inj hp z.1 q1 (z.2.trans q2.symm), fun z => by rw [z]; exact ⟨q1, q2⟩⟩
        have cnt : ((ss.filter fun x => decide (x ∉ t)).filter fun x => okT L (t ++ [x])).Perm [q0.2] := (List.perm_ext_iff_of_nodup ((hn.filter _).filter _) (by simp)).mpr fun x => by
          rw [List.mem_filter, List.mem_filter, decide_eq_true_iff, List.mem_singleton]
          constructor
          · rintro ⟨⟨x1, x2⟩, x3⟩
            exact (((ok_snoc x2).mp x3).2 q0 q1).1 q2 |>.symm
          · rintro rfl
            have x2 : q0.2 ∉ t := otq q0 q1 (by omega)
            refine ⟨⟨(hL q0 q1).2, x2⟩, (ok_snoc x2).mpr ⟨ot, fun q hq => ⟨fun z => ?_, fun z y => ?_⟩⟩⟩
            · rw [map_inj hp hq q1 (z.trans q2.symm)]
            · have := map_inj hx hq q1 y
              rw [this] at z
              omega
        have r1 := rst_step (j := t.length) (L := L)
        rw [one.length_eq] at r1
        rw [cnt.length_eq, r1]
        show facN _ * 1 = facN _
        rw [Nat.mul_one]
        congr 1
        show k - rstT L (t.length + 1) = k + 1 - (rstT L (t.length + 1) + 1)
        omega
      · have none : (L.filter fun q => decide (q.1 = t.length)) = [] := List.filter_eq_nil_iff.mpr fun q hq z => ex ⟨q, hq, of_decide_eq_true z⟩
        have r1 := rst_step (j := t.length) (L := L)
        rw [none] at r1
        have r2 : rstT L t.length = rstT L (t.length + 1) := r1
        rw [r2]
        have And : (t ++ (L.filter fun q => decide (t.length + 1 ≤ q.1)).map (·.2)).Nodup := List.nodup_append.mpr ⟨nd, (List.filter_sublist.map _).nodup hx, fun y hy z hz q => by
          obtain ⟨w, hw, rfl⟩ := List.mem_map.mp hz
          obtain ⟨w1, w2⟩ := List.mem_filter.mp hw
          have w2 := of_decide_eq_true w2
          exact otq w w1 (by omega) (q ▸ hy)⟩
        have fo := filt_out hn And fun x hx => (List.mem_append.mp hx).elim (hs x) fun z => by
          obtain ⟨w, hw, rfl⟩ := List.mem_map.mp z
          exact (hL w (List.mem_filter.mp hw).1).2
        have fe : ((ss.filter fun x => decide (x ∉ t)).filter fun x => okT L (t ++ [x])) = ss.filter fun x => decide (x ∉ t ++ (L.filter fun q => decide (t.length + 1 ≤ q.1)).map (·.2)) := by
          rw [List.filter_filter]
          refine List.filter_congr fun x hxs => ?_
          rw [Bool.eq_iff_iff, Bool.and_eq_true, decide_eq_true_iff, decide_eq_true_iff, List.mem_append, not_or]
          constructor
          · rintro ⟨x3, x2⟩
            refine ⟨x2, fun z => ?_⟩
            obtain ⟨w, hw, rfl⟩ := List.mem_map.mp z
            obtain ⟨w1, w2⟩ := List.mem_filter.mp hw
            have w2 := of_decide_eq_true w2
            exact (((ok_snoc x2).mp x3).2 w w1).2 (by omega) rfl
          · rintro ⟨x2, x3⟩
            refine ⟨(ok_snoc x2).mpr ⟨ot, fun q hq => ⟨fun z => absurd ⟨q, hq, z⟩ ex, fun z y => x3 (List.mem_map.mpr ⟨q, List.mem_filter.mpr ⟨hq, decide_eq_true (by omega)⟩, y⟩)⟩⟩, x2⟩
        rw [fe]
        rw [List.length_append, List.length_map] at fo
        change _ + (t.length + rstT L (t.length + 1)) = _ at fo
        have hR : rstT L (t.length + 1) ≤ k := by
          have := nd_le (l := (L.filter fun q => decide (t.length + 1 ≤ q.1)).map (·.1)) (m := (List.range k).map fun i => i + (t.length + 1)) ((List.filter_sublist.map _).nodup hp) fun y hy => by
            obtain ⟨w, hw, rfl⟩ := List.mem_map.mp hy
            obtain ⟨w1, w2⟩ := List.mem_filter.mp hw
            have w2 := of_decide_eq_true w2
            have w3 := (hL w w1).1
            exact List.mem_map.mpr ⟨w.1 - (t.length + 1), List.mem_range.mpr (by omega), by omega⟩
          rw [List.length_map, List.length_map, List.length_range] at this
          exact this
        have ec : (ss.filter fun x => decide (x ∉ t ++ (L.filter fun q => decide (t.length + 1 ≤ q.1)).map (·.2))).length = (k - rstT L (t.length + 1)) + 1 := by omega
        rw [ec, show k + 1 - rstT L (t.length + 1) = (k - rstT L (t.length + 1)) + 1 by omega, fac_succ, Nat.mul_comm]
    · rw [if_neg ot]
      have e0 : ((ss.filter fun x => decide (x ∉ t)).filter fun x => okT L (t ++ [x])) = [] := List.filter_eq_nil_iff.mpr fun x hxm z => by
        obtain ⟨x1, x2⟩ := List.mem_filter.mp hxm
        exact ot ((ok_snoc (of_decide_eq_true x2)).mp z).1
      rw [e0]
      rfl
theorem filt_sum {α β : Type} [DecidableEq β] {g : α → β} {Q : α → Bool} : ∀ {S : List β} {l : List α}, S.Nodup → (∀ p ∈ l, Q p = true ↔ g p ∈ S) → (l.filter Q).length = (S.map fun s => (l.filter fun p => decide (g p = s)).length).sum
  | [], l, _, h => by
    rw [List.filter_eq_nil_iff.mpr fun p hp z => by have := (h p hp).mp z; cases this]
    rfl
  | s :: S, l, nd, h => by
    obtain ⟨n1, n2⟩ := List.nodup_cons.mp nd
    rw [List.map_cons, List.sum_cons, ← filt_sum (g := g) (Q := fun p => decide (g p ∈ S)) (l := l) n2 fun p hp => decide_eq_true_iff]
    have e := List.length_eq_countP_add_countP (fun p => decide (g p = s)) (l := l.filter Q)
    rw [List.countP_eq_length_filter, List.countP_eq_length_filter, List.filter_filter, List.filter_filter] at e
    have e1 : (l.filter fun p => decide (g p = s) && Q p) = l.filter fun p => decide (g p = s) := List.filter_congr fun p hp => by
      rw [Bool.eq_iff_iff, Bool.and_eq_true, decide_eq_true_iff, h p hp]
      exact ⟨fun z => z.1, fun z => ⟨z, by rw [z]; exact List.mem_cons_self⟩⟩
    have e2 : (l.filter fun p => decide (¬decide (g p = s) = true) && Q p) = l.filter fun p => decide (g p ∈ S) := List.filter_congr fun p hp => by
      rw [Bool.eq_iff_iff, Bool.and_eq_true, decide_eq_true_iff, decide_eq_true_iff, decide_eq_true_iff, h p hp, List.mem_cons]
      exact ⟨fun z => z.2.resolve_left z.1, fun z => ⟨fun q => n1 (q ▸ z), .inr z⟩⟩
    rw [e1, e2] at e
    exact e
theorem zip_iff {os : List Nat} : ∀ {xs : List Str} {f : List Nat} {p : List Str}, f.length = xs.length → p.Nodup → (∀ x ∈ xs, x ∈ p) → (xs.map (fun x => p.idxOf x) = f ↔ okP (f.zip xs) p = true)
  | [], [], p, _, _, _ => by simp [okP]
  | [], _ :: _, p, h, _, _ => by cases h
  | _ :: _, [], p, h, _, _ => by cases h
  | x :: xs, a :: f, p, h, nd, hx => by
    have ih := zip_iff (os := os) (xs := xs) (f := f) (p := p) (by simpa using h) nd fun z hz => hx z (List.mem_cons_of_mem _ hz)
    have e : okP ((a :: f).zip (x :: xs)) p = (decide (p[a]? = some x) && okP (f.zip xs) p) := rfl
    rw [e, List.map_cons, List.cons.injEq, Bool.and_eq_true, decide_eq_true_iff, ih]
    refine and_congr ⟨fun q => ?_, fun q => ?_⟩ Iff.rfl
    · rw [← q]; exact idx_get (hx x List.mem_cons_self)
    · obtain ⟨hl, e2⟩ := List.getElem?_eq_some_iff.mp q
      rw [← e2]
      exact nd.idxOf_getElem a hl
theorem count_costs {os : List Nat} {ss ord : List Str} (c : Case os ss ord) {cs : List Int} (hc : cs.length = ord.length) : ((arrL ss ss.length).filter fun p => decide ((dayW os ord p).map (depI os) = cs)).length = totC os cs * facN (ss.length - ord.length) := by
  have hl := c.len
  have perm : ∀ p ∈ arrL ss ss.length, p.Perm ss := fun p hp => (arr_perm c.nd).mp hp
  have cp : ∀ p ∈ arrL ss ss.length, Case os p ord := fun p hp => c.permS (perm p hp).symm
  have wt0 : wtW (os.length + 1) (List.range (os.length + 1)) [] = List.range (os.length + 1) := by
    unfold wtW
    rw [List.filter_eq_self]
    exact fun e _ => by simp
  have pm : ∀ p ∈ arrL ss ss.length, p = (List.range (os.length + 1)).map (nmAt p) := fun p hp => by
    have pl : p.length = os.length + 1 := (cp p hp).len
    apply List.ext_getElem?
    intro i
    rw [List.getElem?_map]
    by_cases hi : i < os.length + 1
    · rw [List.getElem?_range hi, nmAt_get (by omega)]; rfl
    · rw [List.getElem?_eq_none (by omega), List.getElem?_eq_none (by rw [List.length_range]; omega)]; rfl
  have nd0 : (List.range (os.length + 1)).Nodup := List.nodup_range
  rw [filt_sum (g := fun p => dayW os ord p) (S := SeqL os cs (List.range (os.length + 1))) (seq_nd c.off nd0) fun p hp => ?_]
  · have each : ∀ ds ∈ SeqL os cs (List.range (os.length + 1)), ((arrL ss ss.length).filter fun p => decide (dayW os ord p = ds)).length = facN (ss.length - ord.length) := fun ds hds => by
      have hds' := hds
      rw [← wt0] at hds
      obtain ⟨i1, i2, i3, i4, i5⟩ := seq_first c.off MapW.range hds
      have lf : (firstW os ds (List.range (os.length + 1))).length = ord.length := by
        rw [i5, ← hc, ← i1, List.length_map]
      have fe : ((arrL ss ss.length).filter fun p => decide (dayW os ord p = ds)) = (arrL ss ss.length).filter (okP ((firstW os ds (List.range (os.length + 1))).zip ord)) := List.filter_congr fun p hp => by
        have d := day_first (p0 := p) (ord := ord) (cp p hp).nd ((cp p hp).len) (xs := ord) (p := p) (m := List.range (os.length + 1)) (ds := ds) (cp p hp) MapW.range (pm p hp) (cp p hp).osub i2
        rw [Bool.eq_iff_iff, decide_eq_true_iff, d]
        exact zip_iff (os := os) lf (cp p hp).nd (cp p hp).osub
      have z1 : (((firstW os ds (List.range (os.length + 1))).zip ord).map (·.1)) = firstW os ds (List.range (os.length + 1)) := List.map_fst_zip (by omega)
      have z2 : (((firstW os ds (List.range (os.length + 1))).zip ord).map (·.2)) = ord := List.map_snd_zip (by omega)
      rw [fe, arr_comp]
      have cc := comp_count (ss := ss) (L := (firstW os ds (List.range (os.length + 1))).zip ord) c.nd (by rw [z1]; exact i3) (by rw [z2]; exact c.ond) (fun q hq => ⟨by
        have : q.1 ∈ firstW os ds (List.range (os.length + 1)) := by rw [← z1]; exact List.mem_map.mpr ⟨q, hq, rfl⟩
        rw [hl]; exact (i4 _ this).2, by
        have : q.2 ∈ ord := by rw [← z2]; exact List.mem_map.mpr ⟨q, hq, rfl⟩
        exact c.osub _ this⟩) ss.length [] (by simp) List.nodup_nil (fun x hx => by cases hx)
      have o0 : okT ((firstW os ds (List.range (os.length + 1))).zip ord) [] = true := List.all_eq_true.mpr fun q _ => by simp
      have r0 : rstT ((firstW os ds (List.range (os.length + 1))).zip ord) ([] : List Str).length = ord.length := by
        unfold rstT
        rw [List.filter_eq_self.mpr fun q _ => by simp, List.length_zip, lf, Nat.min_self]
      rw [cc, if_pos o0, r0]
    rw [List.map_congr_left each, List.map_const', List.sum_replicate_nat, tot_eq]
  · rw [decide_eq_true_iff]
    constructor
    · intro q
      have d := day_seq (p0 := p) (ord := ord) (cp p hp).nd (cp p hp).len (xs := ord) (p := p) (m := List.range (os.length + 1)) (f := []) (cp p hp) MapW.range (pm p hp) (cp p hp).osub c.ond (fun x _ => by simp)
      rw [q, wt0] at d
      exact d
    · intro q
      have q' := q
      rw [← wt0] at q'
      exact (seq_first c.off MapW.range q').1
end Ds
end
section
set_option Elab.async false
set_option linter.all false
set_option maxRecDepth 100000
set_option maxHeartbeats 1000000
open PySem PySem.Spec PyProof.Rows L2
namespace Ds
def Pt (k : Nat) (ds : List PyData) : Prop := ∃ a b n : Int, ds = [.int a, .int b, .int n] ∧ 0 ≤ b ∧ b < 2 * 10 ^ 38 ∧ 0 ≤ n ∧ n ≤ k
theorem Pt.mono {k j : Nat} {ds : List PyData} (h : Pt k ds) (l : k ≤ j) : Pt j ds := by
  obtain ⟨a, b, n, e, h1, h2, h3, h4⟩ := h
  exact ⟨a, b, n, e, h1, h2, h3, by omega⟩
def q_pt1 : SS := sIf (sTst (sBin gLt (sVar 1) (sCallB gLenS (sCons (sVar 0) sNil)))) (sSet 2 (sBin gIxS (sVar 0) (sVar 1))) sNx
def q_pt2 : SS := sRetNew (sLst (sCons (sCallB gMax (sCons (sK (.int 0)) (sCons (sBin gSub_ (sVar 2) (sBin gPow (sK (.int 10)) (sK (.int 18)))) sNil))) (sCons (sBin gAdd (sBin gAdd (sBin gMod (sVar 2) (sBin gAdd (sBin gPow (sK (.int 10)) (sK (.int 38))) (sK (.int 133)))) (sBin gMul (sK (.int 30011)) (sVar 1))) (sK (.int 3))) (sCons (sK (.int 0)) sNil))))
theorem c_pot_eq : c__law_potP = sSeq (sSet 2 (sK (.int 0))) (sSeq q_pt1 q_pt2) := rfl
theorem t_pt1 (ns : List Int) (k : Nat) : ∃ c : Int, q_pt1 [.val (scrD ns), .val (.int (k : Nat)), .val (.int 0)] = .nx [.val (scrD ns), .val (.int (k : Nat)), .val (.int c)] := by
  by_cases h : k < ns.length
  · have e : atI (ns.map PyData.int) (k : Nat) = some (.int ns[k]) := by
      rw [atI_nn (by omega), Int.toNat_natCast, List.getElem?_map, List.getElem?_eq_getElem h]
      rfl
    have h2 : (k : Int) < (ns.length : Int) := by omega
    exact ⟨ns[k], by simp [q_pt1, scrD, h2, e, h]⟩
  · have h2 : ¬ (k : Int) < (ns.length : Int) := by omega
    exact ⟨0, by simp [q_pt1, scrD, h2, h]⟩
theorem t_pt2 {c : Int} {k : Nat} {s0 : Sl} (hk : k < 1000) : ∃ bag, Pt 0 bag ∧ q_pt2 [s0, .val (.int (k : Nat)), .val (.int c)] = .rt (.own bag) [s0, .val (.int (k : Nat)), .val (.int c)] := by
  have b0 : 0 ≤ c % 100000000000000000000000000000000000133 := Int.emod_nonneg _ (by decide)
  have b1 : c % 100000000000000000000000000000000000133 < 100000000000000000000000000000000000133 := Int.emod_lt_of_pos _ (by decide)
  have l1 : (k : Nat).log2 < 1001 := by have := Nat.log2_le_self k; omega
  have k1 : Nat.log2 30011 < 30 := by decide +kernel
  have l2 : Nat.log2 30011 + k.log2 < 1000000 := by omega
  refine ⟨[.int (if c - 10 ^ 18 > 0 then c - 10 ^ 18 else 0), .int (c % 100000000000000000000000000000000000133 + 30011 * (k : Int) + 3), .int 0], ⟨_, _, _, rfl, by omega, by omega, by omega, by omega⟩, ?_⟩
  simp [q_pt2, sizeLine, l2]
theorem law_pot (ns : List Int) {k : Nat} (hk : k < 1000) : ∃ bag T, Pt 0 bag ∧ m__law_potP [.val (scrD ns), .val (.int (k : Nat))] = .ok (.own bag) T := by
  obtain ⟨c, e1⟩ := t_pt1 ns k
  obtain ⟨bag, hb, e2⟩ := t_pt2 (c := c) (s0 := .val (scrD ns)) hk
  refine ⟨bag, [.val (scrD ns), .val (.int (k : Nat)), .val (.int c)], hb, ?_⟩
  rw [m__law_potP, r_mB]
  show (c__law_potP [.val (scrD ns), .val (.int (k : Nat)), .nil]).fin = _
  rw [c_pot_eq, r_sSeq, show sSet 2 (sK (.int 0)) [.val (scrD ns), .val (.int (k : Nat)), .nil] = .nx [.val (scrD ns), .val (.int (k : Nat)), .val (.int 0)] from by simp, sq_nx, r_sSeq, e1, sq_nx, e2]
  rfl
theorem pw3P {b n : Int} (h0 : 0 ≤ b) (h1 : b < 2 * 10 ^ 38) (n0 : 0 ≤ n) (n1 : n ≤ 1000000) : PB (b + 53471161 * n) := by
  have : (b + 53471161 * n).natAbs < 4 * 10 ^ 38 := by omega
  exact Nat.lt_trans this (by decide)
theorem pw4P {x n : Int} (h0 : 0 ≤ x) (h1 : x < 100000000000000000000000000000000000000037) (n0 : 0 ≤ n) (n1 : n ≤ 1000000) : PB (x + 71755423 * n) := by
  have : (x + 71755423 * n).natAbs < 2 * 10 ^ 41 := by omega
  exact Nat.lt_trans this (by decide)
theorem drawP {k : Nat} {bag : List PyData} (hb : Pt k bag) (hk : k < 1000000) {m : Int} (h0 : 0 < m) (h1 : m < 2 ^ 200) : ∃ r bag' T, 0 ≤ r ∧ r < m ∧ Pt (k + 1) bag' ∧ m__law_drawP [.io bag, .val (.int m)] = .ok (.val (.int r)) (.io bag' :: T) := by
  obtain ⟨a, b, n, rfl, b0, b1, n1, n2⟩ := hb
  have lm : m.natAbs.log2 < 9000 := Nat.lt_trans (lg_lt (by decide) (by omega) h1) (by decide)
  by_cases ha : 0 < a
  · refine ⟨a % m, [.int (a / m), .int b, .int n], [.val (.int m), .nil, .val (.int (a % m))], Int.emod_nonneg _ (by omega), Int.emod_lt_of_pos _ h0, ⟨_, _, _, rfl, b0, b1, by omega, by omega⟩, ?_⟩
    simp [m__law_drawP, c__law_drawP, ha, h0, lm]
  · have l1 : (n + 1).natAbs.log2 < 30 := lg_lt (by decide) (by omega) (by omega)
    have k1 : Nat.log2 53471161 < 30 := by decide +kernel
    have k2 : Nat.log2 71755423 < 30 := by decide +kernel
    have k3 : Nat.log2 524287 < 9000 := by decide +kernel
    have c1 : Nat.log2 53471161 + (n + 1).natAbs.log2 < 1000000 := by omega
    have c2 : Nat.log2 71755423 + (n + 1).natAbs.log2 < 1000000 := by omega
    have p1 := g_pow3 (pw3P b0 b1 (n := n + 1) (by omega) (by omega))
    have p2 : ∀ y : Int, gPowB (.int (y % 100000000000000000000000000000000000000037 + 71755423 * (n + 1))) (.int 3) = some (.int ((y % 100000000000000000000000000000000000000037 + 71755423 * (n + 1)) ^ 3)) := fun y => g_pow3 <| pw4P (Int.emod_nonneg _ (by decide)) (Int.emod_lt_of_pos _ (by decide)) (by omega) (by omega)
    have key : ∃ x T, m__law_drawP [.io [.int a, .int b, .int n], .val (.int m)] = .ok (.val (.int (x % m))) (.io [.int a, .int b, .int (n + 1)] :: T) := by
      simp [m__law_drawP, c__law_drawP, ha, h0, c1, c2, k3, p1, p2]
      exact ⟨_, rfl⟩
    obtain ⟨x, T, e⟩ := key
    exact ⟨_, _, T, Int.emod_nonneg _ (by omega), Int.emod_lt_of_pos _ h0, ⟨_, _, _, rfl, b0, b1, by omega, by omega⟩, e⟩
def q_po1 : SS := sSet 2 (sCallB gMin (sCons (sVar 1) (sCons (sBin gAdd (sK (.int 1)) (sCallV m__law_drawP (sGr 0 (sGv (sBin gIx (sNE (sLst (sCons (sK (.int 4)) (sCons (sVar 1) sNil)))) (sCallV m__law_drawP (sGr 0 (sGv (sK (.int 2)) sG0)))) sG0)))) sNil)))
def q_po2 : SS := sParVN 4 5 (sCallV m__law_drawP (sGr 0 (sGv (sK (.int 4)) sG0))) (sLst sNil)
def q_po3 : SS := sSet 6 (sBin gSub_ (sVar 3) (sCallB gMin (sCons (sVar 3) (sCons (sCallV m__law_drawP (sGr 0 (sGv (sK (.int 4)) sG0))) sNil))))
def q_po4 : SS := sDrop (sAppend 5 (sBin gIx (sNE (sLst (sCons (sVar 3) (sCons (sK (.int 0)) (sCons (sCallV m__law_drawP (sGr 0 (sGv (sBin gAdd (sVar 3) (sK (.int 1))) sG0))) (sCons (sVar 6) sNil)))))) (sVar 4)))
theorem c_offP_eq : c__law_officeP = sSeq q_po1 (sSeq q_po2 (sSeq (sFor (sRng1 (sCons (sBin gSub_ (sVar 2) (sK (.int 1))) sNil)) (gNm 3) (sSeq q_po3 q_po4)) (sRet (sRd lTup (sLVar 5))))) := rfl
section
variable {M : Mf} {T T2 : En} {bag bag1 bag2 : List PyData} {s0 s1 s2 s3 s4 s5 s6 : Sl}
theorem t_po1 {m r1 r2 z : Int} (e1 : M [.io bag, .val (.int 2)] = .ok (.val (.int r1)) (.io bag1 :: T)) (ez : atI [PyData.int 4, .int m] r1 = some (.int z)) (e2 : M [.io bag1, .val (.int z)] = .ok (.val (.int r2)) (.io bag2 :: T2)) :
    sSet 2 (sCallB gMin (sCons (sVar 1) (sCons (sBin gAdd (sK (.int 1)) (sCallV M (sGr 0 (sGv (sBin gIx (sNE (sLst (sCons (sK (.int 4)) (sCons (sVar 1) sNil)))) (sCallV M (sGr 0 (sGv (sK (.int 2)) sG0)))) sG0)))) sNil))) [.io bag, .val (.int m), .nil, s3, s4, s5, s6] = .nx [.io bag2, .val (.int m), .val (.int (if 1 + r2 < m then 1 + r2 else m)), s3, s4, s5, s6] := by
  simp [e1, ez, e2, sizeLine]
theorem t_po2 {w : Int} (e1 : M [.io bag, .val (.int 4)] = .ok (.val (.int w)) (.io bag1 :: T)) : sParVN 4 5 (sCallV M (sGr 0 (sGv (sK (.int 4)) sG0))) (sLst sNil) [.io bag, s1, s2, s3, .nil, .nil, s6] = .nx [.io bag1, s1, s2, s3, .val (.int w), .own [], s6] := by
  simp [e1, sizeLine]
theorem t_po3 {w k : Int} (e1 : M [.io bag, .val (.int 4)] = .ok (.val (.int w)) (.io bag1 :: T)) (h6 : bare (some s6) = true) : sSet 6 (sBin gSub_ (sVar 3) (sCallB gMin (sCons (sVar 3) (sCons (sCallV M (sGr 0 (sGv (sK (.int 4)) sG0))) sNil)))) [.io bag, s1, s2, .val (.int k), s4, s5, s6] = .nx [.io bag1, s1, s2, .val (.int k), s4, s5, .val (.int (k - (if w < k then w else k)))] := by
  simp [e1, noio_bare h6]
theorem t_po4 {w k n u v : Int} {L : List PyData} (e1 : M [.io bag, .val (.int (k + 1))] = .ok (.val (.int w)) (.io bag1 :: T)) (ev : atI [PyData.int k, .int 0, .int w, .int n] u = some (.int v)) (hL : L.length < 1000000) : sDrop (sAppend 5 (sBin gIx (sNE (sLst (sCons (sVar 3) (sCons (sK (.int 0)) (sCons (sCallV M (sGr 0 (sGv (sBin gAdd (sVar 3) (sK (.int 1))) sG0))) (sCons (sVar 6) sNil)))))) (sVar 4))) [.io bag, s1, s2, .val (.int k), .val (.int u), .own L, .val (.int n)] = .nx [.io bag1, s1, s2, .val (.int k), .val (.int u), .own (L ++ [.int v]), .val (.int n)] := by
  have l1 : L.length < 16777216 := by omega
  simp [e1, ev, sizeLine, l1]
end
theorem lawP_off {m : Int} (m0 : 0 < m) (m1 : m ≤ 40) {k : Nat} (hk : k < 800000) {bag : List PyData} (hb : Pt k bag) : ∃ os bag' T, Off os ∧ (os.length : Int) < m ∧ Pt (k + 200) bag' ∧ m__law_officeP [.io bag, .val (.int m)] = .ok (.val (.tuple (nts os))) (.io bag' :: T) := by
  obtain ⟨r1, bag1, T1, a1, a2, a3, e1⟩ := drawP hb (by omega) (m := 2) (by decide) (by decide)
  have hz : ∃ z : Int, 0 < z ∧ z ≤ 40 ∧ atI [PyData.int 4, .int m] r1 = some (.int z) := by
    rw [atI_nn a1]
    have : r1 = 0 ∨ r1 = 1 := by omega
    rcases this with q | q <;> subst q
    · exact ⟨4, by omega, by omega, rfl⟩
    · exact ⟨m, m0, m1, rfl⟩
  obtain ⟨z, z0, z1, ez⟩ := hz
  obtain ⟨r2, bag2, T2, b1, b2, b3, e2⟩ := drawP a3 (by omega) (m := z) z0 (by omega)
  obtain ⟨w, bag3, T3, c1, c2, c3, e3⟩ := drawP b3 (by omega) (m := 4) (by decide) (by decide)
  obtain ⟨n, hn, n1⟩ : ∃ n : Nat, (if 1 + r2 < m then 1 + r2 else m) = ((n + 1 : Nat) : Int) ∧ ((n + 1 : Nat) : Int) ≤ m := ⟨((if 1 + r2 < m then 1 + r2 else m) - 1).toNat, by split <;> omega, by split <;> omega⟩
  have u1 := t_po1 (s3 := .nil) (s4 := .nil) (s5 := .nil) (s6 := .nil) e1 ez e2
  rw [hn] at u1
  obtain ⟨S', el, bg, os, x3, x6, d1, d2, d3, d4, d6, rfl⟩ := loop_inv (g := gNm 3) (b := sSeq q_po3 q_po4) (ds := rng 0 n) (P := fun i S => ∃ bag os x3 x6, Pt (k + 3 + 2 * i) bag ∧ os.length = i ∧ (∀ (j y : Nat), os[j]? = some y → y ≤ j) ∧ bare (some x3) = true ∧ bare (some x6) = true ∧ S = [.io bag, .val (.int m), .val (.int ((n + 1 : Nat) : Int)), x3, .val (.int w), .own (nts os), x6])
    (S := [.io bag3, .val (.int m), .val (.int ((n + 1 : Nat) : Int)), .nil, .val (.int w), .own [], .nil]) ⟨bag3, [], .nil, .nil, c3, rfl, fun j y h => by simp at h, rfl, rfl, rfl⟩ fun i z S hz hS => by
    obtain ⟨bg, os, x3, x6, d1, d2, d3, d4, d6, rfl⟩ := hS
    obtain ⟨ez, hi⟩ := rng_get hz
    rw [Int.zero_add] at ez
    subst ez
    obtain ⟨r4, bag4, T4, f1, f2, f3, e4⟩ := drawP d1 (by omega) (m := 4) (by decide) (by decide)
    obtain ⟨r5, bag5, T5, g1, g2, g3, e5⟩ := drawP f3 (by omega) (m := (i : Int) + 1) (by omega) (by omega)
    have hv : ∃ v : Int, 0 ≤ v ∧ v ≤ i ∧ atI [PyData.int i, .int 0, .int r5, .int ((i : Int) - (if r4 < (i : Int) then r4 else (i : Int)))] w = some (.int v) := by
      rw [atI_nn c1]
      have : w = 0 ∨ w = 1 ∨ w = 2 ∨ w = 3 := by omega
      rcases this with q | q | q | q <;> subst q
      · exact ⟨i, by omega, by omega, rfl⟩
      · exact ⟨0, by omega, by omega, rfl⟩
      · exact ⟨r5, by omega, by omega, rfl⟩
      · exact ⟨_, by split <;> omega, by split <;> omega, rfl⟩
    obtain ⟨v, v0, v1, ev⟩ := hv
    have u3 := t_po3 (s1 := .val (.int m)) (s2 := .val (.int ((n + 1 : Nat) : Int))) (s4 := .val (.int w)) (s5 := .own (nts os)) (k := (i : Int)) e4 d6
    have u4 := t_po4 (s1 := .val (.int m)) (s2 := .val (.int ((n + 1 : Nat) : Int))) (L := nts os) (k := (i : Int)) e5 ev (by rw [nts_len]; omega)
    refine ⟨[.io bg, .val (.int m), .val (.int ((n + 1 : Nat) : Int)), .val (.int (i : Nat)), .val (.int w), .own (nts os), x6], _, by simp [d4], ?_, bag5, os ++ [v.toNat], .val (.int (i : Nat)), .val (.int ((i : Int) - (if r4 < (i : Int) then r4 else (i : Int)))), g3.mono (by omega), by simp [d2], ?_, rfl, rfl, by rw [← nts_snoc v0]⟩
    · rw [r_sSeq, show q_po3 _ = _ from u3, sq_nx, show q_po4 _ = _ from u4]
    · intro j y h
      by_cases q : j < os.length
      · rw [List.getElem?_append_left q] at h
        exact d3 j y h
      · have : j < (os ++ [v.toNat]).length := (List.getElem?_eq_some_iff.mp h).1
        have ej : j = os.length := by simp at this; omega
        subst ej
        simp at h
        omega
  rw [rng_len] at d1 d2
  have hlen : os.length = n := by omega
  refine ⟨os, bg, [.val (.int m), .val (.int ((n + 1 : Nat) : Int)), x3, .val (.int w), .own (nts os), x6], ⟨by omega, d3⟩, by omega, d1.mono (by omega), ?_⟩
  have hr : sRng1 (sCons (sBin gSub_ (sVar 2) (sK (.int 1))) sNil) [.io bag3, .val (.int m), .val (.int ((n + 1 : Nat) : Int)), .nil, .val (.int w), .own [], .nil] = .ok (rng 0 n) [.io bag3, .val (.int m), .val (.int ((n + 1 : Nat) : Int)), .nil, .val (.int w), .own [], .nil] :=
    rng1_run (ds := [.int (((n + 1 : Nat) : Int) - 1)]) (by simp) (by rw [show ((n + 1 : Nat) : Int) - 1 = (n : Int) by omega]; exact rng1_ok (by omega) (by omega))
  rw [m__law_officeP, r_mB]
  show (c__law_officeP [.io bag, .val (.int m), .nil, .nil, .nil, .nil, .nil]).fin = _
  rw [c_offP_eq, r_sSeq, show q_po1 _ = _ from u1, sq_nx, r_sSeq, show q_po2 _ = _ from t_po2 e3, sq_nx, r_sSeq, r_sFor, hr, stt_ok, el, sq_nx]
  simp [lTup]
theorem popsP {g : GT} {e : SE} {vs : List Nat} {E : List PyData → List Str → En} (step : ∀ (k : Nat) (bag : List PyData) (pool : List Str) (j : Int), Pt k bag → k < 900000 → 0 < pool.length → pool.length ≤ 1000 → ∃ bag' r S2 S4, Pt (k + 1) bag' ∧ r < pool.length ∧ g (.int j) (E bag pool) = .nx S2 ∧ e S2 = .ok (.str (nmAt pool r)) S4 ∧ wipeS vs S4 = E bag' (pool.eraseIdx r))
    {k n : Nat} {bag : List PyData} {ys : List Str} (hb : Pt k bag) (hk : k < 800000) (hn : n ≤ ys.length) (hy : ys.length ≤ 1000) : ∃ a bag' rest, lcL g sYes e vs (rng 0 n) (E bag ys) = .ok (sts a) (E bag' rest) ∧ Pt (k + n) bag' ∧ a.length = n ∧ (a ++ rest).Perm ys := by
  obtain ⟨zs, S', h1, bag', a, rest, h2, h3, h4, h5, h6⟩ := lc_inv (g := g) (t := sYes) (e := e) (vs := vs) (ds := rng 0 n) (P := fun i acc S => ∃ bag a rest, Pt (k + i) bag ∧ acc = sts a ∧ a.length = i ∧ (a ++ rest).Perm ys ∧ S = E bag rest) (acc := []) (S := E bag ys) ⟨bag, [], ys, hb, rfl, rfl, List.Perm.refl _, rfl⟩ fun i d acc S hd hP => by
    obtain ⟨bag, a, rest, h1, rfl, h3, h4, rfl⟩ := hP
    obtain ⟨rfl, hi⟩ := rng_get hd
    have hl := h4.length_eq
    rw [List.length_append] at hl
    obtain ⟨bag', r, S2, S4, g1, g2, g3, g4, g5⟩ := step (k + i) bag rest (0 + (i : Int)) h1 (by omega) (by omega) (by omega)
    refine ⟨S2, true, S2, g3, rfl, (fun z => by cases z), fun _ => ⟨_, S4, g4, bag', a ++ [nmAt rest r], rest.eraseIdx r, g1, by rw [← sts_app]; rfl, by simp [h3], ?_, g5⟩⟩
    rw [List.append_assoc]
    exact ((erase_perm (nmAt_get g2)).append_left a).trans h4
  rw [List.nil_append] at h3
  subst h3
  rw [rng_len] at h2 h4
  refine ⟨a, bag', rest, by rw [h1, h6], h2.mono (by omega), by omega, h5⟩
def q_mixP : SN := sLc (sRng1 (sCons (sCallB gLen (sCons (sVar 1) sNil)) sNil)) (gNm 3) sYes (sPop 2 (sCallV m__law_drawP (sGr 0 (sGv (sRd lLen (sLVar 2)) sG0)))) [3]
theorem c_mixP_eq : c__law_mixedP = sSeq (sSetNew 2 (sListN (sCons (sVar 1) sNil))) (sRetNew q_mixP) := rfl
theorem lawP_mixed {k : Nat} {bag : List PyData} {ss : List Str} {d : PyData} (hd : d = .list (sts ss) ∨ d = .tuple (sts ss)) (hb : Pt k bag) (hk : k < 700000) (hn : ss.length ≤ 100) : ∃ a bag' T, a.Perm ss ∧ Pt (k + 100) bag' ∧ m__law_mixedP [.io bag, .val d] = .ok (.own (sts a)) (.io bag' :: T) := by
  obtain ⟨a, bag', rest, h1, h2, h3, h4⟩ := popsP (g := gNm 3) (e := sPop 2 (sCallV m__law_drawP (sGr 0 (sGv (sRd lLen (sLVar 2)) sG0)))) (vs := [3]) (E := fun bag pool => [.io bag, .val d, .own (sts pool), .nil]) (fun k bag pool j hb hk h0 h1 => by
    obtain ⟨r, bag', T, r0, r1, r2, e⟩ := drawP hb (by omega) (m := (pool.length : Int)) (by omega) (by omega)
    refine ⟨bag', r.toNat, [.io bag, .val d, .own (sts pool), .val (.int j)], [.io bag', .val d, .own (sts (pool.eraseIdx r.toNat)), .val (.int j)], r2, by omega, by simp, ?_, by simp [wipeS]⟩
    have p := pop_ok r0 r1 (by omega)
    simp [lLen, sts_len, e, p]) hb (by omega) (Nat.le_refl ss.length) (by omega)
  have rest0 : rest = [] := by
    have := h4.length_eq
    rw [List.length_append, h3] at this
    exact List.length_eq_zero_iff.mp (by omega)
  rw [rest0, List.append_nil] at h4
  refine ⟨a, bag', [.val d, .own (sts rest), .nil], h4, h2.mono (by omega), ?_⟩
  have l1 : ss.length < 16777216 := by omega
  have s1 : sSetNew 2 (sListN (sCons (sVar 1) sNil)) [.io bag, .val d, .nil, .nil] = .nx [.io bag, .val d, .own (sts ss), .nil] := by
    rcases hd with rfl | rfl <;> simp
  have gl : gLen [d] = some (.int ss.length) := by
    rcases hd with rfl | rfl
    · show some (PyData.int (sts ss).length) = _
      rw [sts_len]
    · show some (PyData.int (sts ss).length) = _
      rw [sts_len]
  have hr : sRng1 (sCons (sCallB gLen (sCons (sVar 1) sNil)) sNil) [.io bag, .val d, .own (sts ss), .nil] = .ok (rng 0 ss.length) [.io bag, .val d, .own (sts ss), .nil] :=
    rng1_run (ds := [.int (ss.length : Nat)]) (by simp [gl]) (rng1_ok (by omega) (by omega))
  have s3 : q_mixP [.io bag, .val d, .own (sts ss), .nil] = .ok (sts a) [.io bag', .val d, .own (sts rest), .nil] := by
    simp [q_mixP, -r_sRng1, hr, rng_len, wipeS, h1, unwipe, sizeLine, l1]
  rw [m__law_mixedP, r_mB]
  show (c__law_mixedP [.io bag, .val d, .nil, .nil]).fin = _
  rw [c_mixP_eq, r_sSeq, s1, sq_nx]
  simp [s3]
def POOLP : List Str := (LET.cps.toList.map fun c => (⟨#[c]⟩ : Str)) ++ (LET.cps.toList.map fun c => Str.ofString "a" ++ (⟨#[c]⟩ : Str)) ++ ((Str.ofString "xyz").cps.toList.map fun c => Str.ofString "zzzzzzz" ++ (⟨#[c]⟩ : Str))
theorem poolP_len : POOLP.length = 55 := by decide +kernel
theorem poolP_nd : POOLP.Nodup := by decide +kernel
theorem poolP_all : (POOLP.all fun s => decide (1 ≤ s.length) && decide (s.length ≤ 8) && s.cps.toList.all fun c => decide (97 ≤ c) && decide (c ≤ 122)) = true := by decide +kernel
theorem poolP_nm {s : Str} (h : s ∈ POOLP) : Nm s := by
  have := List.all_eq_true.mp poolP_all s h
  simp only [Bool.and_eq_true, decide_eq_true_eq, List.all_eq_true] at this
  exact ⟨this.1.1, this.1.2, this.2⟩
def q_pn1 : SN := sLc (sIS (sVar 2)) (gNm 5) sYes (sVar 5) [5]
def q_pn2 : SN := sLc (sIS (sVar 2)) (gNm 5) sYes (sBin gAdd (sK (.str (Str.ofString "a"))) (sVar 5)) [5]
def q_pn3 : SN := sLc (sIS (sK (.str (Str.ofString "xyz")))) (gNm 4) sYes (sBin gAdd (sK (.str (Str.ofString "zzzzzzz"))) (sVar 4)) [4]
def q_pn4 : SS := sSet 3 (sBin gAdd (sBin gAdd (sNE q_pn1) (sNE q_pn2)) (sNE q_pn3))
def q_pn5 : SS := sRet (sCallB gTupT (sCons (sCut (sNE (sCallN m__law_mixedP (sGr 0 (sGv (sVar 3) sG0)))) sP0 (sP1 (sVar 1))) sNil))
theorem c_namP_eq : c__law_namesP = sSeq (sSet 2 (sK (.str (Str.ofString "abcdefghijklmnopqrstuvwxyz")))) (sSeq q_pn4 q_pn5) := rfl
theorem g_addS {h x : Str} (l : h.length + x.length ≤ 1000) : gAdd (.str h) (.str x) = some (.str (h ++ x)) := by
  show (if h.length + x.length ≤ sizeLine then some (PyData.str (h ++ x)) else none) = _
  rw [if_pos (by rw [sizeLine_eq]; omega)]
def catS (h : Str) (d : PyData) : PyData := match d with
  | .str x => .str (h ++ x)
  | d => d
theorem signs_map (x : Str) (h : Str) : (signs x).map (catS h) = sts (x.cps.toList.map fun c => h ++ (⟨#[c]⟩ : Str)) := by
  unfold signs sts
  rw [List.map_map, List.map_map]
  rfl
theorem signs_sts (x : Str) : signs x = sts (x.cps.toList.map fun c => (⟨#[c]⟩ : Str)) := by
  unfold signs sts
  rw [List.map_map]
  rfl
theorem signs_str {x : Str} {d : PyData} (h : d ∈ signs x) : ∃ c, d = .str ⟨#[c]⟩ := by
  unfold signs at h
  obtain ⟨c, _, rfl⟩ := List.mem_map.mp h
  exact ⟨c, rfl⟩
section
variable {s0 s1 s3 s4 s5 : Sl} {x h : Str}
theorem t_sgn1 : lcL (gNm 5) sYes (sVar 5) [5] (signs x) [s0, s1, .val (.str x), s3, .nil, .nil] = .ok (sts (x.cps.toList.map fun c => (⟨#[c]⟩ : Str))) [s0, s1, .val (.str x), s3, .nil, .nil] := by
  rw [← signs_sts]
  have := lc_mapF (g := gNm 5) (e := sVar 5) (vs := [5]) (S := [s0, s1, .val (.str x), s3, .nil, .nil]) (f := id) (ds := signs x) fun d hd => ⟨[s0, s1, .val (.str x), s3, .nil, .val d], [s0, s1, .val (.str x), s3, .nil, .val d], by simp, by simp, by simp [wipeS]⟩
  rw [List.map_id] at this
  exact this
theorem t_sgn2 (hh : h.length ≤ 100) : lcL (gNm 5) sYes (sBin gAdd (sK (.str h)) (sVar 5)) [5] (signs x) [s0, s1, .val (.str x), s3, .nil, .nil] = .ok (sts (x.cps.toList.map fun c => h ++ (⟨#[c]⟩ : Str))) [s0, s1, .val (.str x), s3, .nil, .nil] := by
  rw [← signs_map]
  refine lc_mapF fun d hd => ?_
  obtain ⟨c, rfl⟩ := signs_str hd
  have l : (⟨#[c]⟩ : Str).length = 1 := rfl
  have l2 : h.length + 1 ≤ 16777216 := by omega
  refine ⟨[s0, s1, .val (.str x), s3, .nil, .val (.str ⟨#[c]⟩)], [s0, s1, .val (.str x), s3, .nil, .val (.str ⟨#[c]⟩)], by simp, ?_, by simp [wipeS]⟩
  have g : gAdd (.str h) (.str ⟨#[c]⟩) = some (.str (h ++ ⟨#[c]⟩)) := g_addS (by rw [l]; omega)
  simp [g, catS]
theorem t_sgn3 {y : Str} (hh : h.length ≤ 100) : lcL (gNm 4) sYes (sBin gAdd (sK (.str h)) (sVar 4)) [4] (signs x) [s0, s1, .val (.str y), s3, .nil, .nil] = .ok (sts (x.cps.toList.map fun c => h ++ (⟨#[c]⟩ : Str))) [s0, s1, .val (.str y), s3, .nil, .nil] := by
  rw [← signs_map]
  refine lc_mapF fun d hd => ?_
  obtain ⟨c, rfl⟩ := signs_str hd
  have l : (⟨#[c]⟩ : Str).length = 1 := rfl
  refine ⟨[s0, s1, .val (.str y), s3, .val (.str ⟨#[c]⟩), .nil], [s0, s1, .val (.str y), s3, .val (.str ⟨#[c]⟩), .nil], by simp, ?_, by simp [wipeS]⟩
  have g : gAdd (.str h) (.str ⟨#[c]⟩) = some (.str (h ++ ⟨#[c]⟩)) := g_addS (by rw [l]; omega)
  simp [g, catS]
end
def cpP : List Str := LET.cps.toList.map fun c => (⟨#[c]⟩ : Str)
def cpA : List Str := LET.cps.toList.map fun c => Str.ofString "a" ++ (⟨#[c]⟩ : Str)
def cpZ : List Str := (Str.ofString "xyz").cps.toList.map fun c => Str.ofString "zzzzzzz" ++ (⟨#[c]⟩ : Str)
theorem cpP_len : cpP.length = 26 := by decide +kernel
theorem cpA_len : cpA.length = 26 := by decide +kernel
theorem cpZ_len : cpZ.length = 3 := by decide +kernel
theorem a_len : (Str.ofString "a").length ≤ 100 := by decide +kernel
theorem z_len : (Str.ofString "zzzzzzz").length ≤ 100 := by decide +kernel
section
variable {q1 q2 q3 : SN} {A B C : List Str} {s0 s1 s2 s3 : Sl}
theorem t_pn4 (e1 : q1 [s0, s1, s2, .nil, .nil, .nil] = .ok (sts A) [s0, s1, s2, .nil, .nil, .nil]) (e2 : q2 [s0, s1, s2, .nil, .nil, .nil] = .ok (sts B) [s0, s1, s2, .nil, .nil, .nil]) (e3 : q3 [s0, s1, s2, .nil, .nil, .nil] = .ok (sts C) [s0, s1, s2, .nil, .nil, .nil]) (l : A.length + B.length + C.length < 1000) :
    sSet 3 (sBin gAdd (sBin gAdd (sNE q1) (sNE q2)) (sNE q3)) [s0, s1, s2, .nil, .nil, .nil] = .nx [s0, s1, s2, .val (.list (sts (A ++ B ++ C))), .nil, .nil] := by
  have g1 : gAdd (.list (sts A)) (.list (sts B)) = some (.list (sts (A ++ B))) := by
    show (if (sts A).length + (sts B).length ≤ sizeLine then some (PyData.list (sts A ++ sts B)) else none) = _
    rw [if_pos (by rw [sts_len, sts_len, sizeLine_eq]; omega), sts_app]
  have g2 : gAdd (.list (sts (A ++ B))) (.list (sts C)) = some (.list (sts (A ++ B ++ C))) := by
    show (if (sts (A ++ B)).length + (sts C).length ≤ sizeLine then some (PyData.list (sts (A ++ B) ++ sts C)) else none) = _
    rw [if_pos (by rw [sts_len, sts_len, List.length_append, sizeLine_eq]; omega), sts_app]
  simp [e1, e2, e3, g1, g2]
theorem t_pn5 {M : Mf} {T : En} {bag bag1 F : List PyData} {n : Nat} {z : PyData} (e : M [.io bag, .val z] = .ok (.own F) (.io bag1 :: T)) : ∃ U, sRet (sCallB gTupT (sCons (sCut (sNE (sCallN M (sGr 0 (sGv (sVar 3) sG0)))) sP0 (sP1 (sVar 1))) sNil)) [.io bag, .val (.int (n : Nat)), s2, .val z, .nil, .nil] = .rt (.val (.tuple (cutD F none (some (n : Int))))) (.io bag1 :: U) := by
  have gc : gCut (.list F) none (some (n : Int)) = some (.list (cutD F none (some (n : Int)))) := rfl
  have gt : ∀ L, gTupT [.list L] = some (.tuple L) := fun L => rfl
  refine ⟨[.val (.int (n : Nat)), s2, .val z, .nil, .nil], ?_⟩
  simp [e, gc, gt]
end
theorem lawP_namesQ {k n : Nat} {bag : List PyData} (hb : Pt k bag) (hk : k < 700000) (hn : n ≤ 40) : ∃ ss bag' T, ss.length = n ∧ ss.Nodup ∧ (∀ s ∈ ss, s ∈ POOLP) ∧ Pt (k + 100) bag' ∧ m__law_namesP [.io bag, .val (.int (n : Nat))] = .ok (vS ss) (.io bag' :: T) := by
  obtain ⟨a, bag', T, h1, h2, e⟩ := lawP_mixed (ss := POOLP) (d := .list (sts POOLP)) (.inl rfl) hb hk (by rw [poolP_len]; omega)
  have hl := h1.length_eq
  rw [poolP_len] at hl
  have hs : ∀ z ∈ a.take n, z ∈ POOLP := fun z hz => h1.mem_iff.mp (List.mem_of_mem_take hz)
  have e1 : q_pn1 [.io bag, .val (.int (n : Nat)), .val (.str LET), .nil, .nil, .nil] = .ok (sts cpP) [.io bag, .val (.int (n : Nat)), .val (.str LET), .nil, .nil, .nil] := by
    have t := t_sgn1 (x := LET) (s0 := .io bag) (s1 := .val (.int (n : Nat))) (s3 := .nil)
    have l := cpP_len
    simp [q_pn1, wipeS, t, unwipe, sizeLine, asS, sts_len, signs_len, let_size]
    try rfl
  have e2 : q_pn2 [.io bag, .val (.int (n : Nat)), .val (.str LET), .nil, .nil, .nil] = .ok (sts cpA) [.io bag, .val (.int (n : Nat)), .val (.str LET), .nil, .nil, .nil] := by
    have t := t_sgn2 (x := LET) (h := Str.ofString "a") (s0 := .io bag) (s1 := .val (.int (n : Nat))) (s3 := .nil) a_len
    have l := cpA_len
    simp [q_pn2, wipeS, t, unwipe, sizeLine, asS, sts_len, signs_len, let_size]
    try rfl
  have e3 : q_pn3 [.io bag, .val (.int (n : Nat)), .val (.str LET), .nil, .nil, .nil] = .ok (sts cpZ) [.io bag, .val (.int (n : Nat)), .val (.str LET), .nil, .nil, .nil] := by
    have t := t_sgn3 (x := Str.ofString "xyz") (h := Str.ofString "zzzzzzz") (y := LET) (s0 := .io bag) (s1 := .val (.int (n : Nat))) (s3 := .nil) z_len
    have l := cpZ_len
    have l2 : (Str.ofString "xyz").cps.size = 3 := by decide +kernel
    simp [q_pn3, wipeS, t, unwipe, sizeLine, asS, sts_len, signs_len, l2]
    try rfl
  obtain ⟨U, e5⟩ := t_pn5 (n := n) (s2 := .val (.str LET)) e
  refine ⟨a.take n, bag', U, by rw [List.length_take]; omega, (h1.nodup_iff.mpr poolP_nd).sublist (List.take_sublist _ _), hs, h2, ?_⟩
  rw [take_sts (by omega), show POOLP = cpP ++ cpA ++ cpZ from rfl] at e5
  rw [m__law_namesP, r_mB]
  show (c__law_namesP [.io bag, .val (.int (n : Nat)), .nil, .nil, .nil, .nil]).fin = _
  rw [c_namP_eq, r_sSeq, show sSet 2 (sK (.str (Str.ofString "abcdefghijklmnopqrstuvwxyz"))) [.io bag, .val (.int (n : Nat)), .nil, .nil, .nil, .nil] = .nx [.io bag, .val (.int (n : Nat)), .val (.str LET), .nil, .nil, .nil] from by simp [LET], sq_nx, r_sSeq, show q_pn4 _ = _ from t_pn4 e1 e2 e3 (by rw [cpP_len, cpA_len, cpZ_len]; decide), sq_nx]
  rw [show q_pn5 _ = _ from e5]
  rfl
theorem lawP_names {k n : Nat} {bag : List PyData} (hb : Pt k bag) (hk : k < 700000) (hn : n ≤ 40) : ∃ ss bag' T, ss.length = n ∧ ss.Nodup ∧ (∀ s ∈ ss, Nm s) ∧ Pt (k + 100) bag' ∧ m__law_namesP [.io bag, .val (.int (n : Nat))] = .ok (vS ss) (.io bag' :: T) := by
  obtain ⟨ss, bag', T, h1, h2, h3, h4, h5⟩ := lawP_namesQ hb hk hn
  exact ⟨ss, bag', T, h1, h2, fun s hs => poolP_nm (h3 s hs), h4, h5⟩
end Ds
end
section
set_option Elab.async false
set_option linter.all false
set_option maxRecDepth 100000
set_option maxHeartbeats 1000000
open PySem PySem.Spec PyProof.Rows L2
namespace Ds
structure FitZ (k w : Nat) (d : PyData) : Prop where
  sh : d.showable = true
  lv : d.leavesShort 40 = true
  dp : d.depth ≤ k
  wt : d.weight ≤ w
  dz : dzD d = true
theorem Fit.z {k w : Nat} {d : PyData} (f : Fit k w d) : FitZ k w d := ⟨f.sh, f.lv, f.dp, f.wt, dz_of d f.nd⟩
theorem FitZ.mono {k w k' w' : Nat} {d : PyData} (f : FitZ k w d) (h1 : k ≤ k') (h2 : w ≤ w') : FitZ k' w' d := ⟨f.sh, f.lv, Nat.le_trans f.dp h1, Nat.le_trans f.wt h2, f.dz⟩
theorem FitZ.okR {k w : Nat} {d : PyData} (f : FitZ k w d) (h1 : k ≤ 64 := by decide) (h2 : w ≤ 300000 := by decide) : Ds.okR d := by
  refine ⟨f.sh, Nat.le_trans f.dp h1, ?_, .inr f.dz⟩
  have h := PyData.shown_le 40 (by decide) d f.lv
  have h3 : (40 + 2) * d.weight ≤ 42 * 300000 := Nat.mul_le_mul (by omega) (Nat.le_trans f.wt h2)
  rw [sizeLine_eq]
  omega
theorem fitz_all {k w : Nat} : ∀ {ds : List PyData}, (∀ d ∈ ds, FitZ k w d) → PyData.showableAll ds = true ∧ PyData.leavesShortAll 40 ds = true ∧ PyData.depthAll ds ≤ k ∧ PyData.weightAll ds ≤ (w + 1) * ds.length ∧ dzDs ds = true
  | [], _ => ⟨rfl, rfl, Nat.zero_le _, Nat.zero_le _, by simp [dzDs]⟩
  | d :: ds, h => by
    have f := h d List.mem_cons_self
    obtain ⟨a, b, c, e, g⟩ := fitz_all fun x hx => h x (List.mem_cons_of_mem _ hx)
    refine ⟨by simp only [PyData.showableAll, f.sh, a, Bool.and_self], by simp only [PyData.leavesShortAll, f.lv, b, Bool.and_self], ?_, ?_, by simp only [dzDs, f.dz, g, Bool.and_self]⟩
    · have := f.dp; simp only [PyData.depthAll]; omega
    · have := f.wt; simp only [PyData.weightAll, List.length_cons, Nat.mul_add]; omega
theorem fitz_list {k w n : Nat} {ds : List PyData} (h : ∀ d ∈ ds, FitZ k w d) (hn : ds.length ≤ n) : FitZ (k + 1) ((w + 1) * n) (.list ds) := by
  obtain ⟨a, b, c, e, g⟩ := fitz_all h
  have := Nat.mul_le_mul_left (w + 1) hn
  exact ⟨by simpa only [PyData.showable] using a, by simpa only [PyData.leavesShort] using b, by simp only [PyData.depth]; omega, by simp only [PyData.weight]; omega, by simpa only [dzD] using g⟩
theorem fitz_tup {k w n : Nat} {ds : List PyData} (h : ∀ d ∈ ds, FitZ k w d) (hn : ds.length ≤ n) : FitZ (k + 1) ((w + 1) * n) (.tuple ds) := by
  obtain ⟨a, b, c, e, g⟩ := fitz_all h
  have := Nat.mul_le_mul_left (w + 1) hn
  exact ⟨by simpa only [PyData.showable] using a, by simpa only [PyData.leavesShort] using b, by simp only [PyData.depth]; omega, by simp only [PyData.weight]; omega, by simpa only [dzD] using g⟩
end Ds
end
section
set_option Elab.async false
set_option linter.all false
set_option maxRecDepth 100000
set_option maxHeartbeats 1000000
open PySem PySem.Spec PyProof.Rows L2
namespace Ds
def q_alc : SN := sLc (sISq (sVar 0)) (gNm 5) (sTst (sBin (gInT true) (sVar 5) (sVar 4))) (sBin gAdd (sVar 4) (sTup (sCons (sVar 5) sNil))) [5]
def q_ale : SS := sDrop (sExt 3 (sNE q_alc))
def q_alb : SS := sSeq (sSetNew 3 (sLst sNil)) (sSeq (sFor (sISq (sVar 1)) (gNm 4) q_ale) (sFrz 3 (sSet 1 (sVar 3))))
theorem c_al_eq : c__law_allP = sSeq (sSet 1 (sNE (sLst (sCons (sTup sNil) sNil)))) (sSeq (sFor (sRng1 (sCons (sCallB gLen (sCons (sVar 0) sNil)) sNil)) (gNm 2) q_alb) (sRet (sVar 1))) := rfl
theorem tS_app {a b : List (List Str)} : tS (a ++ b) = tS a ++ tS b := List.map_append ..
section
variable {ss t : List Str}
def addT (t : List Str) : PyData → PyData
  | .str x => mkQ (t ++ [x])
  | d => d
theorem alc_ok (h : ss.length ≤ 100) (ht : t.length ≤ 100) {s1 s2 s3 : Sl} : q_alc [vS ss, s1, s2, s3, vS t, .nil] = .ok (tS (nxtL ss t)) [vS ss, s1, s2, s3, vS t, .nil] := by
  have lc : lcL (gNm 5) (sTst (sBin (gInT true) (sVar 5) (sVar 4))) (sBin gAdd (sVar 4) (sTup (sCons (sVar 5) sNil))) [5] (sts ss) [vS ss, s1, s2, s3, vS t, .nil] = .ok (((sts ss).filter fun d => match d with | PyData.str x => !decide (x ∈ t) | _ => false).map (addT t)) [vS ss, s1, s2, s3, vS t, .nil] := by
    refine lc_filtF fun d hd => ?_
    obtain ⟨x, hx, rfl⟩ := List.mem_map.mp hd
    have ga : gAdd (.tuple (sts t)) (.tuple [.str x]) = some (mkQ (t ++ [x])) := by
      show (if (sts t).length + 1 ≤ sizeLine then some (PyData.tuple (sts t ++ sts [x])) else none) = _
      rw [if_pos (by rw [sts_len, sizeLine_eq]; omega), sts_app]
      rfl
    refine ⟨[vS ss, s1, s2, s3, vS t, .val (.str x)], [vS ss, s1, s2, s3, vS t, .val (.str x)], by simp, by simp, by simp [wipeS], fun _ => ⟨[vS ss, s1, s2, s3, vS t, .val (.str x)], ?_, by simp [wipeS]⟩⟩
    simp [ga, sizeLine, addT]
  have e : ((sts ss).filter fun d => match d with | PyData.str x => !decide (x ∈ t) | _ => false).map (addT t) = tS (nxtL ss t) := by
    unfold sts nxtL
    rw [List.filter_map, List.map_map, tS, List.map_map]
    congr 1
    apply List.filter_congr
    intro x _
    show (!decide (x ∈ t)) = decide (x ∉ t)
    simp
  rw [e] at lc
  have l1 : ss.length < 16777216 := by omega
  generalize tS (nxtL ss t) = F at *
  simp [q_alc, wipeS, lc, unwipe, sizeLine, sts_len, l1]
theorem ale_ok {F G : List PyData} {s0 s1 s2 s4 s5 : Sl} (e : q_alc [s0, s1, s2, .own F, s4, s5] = .ok G [s0, s1, s2, .own F, s4, s5]) (hl : F.length + G.length ≤ 1000000) : q_ale [s0, s1, s2, .own F, s4, s5] = .nx [s0, s1, s2, .own (F ++ G), s4, s5] := by
  have l : F.length + G.length ≤ 16777216 := by omega
  simp [q_ale, e, asLT, sizeLine, l, upL]
theorem alb_ok (h6 : ss.length ≤ 7) {us : List (List Str)} (hu : us.length ≤ 823543) (hf : (us.flatMap (nxtL ss)).length ≤ 823543) (ht : ∀ u ∈ us, u.length ≤ 7) {s2 s3 s4 : Sl} (h3 : noio (some s3) = true) (h4 : bare (some s4) = true) : ∃ y4, bare (some y4) = true ∧ q_alb [vS ss, .val (.list (tS us)), s2, s3, s4, .nil] = .nx [vS ss, .val (.list (tS (us.flatMap (nxtL ss)))), s2, .val (.list (tS (us.flatMap (nxtL ss)))), y4, .nil] := by
  obtain ⟨S', el, y4, b4, rfl⟩ := loop_inv (g := gNm 4) (b := q_ale) (ds := tS us) (P := fun i S => ∃ y4, bare (some y4) = true ∧ S = [vS ss, .val (.list (tS us)), s2, .own (tS ((us.take i).flatMap (nxtL ss))), y4, .nil]) (S := [vS ss, .val (.list (tS us)), s2, .own [], s4, .nil]) ⟨s4, h4, rfl⟩ fun i d S hd hP => by
    obtain ⟨y4, b4, rfl⟩ := hP
    rw [List.getElem?_map] at hd
    cases e : us[i]? with
    | none => rw [e] at hd; cases hd
    | some u =>
      rw [e] at hd
      cases hd
      have li := (List.getElem?_eq_some_iff.mp e).1
      have tk : us.take (i + 1) = us.take i ++ [u] := by
        rw [List.take_succ_eq_append_getElem li]
        rw [List.getElem?_eq_getElem li] at e
        rw [Option.some.inj e]
      have fl : (us.take (i + 1)).flatMap (nxtL ss) = (us.take i).flatMap (nxtL ss) ++ nxtL ss u := by
        rw [tk, List.flatMap_append]
        simp
      have le : ((us.take (i + 1)).flatMap (nxtL ss)).length ≤ 823543 := by
        have : us.flatMap (nxtL ss) = (us.take (i + 1)).flatMap (nxtL ss) ++ (us.drop (i + 1)).flatMap (nxtL ss) := by
          rw [← List.flatMap_append, List.take_append_drop]
        rw [this, List.length_append] at hf
        omega
      rw [fl, List.length_append] at le
      have hm := List.mem_of_getElem? e
      have q := alc_ok (ss := ss) (t := u) (by omega) (by have := ht u hm; omega) (s1 := .val (.list (tS us))) (s2 := s2) (s3 := .own (tS ((us.take i).flatMap (nxtL ss))))
      refine ⟨[vS ss, .val (.list (tS us)), s2, .own (tS ((us.take i).flatMap (nxtL ss))), vS u, .nil], _, ?_, ale_ok q (by rw [tS_len, tS_len]; omega), vS u, rfl, ?_⟩
      · have : gNm 4 (mkQ u) [vS ss, .val (.list (tS us)), s2, .own (tS ((us.take i).flatMap (nxtL ss))), y4, .nil] = .nx [vS ss, .val (.list (tS us)), s2, .own (tS ((us.take i).flatMap (nxtL ss))), .val (mkQ u), .nil] := by simp [b4]
        exact this
      · rw [fl, tS_app]
  rw [tS_len, List.take_length] at el
  refine ⟨y4, b4, ?_⟩
  have s1 : sSetNew 3 (sLst sNil) [vS ss, .val (.list (tS us)), s2, s3, s4, .nil] = .nx [vS ss, .val (.list (tS us)), s2, .own [], s4, .nil] := by simp [h3, sizeLine]
  have s2' : sISq (sVar 1) [vS ss, .val (.list (tS us)), s2, .own [], s4, .nil] = .ok (tS us) [vS ss, .val (.list (tS us)), s2, .own [], s4, .nil] := by simp
  rw [q_alb, r_sSeq, s1, sq_nx, r_sSeq, r_sFor, s2', stt_ok, el, sq_nx]
  simp
theorem lawP_all (h6 : ss.length ≤ 7) : ∃ T, m__law_allP [vS ss] = .ok (.val (.list (tS (arrL ss ss.length)))) T := by
  have pw : ∀ {k : Nat}, k ≤ ss.length → (arrL ss k).length ≤ 823543 := fun {k} hk => by
    have h1 := arr_len (ss := ss) k
    have h2 : ss.length ^ k ≤ 7 ^ k := Nat.pow_le_pow_left h6 k
    have h3 : 7 ^ k ≤ 7 ^ 7 := Nat.pow_le_pow_right (by decide) (by omega)
    have h4 : (7 : Nat) ^ 7 = 823543 := by decide
    omega
  obtain ⟨S', el, x2, x3, x4, b2, b3, b4, rfl⟩ := loop_inv (g := gNm 2) (b := q_alb) (ds := rng 0 ss.length) (P := fun i S => ∃ x2 x3 x4, bare (some x2) = true ∧ noio (some x3) = true ∧ bare (some x4) = true ∧ S = [vS ss, .val (.list (tS (arrL ss i))), x2, x3, x4, .nil]) (S := [vS ss, .val (.list (tS [[]])), .nil, .nil, .nil, .nil]) ⟨.nil, .nil, .nil, rfl, rfl, rfl, rfl⟩ fun i d S hd hP => by
    obtain ⟨x2, x3, x4, b2, b3, b4, rfl⟩ := hP
    obtain ⟨rfl, hi⟩ := rng_get hd
    have hi' : i < ss.length := by omega
    obtain ⟨y4, c4, e⟩ := alb_ok (ss := ss) h6 (us := arrL ss i) (pw (by omega)) (pw (k := i + 1) (by omega)) (fun u hu => by have := (arr_mem.mp hu).len; omega) (s2 := .val (.int (0 + (i : Nat)))) b3 b4
    exact ⟨[vS ss, .val (.list (tS (arrL ss i))), .val (.int (0 + (i : Nat))), x3, x4, .nil], _, by simp [b2], e, .val (.int (0 + (i : Nat))), .val (.list (tS (arrL ss (i + 1)))), y4, rfl, rfl, c4, rfl⟩
  have ln : (rng 0 (ss.length : Int)).length = ss.length := by rw [rng_len]; omega
  rw [ln] at el
  have s1 : sSet 1 (sNE (sLst (sCons (sTup sNil) sNil))) [vS ss, .nil, .nil, .nil, .nil, .nil] = .nx [vS ss, .val (.list (tS [[]])), .nil, .nil, .nil, .nil] := by
    simp [sizeLine]
  have hr : sRng1 (sCons (sCallB gLen (sCons (sVar 0) sNil)) sNil) [vS ss, .val (.list (tS [[]])), .nil, .nil, .nil, .nil] = .ok (rng 0 ss.length) [vS ss, .val (.list (tS [[]])), .nil, .nil, .nil, .nil] :=
    rng1_run (ds := [.int (ss.length : Nat)]) (by simp [sts_len]) (rng1_ok (by omega) (by omega))
  rw [m__law_allP, r_mB]
  show ∃ T, (c__law_allP [vS ss, .nil, .nil, .nil, .nil, .nil]).fin = _
  rw [c_al_eq, r_sSeq, s1, sq_nx, r_sSeq, r_sFor, hr, stt_ok, el, sq_nx]
  exact ⟨_, rfl⟩
end
theorem depths_eq : m__law_depthsP = m_depths := rfl
def cstW (os : List Nat) (xs p : List Str) : List Nat := (dayW os xs p).map (dep os)
theorem cst_len {os : List Nat} {xs p : List Str} : (cstW os xs p).length = xs.length := by unfold cstW; rw [List.length_map, dayW_len]
theorem ntsA {f : List Nat} {v : Nat} : nts f ++ [.int ((v : Nat) : Int)] = nts (f ++ [v]) := by simp [nts]
def q_y0 : SS := sPar 5 6 (sListN (sCons (sVar 2) sNil)) (sLst sNil)
def q_y1 : SS := sSet 7 (sLixV 5 (sVar 4))
def q_y2 : SS := sDrop (sAppend 6 (sBin gIx (sVar 1) (sVar 7)))
def q_y3a : SS := sSet 8 (sBin gIx (sVar 0) (sBin gSub_ (sVar 7) (sK (.int 1))))
def q_y3b : SS := sAsg (gTp (gNC (gSubI 5 (sVar 7)) (gNC (gSubI 5 (sVar 8)) gN0))) (sTup (sCons (sIxV 5 (sVar 8)) (sCons (sVar 4) sNil)))
def q_y3 : SS := sIf (sTst (sBin gGt (sVar 7) (sK (.int 0)))) (sSeq q_y3a q_y3b) sNx
def q_yb : SS := sSeq q_y1 (sSeq q_y2 q_y3)
theorem c_cst_eq : c__law_costsP = sSeq q_y0 (sSeq (sFor (sISq (sVar 3)) (gNm 4) q_yb) (sRet (sRd lTup (sLVar 6)))) := rfl
section
variable {s0 s1 s2 s3 s4 s5 s6 s7 s8 : Sl} {L F O : List PyData} {v w x : PyData} {d : Int}
theorem t_y0 {A : List PyData} (l1 : A.length ≤ 16777216) : q_y0 [s0, s1, .val (.tuple A), s3, .nil, .nil, .nil, .nil, .nil] = .nx [s0, s1, .val (.tuple A), s3, .nil, .own A, .own [], .nil, .nil] := by simp [q_y0, l1, sizeLine]
theorem t_y1 (g : gLIx L x = some v) (h7 : noio (some s7) = true) : q_y1 [s0, s1, s2, s3, .val x, .own L, s6, s7, s8] = .nx [s0, s1, s2, s3, .val x, .own L, s6, .val v, s8] := by simp [q_y1, g, h7]
theorem t_y2 (a : atI L d = some v) (hF : F.length < 1000000) : q_y2 [s0, .val (.list L), s2, s3, s4, s5, .own F, .val (.int d), s8] = .nx [s0, .val (.list L), s2, s3, s4, s5, .own (F ++ [v]), .val (.int d), s8] := by
  have h : F.length < 16777216 := by omega
  simp [q_y2, a, h, sizeLine]
theorem t_y3a (a : atI O (d - 1) = some v) (h8 : noio (some s8) = true) : q_y3a [.val (.tuple O), s1, s2, s3, s4, s5, s6, .val (.int d), s8] = .nx [.val (.tuple O), s1, s2, s3, s4, s5, s6, .val (.int d), .val v] := by simp [q_y3a, a, h8]
theorem t_y3b {b : Int} {L1 L2 : List PyData} (e : atI L b = some w) (e1 : setI L (.int d) w = some L1) (e2 : setI L1 (.int b) x = some L2) : q_y3b [s0, s1, s2, s3, .val x, .own L, s6, .val (.int d), .val (.int b)] = .nx [s0, s1, s2, s3, .val x, .own L2, s6, .val (.int d), .val (.int b)] := by
  simp [q_y3b, sAsg, e, e1, e2, sizeLine, gTp, gNC, R.st]
end
section
variable {os : List Nat} {ss ord : List Str}
theorem cst_loop {x2 x3 : Sl} : ∀ {names p : List Str} {f : List Nat} {x4 x7 x8 : Sl}, Case os p ord → (∀ s ∈ names, s ∈ p) → f.length + names.length ≤ 1000 → bare (some x4) = true → bare (some x7) = true → bare (some x8) = true →
    ∃ p' y4 y7 y8, loopL (gNm 4) q_yb (sts names) [vO os, .val (.list (nts (depL os))), x2, x3, x4, .own (sts p), .own (nts f), x7, x8] = .nx [vO os, .val (.list (nts (depL os))), x2, x3, y4, .own (sts p'), .own (nts (f ++ cstW os names p)), y7, y8]
  | [], p, f, x4, x7, x8, _, _, _, _, _, _ => ⟨p, x4, x7, x8, by rw [show cstW os [] p = [] from rfl, List.append_nil]; rfl⟩
  | s :: names, p, f, x4, x7, x8, c, h, hf, b4, b7, b8 => by
    have hs := h s List.mem_cons_self
    have hl := c.len
    have li := idx_lt hs
    rw [List.length_cons] at hf
    obtain ⟨c1, m1⟩ := c.call hs
    have hn : ∀ z ∈ names, z ∈ callS os p s := fun z hz => (m1 z).mpr (h z (List.mem_cons_of_mem _ hz))
    have e0 : gNm 4 (.str s) [vO os, .val (.list (nts (depL os))), x2, x3, x4, .own (sts p), .own (nts f), x7, x8] = .nx [vO os, .val (.list (nts (depL os))), x2, x3, .val (.str s), .own (sts p), .own (nts f), x7, x8] := by
      generalize nts (depL os) = Z
      simp [b4]
    have e1 := t_y1 (s0 := vO os) (s1 := .val (.list (nts (depL os)))) (s2 := x2) (s3 := x3) (s6 := .own (nts f)) (s8 := x8) (g_lix hs) (noio_bare b7)
    have e2 := t_y2 (s0 := vO os) (s2 := x2) (s3 := x3) (s4 := .val (.str s)) (s5 := .own (sts p)) (s8 := x8) (F := nts f) (dep_atN (os := os) (d := p.idxOf s) (by omega)) (by rw [nts_len]; omega)
    rw [ntsA] at e2
    have ec0 : cstW os (s :: names) p = dep os (p.idxOf s) :: cstW os names (callS os p s) := rfl
    rw [ec0]
    show ∃ p' y4 y7 y8, loopL (gNm 4) q_yb (.str s :: sts names) _ = _
    by_cases h0 : 0 < p.idxOf s
    · have u := off_at c.off (d := p.idxOf s) h0 (by omega)
      have ec : callS os p s = (p.set (p.idxOf s) (nmAt p (os.getD (p.idxOf s - 1) 0))).set (os.getD (p.idxOf s - 1) 0) s := if_pos h0
      have e3 := t_y3a (s1 := .val (.list (nts (depL os)))) (s2 := x2) (s3 := x3) (s4 := .val (.str s)) (s5 := .own (sts p)) (s6 := .own (nts (f ++ [dep os (p.idxOf s)]))) u.1 (noio_bare b8)
      have ub := u.2
      generalize os.getD (p.idxOf s - 1) 0 = b at *
      have e4 := t_y3b (s0 := vO os) (s1 := .val (.list (nts (depL os)))) (s2 := x2) (s3 := x3) (x := .str s) (s6 := .own (nts (f ++ [dep os (p.idxOf s)]))) (sts_at (ss := p) (t := b) (by omega)) (setI_sts (l := p) (s := nmAt p b) li) (setI_sts (l := p.set (p.idxOf s) (nmAt p b)) (i := b) (s := s) (by rw [List.length_set]; omega))
      rw [← ec] at e4
      have tt : sTst (sBin gGt (sVar 7) (sK (.int 0))) [vO os, .val (.list (nts (depL os))), x2, x3, .val (.str s), .own (sts p), .own (nts (f ++ [dep os (p.idxOf s)])), .val (.int ((p.idxOf s : Nat) : Int)), x8] = .ok true [vO os, .val (.list (nts (depL os))), x2, x3, .val (.str s), .own (sts p), .own (nts (f ++ [dep os (p.idxOf s)])), .val (.int ((p.idxOf s : Nat) : Int)), x8] := by
        generalize nts (depL os) = Z
        simp; omega
      obtain ⟨p', y4, y7, y8, e⟩ := cst_loop (x2 := x2) (x3 := x3) (names := names) (f := f ++ [dep os (p.idxOf s)]) (x4 := .val (.str s)) (x7 := .val (.int ((p.idxOf s : Nat) : Int))) (x8 := .val (.int ((b : Nat) : Int))) c1 hn (by simp; omega) rfl rfl rfl
      refine ⟨p', y4, y7, y8, ?_⟩
      rw [loop_nxP e0 (show q_yb _ = .nx [vO os, .val (.list (nts (depL os))), x2, x3, .val (.str s), .own (sts (callS os p s)), .own (nts (f ++ [dep os (p.idxOf s)])), .val (.int ((p.idxOf s : Nat) : Int)), .val (.int ((b : Nat) : Int))] from by
        rw [q_yb, r_sSeq, e1, sq_nx, r_sSeq, e2, sq_nx, q_y3, r_sIf, tt, stt_ok, if_pos rfl, r_sSeq, e3, sq_nx, e4]), e, List.append_assoc]
      rfl
    · have ec : callS os p s = p := if_neg h0
      have tt : sTst (sBin gGt (sVar 7) (sK (.int 0))) [vO os, .val (.list (nts (depL os))), x2, x3, .val (.str s), .own (sts p), .own (nts (f ++ [dep os (p.idxOf s)])), .val (.int ((p.idxOf s : Nat) : Int)), x8] = .ok false [vO os, .val (.list (nts (depL os))), x2, x3, .val (.str s), .own (sts p), .own (nts (f ++ [dep os (p.idxOf s)])), .val (.int ((p.idxOf s : Nat) : Int)), x8] := by
        generalize nts (depL os) = Z
        simp; omega
      obtain ⟨p', y4, y7, y8, e⟩ := cst_loop (x2 := x2) (x3 := x3) (names := names) (f := f ++ [dep os (p.idxOf s)]) (x4 := .val (.str s)) (x7 := .val (.int ((p.idxOf s : Nat) : Int))) (x8 := x8) c1 hn (by simp; omega) rfl rfl b8
      refine ⟨p', y4, y7, y8, ?_⟩
      rw [ec] at e ⊢
      rw [loop_nxP e0 (show q_yb _ = .nx [vO os, .val (.list (nts (depL os))), x2, x3, .val (.str s), .own (sts p), .own (nts (f ++ [dep os (p.idxOf s)])), .val (.int ((p.idxOf s : Nat) : Int)), x8] from by
        rw [q_yb, r_sSeq, e1, sq_nx, r_sSeq, e2, sq_nx, q_y3, r_sIf, tt, stt_ok, if_neg (by decide)]; rfl), e, List.append_assoc]
      rfl
theorem law_cst (c : Case os ss ord) : ∃ T, m__law_costsP [vO os, .val (.list (nts (depL os))), vS ss, vS ord] = .ok (.val (.tuple (nts (cstW os ord ss)))) T := by
  have hs := c.small
  obtain ⟨p', y4, y7, y8, e⟩ := cst_loop (x2 := vS ss) (x3 := vS ord) (names := ord) (f := []) (x4 := .nil) (x7 := .nil) (x8 := .nil) c c.osub (by have := c.osmall; simp; omega) rfl rfl rfl
  refine ⟨[vO os, .val (.list (nts (depL os))), vS ss, vS ord, y4, .own (sts p'), .own (nts (cstW os ord ss)), y7, y8], ?_⟩
  rw [m__law_costsP, r_mB]
  show (c__law_costsP [vO os, .val (.list (nts (depL os))), vS ss, vS ord, .nil, .nil, .nil, .nil, .nil]).fin = _
  have l1 : (sts ss).length ≤ 16777216 := by rw [sts_len]; omega
  have s2 : sISq (sVar 3) [vO os, .val (.list (nts (depL os))), vS ss, vS ord, .nil, .own (sts ss), .own [], .nil, .nil] = .ok (sts ord) [vO os, .val (.list (nts (depL os))), vS ss, vS ord, .nil, .own (sts ss), .own [], .nil, .nil] := by
    generalize nts (depL os) = Z
    simp
  have e' : loopL (gNm 4) q_yb (sts ord) [vO os, .val (.list (nts (depL os))), vS ss, vS ord, .nil, .own (sts ss), .own [], .nil, .nil] = .nx [vO os, .val (.list (nts (depL os))), vS ss, vS ord, y4, .own (sts p'), .own (nts ([] ++ cstW os ord ss)), y7, y8] := e
  rw [c_cst_eq, r_sSeq, t_y0 l1, sq_nx, r_sSeq, r_sFor, s2, stt_ok, e', sq_nx, List.nil_append]
  generalize nts (cstW os ord ss) = D
  generalize nts (depL os) = Z
  simp [lTup]
theorem depL_le : ∀ (n : Nat) (os : List Nat), os.length = n → ∀ x ∈ depL os, x ≤ n
  | 0, os, h, x, hx => by
    have : os = [] := List.length_eq_zero_iff.mp h
    subst this
    have : x = 0 := by simpa [depL] using hx
    omega
  | n + 1, os, h, x, hx => by
    rcases List.eq_nil_or_concat os with e | ⟨u, y, e⟩
    · rw [e] at h; cases h
    · have e2 : os = u ++ [y] := e.trans List.concat_eq_append
      clear e
      subst e2
      have hl : u.length = n := by simpa using h
      rw [depL_snoc] at hx
      have ih := depL_le n u hl
      rcases List.mem_append.mp hx with q | q
      · have := ih x q; omega
      · rw [List.mem_singleton.mp q]
        by_cases hy : y < (depL u).length
        · have : (depL u).getD y 0 = (depL u)[y] := by simp [List.getD, List.getElem?_eq_getElem hy]
          rw [this]
          have := ih _ (List.getElem_mem hy)
          omega
        · have : (depL u).getD y 0 = 0 := by simp [List.getD, List.getElem?_eq_none (show (depL u).length ≤ y by omega)]
          omega
theorem dep_leW {d : Nat} : dep os d ≤ os.length := by
  unfold dep
  by_cases hy : d < (depL os).length
  · have : (depL os).getD d 0 = (depL os)[d] := by simp [List.getD, List.getElem?_eq_getElem hy]
    rw [this]
    exact depL_le _ os rfl _ (List.getElem_mem hy)
  · have : (depL os).getD d 0 = 0 := by simp [List.getD, List.getElem?_eq_none (show (depL os).length ≤ d by omega)]
    omega
theorem cst_le {xs p : List Str} : ∀ x ∈ cstW os xs p, x ≤ os.length := fun x hx => by
  obtain ⟨d, _, rfl⟩ := List.mem_map.mp hx
  exact dep_leW
theorem nts_intsW {l : List Nat} : nts l = (l.map fun (x : Nat) => ((x : Nat) : Int)).map PyData.int := by unfold nts; rw [List.map_map]; rfl
def cP (d : PyData) : Bool := match d with
  | .int i => decide (0 ≤ i)
  | _ => false
def q_nk1 : SS := (sIf (sOr (sNot (sTst (sIsi "tuple" (sVar 1)))) (sTst (sBin gNe (sCallB gLen (sCons (sVar 1) sNil)) (sCallB gLen (sCons (sVar 0) sNil))))) sStop sNx)
def q_nkl : SN := sLc (sISq (sVar 1)) (gNm 2) sYes (sAndV (sCallV m_is_whole (sGv (sVar 2) sG0)) (sBin gGe (sVar 2) (sK (.int 0)))) [2]
def q_nk2 : SS := sIf (sNot (sTst (sRd lAll q_nkl))) sStop sNx
theorem c_nk_eq : c_need_costs = sSeq q_nk1 q_nk2 := rfl
theorem t_nk1 {D R : List PyData} {s2 : Sl} (h : D.length = R.length) : q_nk1 [.val (.tuple R), .val (.tuple D), s2] = .nx [.val (.tuple R), .val (.tuple D), s2] := by
  have k : kitB (tyN (.tuple D)) "tuple" = some true := by show kitB "tuple" "tuple" = some true; decide +kernel
  simp [q_nk1, k, h]
theorem t_nk2 {n : SN} {Z : List PyData} {s0 s1 s2 : Sl} (e : n [s0, s1, s2] = .ok Z [s0, s1, s2]) (h : lAll Z = some (.bool true)) : sIf (sNot (sTst (sRd lAll n))) sStop sNx [s0, s1, s2] = .nx [s0, s1, s2] := by
  simp [e, h]
theorem t_nke {M : Mf} {T : En} {x : PyData} {s0 s1 : Sl} (e : M [.val x] = .ok (.val (.bool (dInt x && !dBool x))) T) : sAndV (sCallV M (sGv (sVar 2) sG0)) (sBin gGe (sVar 2) (sK (.int 0))) [s0, s1, .val x] = .ok (.bool (cP x)) [s0, s1, .val x] := by
  cases x <;> simp [e, cP, dInt, dBool]
theorem nkl_ok {D : List PyData} (hD : D.length ≤ 1000) : q_nkl [vS ord, .val (.tuple D), .nil] = .ok (D.map fun d => .bool (cP d)) [vS ord, .val (.tuple D), .nil] := by
  have lc : lcL (gNm 2) sYes (sAndV (sCallV m_is_whole (sGv (sVar 2) sG0)) (sBin gGe (sVar 2) (sK (.int 0)))) [2] D [vS ord, .val (.tuple D), .nil] = .ok (D.map fun d => .bool (cP d)) [vS ord, .val (.tuple D), .nil] := by
    generalize hq : Sl.val (.tuple D) = q
    refine lc_mapF (f := fun d => .bool (cP d)) fun x hx => ?_
    obtain ⟨T, e⟩ := is_whole_ok x
    exact ⟨[vS ord, q, .val x], [vS ord, q, .val x], by simp, t_nke e, by simp [wipeS]⟩
  have hz : D.length < 16777216 := by omega
  generalize D.map (fun d => PyData.bool (cP d)) = Z at *
  simp [q_nkl, wipeS, lc, unwipe, hz, sizeLine]
theorem nk_ok {cs : List Int} (hc : cs.length = ord.length) (h0 : ∀ x ∈ cs, 0 ≤ x) (h4 : ord.length ≤ 1000) : ∃ T, m_need_costs [vS ord, .val (.tuple (cs.map PyData.int))] = .ok (.val .none) T := by
  refine ⟨[vS ord, .val (.tuple (cs.map PyData.int)), .nil], ?_⟩
  rw [m_need_costs, r_mB]
  show (c_need_costs [vS ord, .val (.tuple (cs.map PyData.int)), .nil]).fin = _
  have ea : lAll ((cs.map PyData.int).map fun d => PyData.bool (cP d)) = some (.bool true) := by
    have e : ((cs.map PyData.int).map fun d => PyData.bool (cP d)) = List.replicate cs.length (.bool true) := by
      rw [List.map_map, List.eq_replicate_iff]
      refine ⟨by rw [List.length_map], fun b hb => ?_⟩
      obtain ⟨x, hx, rfl⟩ := List.mem_map.mp hb
      show PyData.bool (decide (0 ≤ x)) = _
      rw [decide_eq_true (h0 x hx)]
    rw [e]
    exact lAll_true
  rw [c_nk_eq, r_sSeq, t_nk1 (by rw [sts_len, List.length_map]; exact hc), sq_nx, q_nk2, t_nk2 (nkl_ok (by rw [List.length_map]; omega)) ea]
  rfl
def q_k1 : SS := (sDrop (sCallV m_need_order (sGv (sVar 0) (sGv (sVar 1) (sGv (sVar 2) sG0)))))
def q_k2 : SS := (sDrop (sCallV m_need_costs (sGv (sVar 2) (sGv (sVar 3) sG0))))
def q_k3 : SS := (sIf (sTst (sBin gGt (sCallB gLen (sCons (sVar 1) sNil)) (sK (.int 7)))) sStop sNx)
theorem c_cw_eq : c_count_with_costs = sSeq q_k1 (sSeq q_k2 (sSeq q_k3 q_tail_W)) := rfl
abbrev sC (a b d e : PyData) : En := [.val a, .val b, .val d, .val e, .nil, .nil, .nil, .nil, .nil, .nil, .nil, .nil, .nil]
theorem t_k1 {M : Mf} {a b d e : PyData} {T : En} (h : M [.val a, .val b, .val d] = .ok (.val .none) T) : sDrop (sCallV M (sGv (sVar 0) (sGv (sVar 1) (sGv (sVar 2) sG0)))) (sC a b d e) = .nx (sC a b d e) := by simp [h]
theorem t_k2 {M : Mf} {a b d e : PyData} {T : En} (h : M [.val d, .val e] = .ok (.val .none) T) : sDrop (sCallV M (sGv (sVar 2) (sGv (sVar 3) sG0))) (sC a b d e) = .nx (sC a b d e) := by simp [h]
theorem t_k3 {a d e : PyData} {A : List PyData} {n : Int} (hn : (A.length : Int) = n) (h : ¬ n > 7) : q_k3 (sC a (.tuple A) d e) = .nx (sC a (.tuple A) d e) := by simp [q_k3, hn, h]
abbrev cwV (os : List Nat) (n k : Nat) (W : List Nat) : Nat := totC os (W.map fun (x : Nat) => ((x : Nat) : Int)) * facN (n - k)
theorem cw_ok (c : Case os ss ord) {W : List Nat} (hc : W.length = ord.length) (h7 : ss.length ≤ 7) : ∃ T, m_count_with_costs [vO os, vS ss, vS ord, .val (.tuple (nts W))] = .ok (.val (.int ((cwV os ss.length ord.length W : Nat) : Int))) T := by
  unfold cwV
  rw [nts_intsW]
  have hc' : (W.map fun (x : Nat) => ((x : Nat) : Int)).length = ord.length := by rw [List.length_map]; exact hc
  obtain ⟨T1, e1⟩ := need_ord c
  obtain ⟨T2, e2⟩ := nk_ok (ord := ord) hc' (fun x hx => by
    obtain ⟨y, _, rfl⟩ := List.mem_map.mp hx
    omega) (by have := c.osmall; omega)
  obtain ⟨T3, e3⟩ := tail_ok_W c h7 hc'
  refine ⟨T3, ?_⟩
  rw [m_count_with_costs, r_mB]
  generalize (W.map fun (x : Nat) => ((x : Nat) : Int)) = cs at *
  show (c_count_with_costs (sC (.tuple (nts os)) (.tuple (sts ss)) (.tuple (sts ord)) (.tuple (cs.map PyData.int)))).fin = _
  rw [c_cw_eq, r_sSeq, show q_k1 _ = _ from t_k1 e1, sq_nx, r_sSeq, show q_k2 _ = _ from t_k2 e2, sq_nx, r_sSeq, t_k3 (n := ((ss.length : Nat) : Int)) (by rw [sts_len]) (by omega), sq_nx, show q_tail_W _ = _ from e3]
  rfl
theorem getC_add : ∀ {c : CT} {V W : List Nat} {n : Nat}, getC (addC c V n) W = getC c W + if V = W then n else 0
  | [], V, W, n => by
    show (if V = W then n else getC [] W) = 0 + _
    rw [Nat.zero_add]
    rfl
  | (U, m) :: c, V, W, n => by
    have ih := getC_add (c := c) (V := V) (W := W) (n := n)
    unfold addC
    by_cases e : U = V
    · subst e
      rw [if_pos rfl]
      show (if U = W then m + n else getC c W) = (if U = W then m else getC c W) + _
      by_cases e2 : U = W
      · rw [if_pos e2, if_pos e2, if_pos e2]
      · rw [if_neg e2, if_neg e2, if_neg e2]; rfl
    · rw [if_neg e]
      show (if U = W then m else getC (addC c V n) W) = (if U = W then m else getC c W) + _
      by_cases e2 : U = W
      · rw [if_pos e2, if_pos e2, if_neg (fun z => e (e2.trans z.symm))]; rfl
      · rw [if_neg e2, if_neg e2, ih]
def numC (os : List Nat) (ord : List Str) (l : List (List Str)) (c : CT) : CT := l.foldl (fun acc p => addC acc (cstW os ord p) 1) c
theorem num_get {W : List Nat} : ∀ {l : List (List Str)} {c : CT}, getC (numC os ord l c) W = getC c W + (l.filter fun p => decide (cstW os ord p = W)).length
  | [], c => rfl
  | p :: l, c => by
    show getC (numC os ord l (addC c (cstW os ord p) 1)) W = _
    rw [num_get, getC_add, List.filter_cons]
    by_cases h : cstW os ord p = W
    · rw [if_pos h, if_pos (decide_eq_true h), List.length_cons]; omega
    · rw [if_neg h, if_neg (by simpa using h)]; omega
theorem num_due (c : Case os ss ord) {W : List Nat} (hc : W.length = ord.length) : getC (numC os ord (arrL ss ss.length) []) W = cwV os ss.length ord.length W := by
  unfold cwV
  rw [num_get, show getC [] W = 0 from rfl, Nat.zero_add, ← count_costs c (cs := W.map fun (x : Nat) => ((x : Nat) : Int)) (by rw [List.length_map]; exact hc)]
  congr 1
  refine List.filter_congr fun p _ => decide_eq_decide.mpr ?_
  have e : (dayW os ord p).map (depI os) = (cstW os ord p).map fun (x : Nat) => ((x : Nat) : Int) := by unfold cstW; rw [List.map_map]; rfl
  rw [e]
  exact ⟨fun z => by rw [z], fun z => (List.map_inj_right (fun a b q => by omega)).mp z⟩
end
end Ds
end
section
set_option Elab.async false
set_option linter.all false
set_option maxRecDepth 100000
set_option maxHeartbeats 1000000
open PySem PySem.Spec PyProof.Rows L2
namespace Ds
def q_r1 : SS := (sSet 2 (sCallV m__law_officeP (sGr 0 (sGv (sVar 1) sG0))))
def q_wt : STt := (sAnd (sTst (sBin gEq (sVar 1) (sK (.int 7)))) (sTst (sBin gLt (sCallB gLen (sCons (sVar 2) sNil)) (sK (.int 6)))))
def q_wb : SS := (sSet 2 (sBin gAdd (sVar 2) (sTup (sCons (sCallV m__law_drawP (sGr 0 (sGv (sBin gAdd (sCallB gLen (sCons (sVar 2) sNil)) (sK (.int 1))) sG0))) sNil))))
def q_r3 : SS := (sSet 3 (sCallV m__law_namesP (sGr 0 (sGv (sBin gAdd (sCallB gLen (sCons (sVar 2) sNil)) (sK (.int 1))) sG0))))
def q_r4 : SS := (sSet 4 (sCallB gTupT (sCons (sCut (sNE (sCallN m__law_mixedP (sGr 0 (sGv (sVar 3) sG0)))) sP0 (sP1 (sBin gSub_ (sCallB gLen (sCons (sVar 3) sNil)) (sCallV m__law_drawP (sGr 0 (sGv (sBin gIx (sNE (sLst (sCons (sK (.int 1)) (sCons (sBin gAdd (sCallB gLen (sCons (sVar 3) sNil)) (sK (.int 1))) sNil)))) (sCallV m__law_drawP (sGr 0 (sGv (sK (.int 2)) sG0)))) sG0)))))) sNil)))
def q_r5 : SS := (sParVD 10 11 (sNE (sCallN m__law_depthsP (sGv (sVar 2) sG0))))
def q_n9 : SS := (sSet 9 (sCallV m__law_costsP (sGv (sVar 2) (sGv (sVar 10) (sGv (sVar 5) (sGv (sVar 4) sG0))))))
def q_n11 : SS := (sDtPt 11 (sVar 9) (sBin gAdd (sDtGd 11 (sVar 9) (sK (.int 0))) (sK (.int 1))))
def q_it6 : SN := (sISq (sCallV m__law_allP (sGv (sVar 3) sG0)))
def q_lc7 : SN := (sLc (sRng1 (sCons (sK (.int 3)) sNil)) (gNm 7) sYes (sCallV m__law_costsP (sGv (sVar 2) (sGv (sVar 10) (sGv (sRd lTup (sCallN m__law_mixedP (sGr 0 (sGv (sVar 3) sG0)))) (sGv (sVar 4) sG0))))) [7])
def q_a12 : SS := (sSetNew 12 (sListN (sCons (sIxV 6 (sBin gMod (sVar 7) (sK (.int 3)))) sNil)))
def q_r13 : SN := (sRng1 (sCons (sBin gMul (sBin gAdd (sK (.int 1)) (sCallV m__law_drawP (sGr 0 (sGv (sK (.int 3)) sG0)))) (sCallB gInt1 (sCons (sBin gNe (sVar 4) (sTup sNil)) sNil))) sNil))
def q_b13 : SS := (sSetIx 12 (sCallV m__law_drawP (sGr 0 (sGv (sRd lLen (sLVar 12)) sG0))) (sCallV m__law_drawP (sGr 0 (sGv (sBin gAdd (sRd lMax (sLVar 10)) (sK (.int 2))) sG0))))
def q_c6 : SS := (sDrop (sAppend 6 (sRd lTup (sLVar 12))))
def q_t9 : STt := (sTst (sBin gNe (sVar 4) (sTup sNil)))
def q_u9 : SS := (sSetNew 6 (sCatV 6 (sNE (sLst (sCons (sBin gAdd (sCut (sIxV 6 (sK (.int 0))) sP0 (sP1 (sNeg (sK (.int 1))))) (sTup (sCons (sBin gPow (sK (.int 10)) (sK (.int 36))) sNil))) (sCons (sBin gAdd (sTup (sCons (sBin gAdd (sBin gAdd (sCallB gLen (sCons (sVar 3) sNil)) (sK (.int 1))) (sCallV m__law_drawP (sGr 0 (sGv (sK (.int 50)) sG0)))) sNil)) (sCut (sIxV 6 (sK (.int 1))) (sP1 (sK (.int 1))) sP0)) sNil))))))
def q_rr : SE := (sRd lRepr (sLst (sCons (sVar 2) (sCons (sVar 3) (sCons (sVar 4) (sCons (sVar 6) sNil))))))
def q_e14 : SS := (sSet 14 (sDtGd 11 (sVar 9) (sK (.int 0))))
def q_e15 : SS := (sSetNew 15 (sLst (sCons (sCallV m_count_with_costs (sGv (sVar 2) (sGv (sVar 3) (sGv (sVar 4) (sGv (sVar 9) sG0))))) sNil)))
def q_f15 : SS := (sDrop (sAppend 15 (sCallV m_count_with_costs (sGv (sVar 2) (sGv (sRd lTup (sCallN m__law_mixedP (sGr 0 (sGv (sVar 3) sG0)))) (sGv (sVar 4) (sGv (sVar 9) sG0)))))))
def q_g15 : SS := (sIf (sTst (sBin gNe (sRd lRepr (sLVar 15)) (sRd lRepr (sLst (sCons (sVar 14) (sCons (sVar 14) sNil)))))) (sRet (sK (.bool false))) sNx)
def q_nb : SS := sSeq q_n9 q_n11
def q_b12 : SS := sSeq q_a12 (sSeq (sFor q_r13 (gNm 13) q_b13) q_c6)
def q_fb : SS := sSeq q_e14 (sSeq q_e15 (sSeq q_f15 q_g15))
def q_end : SS := sSeq (sSet 8 q_rr) (sSeq (sFor (sIL (sVar 6)) (gNm 9) q_fb) (sRet (sBin gEq q_rr (sVar 8))))
theorem c_rt_eq : c__law_rightP = sSeq q_r1 (sSeq (loopW q_wt q_wb 100) (sSeq q_r3 (sSeq q_r4 (sSeq q_r5 (sSeq (sFor q_it6 (gNm 5) q_nb) (sSeq (sSetNew 6 q_lc7) (sSeq (sFor (sRng1 (sCons (sK (.int 4)) sNil)) (gNm 7) q_b12) (sSeq (sIf q_t9 q_u9 sNx) (sFrz 6 q_end))))))))) := rfl
section
variable {M N : Mf} {T1 T2 T3 : En} {o a b d r z v x : PyData} {A B D F G Z bag bag1 bag2 bag3 : List PyData} {s0 s1 s2 s3 s4 s5 s6 s7 s8 s9 s10 s11 s12 s13 s14 s15 : Sl}
theorem t_r1 {m : Int} (e : M [.io bag, .val (.int m)] = .ok (.val o) (.io bag1 :: T1)) (h2 : noio (some s2) = true) : (sSet 2 (sCallV M (sGr 0 (sGv (sVar 1) sG0)))) [.io bag, .val (.int m), s2, s3, s4, s5, s6, s7, s8, s9, s10, s11, s12, s13, s14, s15] = .nx [.io bag1, .val (.int m), .val o, s3, s4, s5, s6, s7, s8, s9, s10, s11, s12, s13, s14, s15] := by
  simp [e, h2]
theorem t_wt {m : Int} {n : Nat} (hn : A.length = n) : q_wt [s0, .val (.int m), .val (.tuple A), s3, s4, s5, s6, s7, s8, s9, s10, s11, s12, s13, s14, s15] = .ok (decide (m = 7) && decide (n < 6)) [s0, .val (.int m), .val (.tuple A), s3, s4, s5, s6, s7, s8, s9, s10, s11, s12, s13, s14, s15] := by
  subst hn
  have e : (decide ((A.length : Int) < 6)) = decide (A.length < 6) := decide_eq_decide.mpr (by omega)
  by_cases h : m = 7
  · subst h
    by_cases h2 : A.length < 6
    · have h3 : (A.length : Int) < 6 := by omega
      simp [q_wt, h2, h3]
    · have h3 : ¬ (A.length : Int) < 6 := by omega
      simp [q_wt, h2, h3]
  · simp [q_wt, h]
theorem t_wb {n u : Int} (hn : (A.length : Int) + 1 = n) (hA : A.length ≤ 1000) (e : M [.io bag, .val (.int n)] = .ok (.val (.int u)) (.io bag1 :: T1)) : (sSet 2 (sBin gAdd (sVar 2) (sTup (sCons (sCallV M (sGr 0 (sGv (sBin gAdd (sCallB gLen (sCons (sVar 2) sNil)) (sK (.int 1))) sG0))) sNil)))) [.io bag, s1, .val (.tuple A), s3, s4, s5, s6, s7, s8, s9, s10, s11, s12, s13, s14, s15] = .nx [.io bag1, s1, .val (.tuple (A ++ [.int u])), s3, s4, s5, s6, s7, s8, s9, s10, s11, s12, s13, s14, s15] := by
  subst hn
  have g : gAdd (.tuple A) (.tuple [.int u]) = some (.tuple (A ++ [.int u])) := by
    show (if A.length + 1 ≤ sizeLine then some (PyData.tuple (A ++ [.int u])) else none) = _
    rw [if_pos (by rw [sizeLine_eq]; omega)]
  simp [e, g, sizeLine]
theorem t_r3 {n : Int} (hn : (A.length : Int) + 1 = n) (e : M [.io bag, .val (.int n)] = .ok (.val a) (.io bag1 :: T1)) (h3 : noio (some s3) = true) : (sSet 3 (sCallV M (sGr 0 (sGv (sBin gAdd (sCallB gLen (sCons (sVar 2) sNil)) (sK (.int 1))) sG0)))) [.io bag, s1, .val (.tuple A), s3, s4, s5, s6, s7, s8, s9, s10, s11, s12, s13, s14, s15] = .nx [.io bag1, s1, .val (.tuple A), .val a, s4, s5, s6, s7, s8, s9, s10, s11, s12, s13, s14, s15] := by
  subst hn
  simp [e, h3]
theorem t_r4 {r1 y r2 : Int} (e1 : N [.io bag, .val (.tuple F)] = .ok (.own G) (.io bag1 :: T1)) (e2 : M [.io bag1, .val (.int 2)] = .ok (.val (.int r1)) (.io bag2 :: T2)) (ey : atI [PyData.int 1, .int ((F.length : Int) + 1)] r1 = some (.int y)) (e3 : M [.io bag2, .val (.int y)] = .ok (.val (.int r2)) (.io bag3 :: T3)) (hL : cutD G none (some ((F.length : Int) - r2)) = B) (h4 : noio (some s4) = true) : (sSet 4 (sCallB gTupT (sCons (sCut (sNE (sCallN N (sGr 0 (sGv (sVar 3) sG0)))) sP0 (sP1 (sBin gSub_ (sCallB gLen (sCons (sVar 3) sNil)) (sCallV M (sGr 0 (sGv (sBin gIx (sNE (sLst (sCons (sK (.int 1)) (sCons (sBin gAdd (sCallB gLen (sCons (sVar 3) sNil)) (sK (.int 1))) sNil)))) (sCallV M (sGr 0 (sGv (sK (.int 2)) sG0)))) sG0)))))) sNil))) [.io bag, s1, s2, .val (.tuple F), s4, s5, s6, s7, s8, s9, s10, s11, s12, s13, s14, s15] = .nx [.io bag3, s1, s2, .val (.tuple F), .val (.tuple B), s5, s6, s7, s8, s9, s10, s11, s12, s13, s14, s15] := by
  have gc : gCut (.list G) none (some ((F.length : Int) - r2)) = some (.list B) := by
    show some (PyData.list (cutD G none (some ((F.length : Int) - r2)))) = _
    rw [hL]
  have gt : gTupT [.list B] = some (.tuple B) := rfl
  simp [e1, e2, ey, e3, hL, gt, sizeLine, h4]
theorem t_r5 (e : M [.val o] = .ok (.own Z) T1) (h10 : noio (some s10) = true) (h11 : noio (some s11) = true) : (sParVD 10 11 (sNE (sCallN M (sGv (sVar 2) sG0)))) [s0, s1, .val o, s3, s4, s5, s6, s7, s8, s9, s10, s11, s12, s13, s14, s15] = .nx [s0, s1, .val o, s3, s4, s5, s6, s7, s8, s9, .val (.list Z), .nst (.dt []), s12, s13, s14, s15] := by
  simp [e, put, h10, h11]
theorem t_it6 (e : M [.val a] = .ok (.val (.list Z)) T1) : (sISq (sCallV M (sGv (sVar 3) sG0))) [s0, s1, s2, .val a, s4, s5, s6, s7, s8, s9, s10, s11, s12, s13, s14, s15] = .ok Z [s0, s1, s2, .val a, s4, s5, s6, s7, s8, s9, s10, s11, s12, s13, s14, s15] := by
  simp [e]
theorem t_n9 (e : M [.val o, .val d, .val x, .val r] = .ok (.val v) T1) (h9 : noio (some s9) = true) : (sSet 9 (sCallV M (sGv (sVar 2) (sGv (sVar 10) (sGv (sVar 5) (sGv (sVar 4) sG0)))))) [s0, s1, .val o, s3, .val r, .val x, s6, s7, s8, s9, .val d, s11, s12, s13, s14, s15] = .nx [s0, s1, .val o, s3, .val r, .val x, s6, s7, s8, .val v, .val d, s11, s12, s13, s14, s15] := by
  simp [e, h9]
theorem t_n11 {kv : List (NK × PyData)} {κ : NK} {g : Int} (hl : kv.length < 16000000) (ht : toT (.tuple Z) = some κ) (hg : (dGetT kv κ).getD (.int 0) = .int g) : q_n11 [s0, s1, s2, s3, s4, s5, s6, s7, s8, .val (.tuple Z), s10, .nst (.dt kv), s12, s13, s14, s15] = .nx [s0, s1, s2, s3, s4, s5, s6, s7, s8, .val (.tuple Z), s10, .nst (.dt (dPutT kv κ (.int (g + 1)))), s12, s13, s14, s15] := by
  have h : kv.length < 16777216 := by omega
  simp [q_n11, ht, hg, h, sizeLine]
theorem t_7e (e1 : N [.io bag, .val a] = .ok (.own G) (.io bag1 :: T1)) (e : M [.val o, .val d, .val (.tuple G), .val r] = .ok (.val v) T2) : (sCallV M (sGv (sVar 2) (sGv (sVar 10) (sGv (sRd lTup (sCallN N (sGr 0 (sGv (sVar 3) sG0)))) (sGv (sVar 4) sG0))))) [.io bag, s1, .val o, .val a, .val r, s5, s6, .val x, s8, s9, .val d, s11, s12, s13, s14, s15] = .ok v [.io bag1, s1, .val o, .val a, .val r, s5, s6, .val x, s8, s9, .val d, s11, s12, s13, s14, s15] := by
  simp [e1, e, lTup]
theorem t_lc7 {e : SE} (lc : lcL (gNm 7) sYes e [7] (rng 0 3) [.io bag, s1, s2, s3, s4, s5, s6, .nil, s8, s9, s10, s11, s12, s13, s14, s15] = .ok Z [.io bag1, s1, s2, s3, s4, s5, s6, .nil, s8, s9, s10, s11, s12, s13, s14, s15]) (h6 : noio (some s6) = true) : sSetNew 6 (sLc (sRng1 (sCons (sK (.int 3)) sNil)) (gNm 7) sYes e [7]) [.io bag, s1, s2, s3, s4, s5, s6, .nil, s8, s9, s10, s11, s12, s13, s14, s15] = .nx [.io bag1, s1, s2, s3, s4, s5, .own Z, .nil, s8, s9, s10, s11, s12, s13, s14, s15] := by
  have h3 : rng1 [.int 3] = some (rng 0 3) := rng1_ok (by omega) (by omega)
  have hl : (rng 0 3).length < 16777216 := by decide
  generalize rng 0 3 = Q at *
  simp [wipeS, lc, unwipe, hl, sizeLine, h3, h6, noEx]
theorem t_a12 {t : Nat} {y : Int} (hy : (t : Int) % 3 = y) (e : atI F y = some (.tuple D)) (hD : D.length ≤ 16777216) (h12 : noio (some s12) = true) : q_a12 [s0, s1, s2, s3, s4, s5, .own F, .val (.int (t : Nat)), s8, s9, s10, s11, s12, s13, s14, s15] = .nx [s0, s1, s2, s3, s4, s5, .own F, .val (.int (t : Nat)), s8, s9, s10, s11, .own D, s13, s14, s15] := by
  subst hy
  simp [q_a12, e, hD, h12, asLT, sizeLine]
theorem t_r13 {r1 : Int} {bb : Bool} {m : Int} {Q : List PyData} (e : M [.io bag, .val (.int 3)] = .ok (.val (.int r1)) (.io bag1 :: T1)) (gn : gNe (.tuple B) (.tuple []) = some (.bool bb)) (gm : gMul (.int (1 + r1)) (.int (if bb then 1 else 0)) = some (.int m)) (hr : rng1 [.int m] = some Q) : (sRng1 (sCons (sBin gMul (sBin gAdd (sK (.int 1)) (sCallV M (sGr 0 (sGv (sK (.int 3)) sG0)))) (sCallB gInt1 (sCons (sBin gNe (sVar 4) (sTup sNil)) sNil))) sNil)) [.io bag, s1, s2, s3, .val (.tuple B), s5, s6, s7, s8, s9, s10, s11, s12, s13, s14, s15] = .ok Q [.io bag1, s1, s2, s3, .val (.tuple B), s5, s6, s7, s8, s9, s10, s11, s12, s13, s14, s15] := by
  refine rng1_run (ds := [.int m]) ?_ hr
  have gi : gInt1 [.bool bb] = some (.int (if bb then 1 else 0)) := by cases bb <;> rfl
  simp [-g_mul, e, gn, gi, gm, sizeLine]
theorem t_b13 {u w y n : Int} {D1 : List PyData} (hm : lMax Z = some (.int y)) (hw : (D.length : Int) = n) (e1 : M [.io bag, .val (.int (y + 2))] = .ok (.val (.int u)) (.io bag1 :: T1)) (e2 : M [.io bag1, .val (.int n)] = .ok (.val (.int w)) (.io bag2 :: T2)) (es : setI D (.int w) (.int u) = some D1) : (sSetIx 12 (sCallV M (sGr 0 (sGv (sRd lLen (sLVar 12)) sG0))) (sCallV M (sGr 0 (sGv (sBin gAdd (sRd lMax (sLVar 10)) (sK (.int 2))) sG0)))) [.io bag, s1, s2, s3, s4, s5, s6, s7, s8, s9, .val (.list Z), s11, .own D, s13, s14, s15] = .nx [.io bag2, s1, s2, s3, s4, s5, s6, s7, s8, s9, .val (.list Z), s11, .own D1, s13, s14, s15] := by
  simp [hm, hw, e1, e2, es, lLen]
theorem t_c6 (hF : F.length < 1000) : q_c6 [s0, s1, s2, s3, s4, s5, .own F, s7, s8, s9, s10, s11, .own D, s13, s14, s15] = .nx [s0, s1, s2, s3, s4, s5, .own (F ++ [.tuple D]), s7, s8, s9, s10, s11, .own D, s13, s14, s15] := by
  have h1 : F.length < 16777216 := by omega
  simp [q_c6, h1, sizeLine, lTup, upL]
theorem t_t9 {bb : Bool} (gn : gNe (.tuple B) (.tuple []) = some (.bool bb)) : q_t9 [s0, s1, s2, s3, .val (.tuple B), s5, s6, s7, s8, s9, s10, s11, s12, s13, s14, s15] = .ok bb [s0, s1, s2, s3, .val (.tuple B), s5, s6, s7, s8, s9, s10, s11, s12, s13, s14, s15] := by
  simp [q_t9, gn]
theorem g_p36b : gPow (.int 10) (.int 36) = some (.int (10 ^ 36)) := by kernel_rfl
theorem t_u9 {n u big : Int} (p : gPow (.int 10) (.int 36) = some (.int big)) {D0 D1 E0 E1 : List PyData} (hn : (A.length : Int) + 1 = n) (e : M [.io bag, .val (.int 50)] = .ok (.val (.int u)) (.io bag1 :: T1)) (a0 : atI F 0 = some (.tuple D0)) (a1 : atI F 1 = some (.tuple D1)) (c0 : gCut (.tuple D0) none (some (-1)) = some (.tuple E0)) (c1 : gCut (.tuple D1) (some 1) none = some (.tuple E1)) (l0 : E0.length ≤ 100) (l1 : E1.length ≤ 100) (lF : F.length ≤ 100) : (sSetNew 6 (sCatV 6 (sNE (sLst (sCons (sBin gAdd (sCut (sIxV 6 (sK (.int 0))) sP0 (sP1 (sNeg (sK (.int 1))))) (sTup (sCons (sBin gPow (sK (.int 10)) (sK (.int 36))) sNil))) (sCons (sBin gAdd (sTup (sCons (sBin gAdd (sBin gAdd (sCallB gLen (sCons (sVar 3) sNil)) (sK (.int 1))) (sCallV M (sGr 0 (sGv (sK (.int 50)) sG0)))) sNil)) (sCut (sIxV 6 (sK (.int 1))) (sP1 (sK (.int 1))) sP0)) sNil)))))) [.io bag, s1, s2, .val (.tuple A), s4, s5, .own F, s7, s8, s9, s10, s11, s12, s13, s14, s15] = .nx [.io bag1, s1, s2, .val (.tuple A), s4, s5, .own (F ++ [.tuple (E0 ++ [.int big]), .tuple (.int (n + u) :: E1)]), s7, s8, s9, s10, s11, s12, s13, s14, s15] := by
  have x0 : gAdd (.tuple E0) (.tuple [.int big]) = some (.tuple (E0 ++ [.int big])) := by
    show (if E0.length + 1 ≤ sizeLine then some (PyData.tuple (E0 ++ [.int big])) else none) = _
    rw [if_pos (by rw [sizeLine_eq]; omega)]
  have x1 : gAdd (.tuple [.int (n + u)]) (.tuple E1) = some (.tuple (.int (n + u) :: E1)) := by
    show (if 1 + E1.length ≤ sizeLine then some (PyData.tuple ([.int (n + u)] ++ E1)) else none) = _
    rw [if_pos (by rw [sizeLine_eq]; omega)]
    rfl
  subst hn
  have lF2 : F.length + 2 ≤ 16777216 := by omega
  simp [a0, a1, c0, c1, x0, x1, p, e, sizeLine, lF2, upL]
theorem t_rr (ok : okR (.list [o, a, r, v])) : q_rr [s0, s1, .val o, .val a, .val r, s5, .val v, s7, s8, s9, s10, s11, s12, s13, s14, s15] = .ok (.str (PyData.list [o, a, r, v]).shown) [s0, s1, .val o, .val a, .val r, s5, .val v, s7, s8, s9, s10, s11, s12, s13, s14, s15] := by
  simp [q_rr, ok, lRepr, sizeLine]
theorem t_e14 {kv : List (NK × PyData)} {κ : NK} {g : Int} (ht : toT (.tuple Z) = some κ) (hg : (dGetT kv κ).getD (.int 0) = .int g) (h14 : noio (some s14) = true) : q_e14 [s0, s1, s2, s3, s4, s5, s6, s7, s8, .val (.tuple Z), s10, .nst (.dt kv), s12, s13, s14, s15] = .nx [s0, s1, s2, s3, s4, s5, s6, s7, s8, .val (.tuple Z), s10, .nst (.dt kv), s12, s13, .val (.int g), s15] := by
  simp [q_e14, ht, hg, h14]
theorem t_e15 (e : M [.val o, .val a, .val r, .val x] = .ok (.val v) T1) (h15 : noio (some s15) = true) : (sSetNew 15 (sLst (sCons (sCallV M (sGv (sVar 2) (sGv (sVar 3) (sGv (sVar 4) (sGv (sVar 9) sG0))))) sNil))) [s0, s1, .val o, .val a, .val r, s5, s6, s7, s8, .val x, s10, s11, s12, s13, s14, s15] = .nx [s0, s1, .val o, .val a, .val r, s5, s6, s7, s8, .val x, s10, s11, s12, s13, s14, .own [v]] := by
  simp [e, h15, sizeLine]
theorem t_f15 (e1 : N [.io bag, .val a] = .ok (.own G) (.io bag1 :: T1)) (e : M [.val o, .val (.tuple G), .val r, .val x] = .ok (.val v) T2) (hF : F.length < 1000) : (sDrop (sAppend 15 (sCallV M (sGv (sVar 2) (sGv (sRd lTup (sCallN N (sGr 0 (sGv (sVar 3) sG0)))) (sGv (sVar 4) (sGv (sVar 9) sG0))))))) [.io bag, s1, .val o, .val a, .val r, s5, s6, s7, s8, .val x, s10, s11, s12, s13, s14, .own F] = .nx [.io bag1, s1, .val o, .val a, .val r, s5, s6, s7, s8, .val x, s10, s11, s12, s13, s14, .own (F ++ [v])] := by
  have h1 : F.length < 16777216 := by omega
  simp [e1, e, lTup, h1, sizeLine]
theorem t_g15 (ok : okR (.list [v, v])) : q_g15 [s0, s1, s2, s3, s4, s5, s6, s7, s8, s9, s10, s11, s12, s13, .val v, .own [v, v]] = .nx [s0, s1, s2, s3, s4, s5, s6, s7, s8, s9, s10, s11, s12, s13, .val v, .own [v, v]] := by
  simp [q_g15, ok, lRepr, sizeLine]
theorem t_ret {w : Str} {p : SE} (e : p [s0, s1, s2, s3, s4, s5, s6, s7, .val (.str w), s9, s10, s11, s12, s13, s14, s15] = .ok (.str w) [s0, s1, s2, s3, s4, s5, s6, s7, .val (.str w), s9, s10, s11, s12, s13, s14, s15]) : sRet (sBin gEq p (sVar 8)) [s0, s1, s2, s3, s4, s5, s6, s7, .val (.str w), s9, s10, s11, s12, s13, s14, s15] = .rt (.val (.bool true)) [s0, s1, s2, s3, s4, s5, s6, s7, .val (.str w), s9, s10, s11, s12, s13, s14, s15] := by
  simp [e]
end
end Ds
end
section
set_option Elab.async false
set_option linter.all false
set_option maxRecDepth 100000
set_option maxHeartbeats 1000000
open PySem PySem.Spec PyProof.Rows L2
namespace Ds
theorem sIx_m1W {n d : Nat} : HT.sIx n d (some (-1)) = n - 1 := by
  show (if (-1 : Int) < 0 then ((-1 : Int) + ((n : Nat) : Int)).toNat else min (-1 : Int).toNat n) = _
  rw [if_pos (by decide : (-1 : Int) < 0)]
  omega
theorem cut_m1W {L : List PyData} : cutD L none (some (-1)) = L.take (L.length - 1) := by
  unfold cutD
  rw [sIx_m1W, HT.sIx_none, Nat.sub_zero, List.drop_zero]
theorem cut_f1W {L : List PyData} (h : 0 < L.length) : cutD L (some 1) none = L.drop 1 := cut_from (k := 1) (by omega)
section
variable {os : List Nat} {ss ord : List Str}
theorem w2_loop {s3 s4 s5 s6 s7 s8 s9 s10 s11 s12 s13 s14 s15 : Sl} : ∀ (j : Nat) {os bag : List _} {k : Nat}, Off os → os.length + j = 6 → Pt k bag → k + j < 900000 → ∃ os' bag', Off os' ∧ os'.length = 6 ∧ Pt (k + j) bag' ∧ ∀ n, j < n → loopW q_wt q_wb n [.io bag, .val (.int 7), vO os, s3, s4, s5, s6, s7, s8, s9, s10, s11, s12, s13, s14, s15] = .nx [(.io bag'), .val (.int 7), vO os', s3, s4, s5, s6, s7, s8, s9, s10, s11, s12, s13, s14, s15]
  | 0, os, bag, k, h, hl, hb, hk => ⟨os, bag, h, hl, hb, fun n hn => by
    obtain ⟨m, rfl⟩ : ∃ m, n = m + 1 := ⟨n - 1, by omega⟩
    rw [loopW, t_wt (n := os.length) nts_len, st_ok]
    have e : (decide ((7 : Int) = 7) && decide (os.length < 6)) = false := by rw [show decide (os.length < 6) = false from decide_eq_false (by omega), Bool.and_false]
    rw [e, if_neg (by decide)]⟩
  | j + 1, os, bag, k, h, hl, hb, hk => by
    obtain ⟨r, bag1, T1, r0, r1, r2, e1⟩ := drawP hb (by omega) (m := ((os.length + 1 : Nat) : Int)) (by omega) (by omega)
    obtain ⟨u, rfl⟩ : ∃ u : Nat, r = (u : Int) := ⟨r.toNat, by omega⟩
    have h' : Off (os ++ [u]) := ⟨by rw [List.length_append, List.length_singleton]; omega, fun i x hx => by
      by_cases hi : i < os.length
      · rw [List.getElem?_append_left hi] at hx
        exact h.2 i x hx
      · rw [List.getElem?_append_right (by omega)] at hx
        have z : i - os.length = 0 := by
          have := (List.getElem?_eq_some_iff.mp hx).1
          rw [List.length_singleton] at this
          omega
        rw [z] at hx
        have : u = x := by simpa using hx
        omega⟩
    obtain ⟨os', bag', a1, a2, a3, a4⟩ := w2_loop j (os := os ++ [u]) h' (by rw [List.length_append, List.length_singleton]; omega) r2 (by omega)
    refine ⟨os', bag', a1, a2, by rw [show k + (j + 1) = k + 1 + j by omega]; exact a3, fun n hn => ?_⟩
    obtain ⟨m, rfl⟩ : ∃ m, n = m + 1 := ⟨n - 1, by omega⟩
    have e : (decide ((7 : Int) = 7) && decide (os.length < 6)) = true := by rw [decide_eq_true (show os.length < 6 by omega)]; rfl
    rw [loopW, t_wt (n := os.length) nts_len, st_ok, e, if_pos rfl]
    have eb := t_wb (M := m__law_drawP) (n := ((os.length + 1 : Nat) : Int)) (u := (u : Nat)) (A := nts os) (s1 := .val (.int 7)) (s3 := s3) (s4 := s4) (s5 := s5) (s6 := s6) (s7 := s7) (s8 := s8) (s9 := s9) (s10 := s10) (s11 := s11) (s12 := s12) (s13 := s13) (s14 := s14) (s15 := s15) (by rw [nts_len]; omega) (by rw [nts_len]; omega) e1
    rw [ntsA] at eb
    rw [show q_wb _ = _ from eb]
    exact a4 m (by omega)
theorem w2_ok {m : Int} (hm : m = 5 ∨ m = 6 ∨ m = 7) {s3 s4 s5 s6 s7 s8 s9 s10 s11 s12 s13 s14 s15 : Sl} {os bag : List _} {k : Nat} (h : Off os) (hl : (os.length : Int) < m) (hb : Pt k bag) (hk : k < 800000) : ∃ os' bag', Off os' ∧ os'.length ≤ 6 ∧ Pt (k + 6) bag' ∧ loopW q_wt q_wb 100 [.io bag, .val (.int m), vO os, s3, s4, s5, s6, s7, s8, s9, s10, s11, s12, s13, s14, s15] = .nx [(.io bag'), .val (.int m), vO os', s3, s4, s5, s6, s7, s8, s9, s10, s11, s12, s13, s14, s15] := by
  by_cases h7 : m = 7
  · subst h7
    obtain ⟨os', bag', a1, a2, a3, a4⟩ := w2_loop (s3 := s3) (s4 := s4) (s5 := s5) (s6 := s6) (s7 := s7) (s8 := s8) (s9 := s9) (s10 := s10) (s11 := s11) (s12 := s12) (s13 := s13) (s14 := s14) (s15 := s15) (6 - os.length) h (by omega) hb (by omega)
    exact ⟨os', bag', a1, by omega, a3.mono (by omega), a4 100 (by omega)⟩
  · refine ⟨os, bag, h, by omega, hb.mono (by omega), ?_⟩
    rw [loopW, t_wt (n := os.length) nts_len, st_ok]
    have e : (decide (m = 7) && decide (os.length < 6)) = false := by rw [decide_eq_false h7]; rfl
    rw [e, if_neg (by decide)]
theorem nb_loop {s0 s1 s6 s7 s8 s12 s13 s14 s15 : Sl} : ∀ {l : List (List Str)} {C : CT} {x5 x9 : Sl}, (∀ p ∈ l, Case os p ord) → (keysC C).Nodup → C.length + l.length < 16000000 → bare (some x5) = true → bare (some x9) = true →
    ∃ y5 y9, bare (some y5) = true ∧ bare (some y9) = true ∧ loopL (gNm 5) q_nb (tS l) [s0, s1, vO os, vS ss, vS ord, x5, s6, s7, s8, x9, .val (.list (nts (depL os))), .nst (.dt (kvT C)), s12, s13, s14, s15] = .nx [s0, s1, vO os, vS ss, vS ord, y5, s6, s7, s8, y9, .val (.list (nts (depL os))), .nst (.dt (kvT (numC os ord l C))), s12, s13, s14, s15]
  | [], C, x5, x9, _, _, _, b5, b9 => ⟨x5, x9, b5, b9, rfl⟩
  | p :: l, C, x5, x9, hp, nd, hl, b5, b9 => by
    rw [List.length_cons] at hl
    have c := hp p List.mem_cons_self
    obtain ⟨T, e⟩ := law_cst c
    have e0 : gNm 5 (mkQ p) [s0, s1, vO os, vS ss, vS ord, x5, s6, s7, s8, x9, .val (.list (nts (depL os))), .nst (.dt (kvT C)), s12, s13, s14, s15] = .nx [s0, s1, vO os, vS ss, vS ord, vS p, s6, s7, s8, x9, .val (.list (nts (depL os))), .nst (.dt (kvT C)), s12, s13, s14, s15] := by
      generalize kvT C = Y
      generalize nts (depL os) = Z
      show gNm 5 (PyData.tuple (sts p)) _ = _
      simp [b5]
    have e1 := t_n9 (s0 := s0) (s1 := s1) (s3 := vS ss) (s6 := s6) (s7 := s7) (s8 := s8) (s9 := x9) (s11 := .nst (.dt (kvT C))) (s12 := s12) (s13 := s13) (s14 := s14) (s15 := s15) e (noio_bare b9)
    have e2 := t_n11 (s0 := s0) (s1 := s1) (s2 := vO os) (s3 := vS ss) (s4 := vS ord) (s5 := vS p) (s6 := s6) (s7 := s7) (s8 := s8) (s10 := .val (.list (nts (depL os)))) (s12 := s12) (s13 := s13) (s14 := s14) (s15 := s15) (Z := nts (cstW os ord p)) (kv := kvT C) (by unfold kvT; rw [List.length_map]; omega) (toT_nts (cstW os ord p)) (valT_get (c := C))
    rw [show ((getC C (cstW os ord p) : Nat) : Int) + 1 = ((getC C (cstW os ord p) + 1 : Nat) : Int) by omega, put_add nd] at e2
    have l1 := len_add (c := C) (W := cstW os ord p) (n := 1)
    obtain ⟨y5, y9, c5, c9, ih⟩ := nb_loop (s0 := s0) (s1 := s1) (s6 := s6) (s7 := s7) (s8 := s8) (s12 := s12) (s13 := s13) (s14 := s14) (s15 := s15) (l := l) (C := addC C (cstW os ord p) 1) (x5 := vS p) (x9 := .val (.tuple (nts (cstW os ord p)))) (fun z hz => hp z (List.mem_cons_of_mem _ hz)) (nd_add nd) (by omega) rfl rfl
    refine ⟨y5, y9, c5, c9, ?_⟩
    show loopL (gNm 5) q_nb (mkQ p :: tS l) _ = _
    rw [loop_nxP e0 (show q_nb _ = _ from by rw [q_nb, r_sSeq, show q_n9 _ = _ from e1, sq_nx, e2])]
    exact ih
def RowC (k : Nat) (d : PyData) : Prop := ∃ W : List Nat, d = .tuple (nts W) ∧ W.length = k ∧ ∀ x ∈ W, x < 1000 ∨ x = 10 ^ 36
theorem lc7_ok (c : Case os ss ord) {k : Nat} {bag : List PyData} (hb : Pt k bag) (hk : k < 600000) {s1 s5 s6 s8 s9 s11 s12 s13 s14 s15 : Sl} : ∃ Z bag', Pt (k + 300) bag' ∧ Z.length = 3 ∧ (∀ d ∈ Z, RowC ord.length d) ∧ lcL (gNm 7) sYes (sCallV m__law_costsP (sGv (sVar 2) (sGv (sVar 10) (sGv (sRd lTup (sCallN m__law_mixedP (sGr 0 (sGv (sVar 3) sG0)))) (sGv (sVar 4) sG0))))) [7] (rng 0 3) [.io bag, s1, vO os, vS ss, vS ord, s5, s6, .nil, s8, s9, .val (.list (nts (depL os))), s11, s12, s13, s14, s15] = .ok Z [(.io bag'), s1, vO os, vS ss, vS ord, s5, s6, .nil, s8, s9, .val (.list (nts (depL os))), s11, s12, s13, s14, s15] := by
  have sm := c.small
  have h39 := c.off.1
  obtain ⟨ys, S', h1, bag', p, z1, z2, rfl⟩ := lc_inv (g := gNm 7) (t := sYes) (e := sCallV m__law_costsP (sGv (sVar 2) (sGv (sVar 10) (sGv (sRd lTup (sCallN m__law_mixedP (sGr 0 (sGv (sVar 3) sG0)))) (sGv (sVar 4) sG0))))) (vs := [7]) (ds := rng 0 3) (P := fun i acc S => ∃ bag, Pt (k + 100 * i) bag ∧ acc.length = i ∧ (∀ d ∈ acc, RowC ord.length d) ∧ S = [.io bag, s1, vO os, vS ss, vS ord, s5, s6, .nil, s8, s9, .val (.list (nts (depL os))), s11, s12, s13, s14, s15]) (acc := [])
    (S := [.io bag, s1, vO os, vS ss, vS ord, s5, s6, .nil, s8, s9, .val (.list (nts (depL os))), s11, s12, s13, s14, s15]) ⟨bag, hb, rfl, (fun x hx => by cases hx), rfl⟩ fun i d acc S hd hP => by
    obtain ⟨bag, p, z1, z2, rfl⟩ := hP
    obtain ⟨rfl, hi⟩ := rng_get hd
    obtain ⟨A, bag1, T1, pa, pb, e1⟩ := lawP_mixed (ss := ss) (d := .tuple (sts ss)) (.inr rfl) p (by omega) (by omega)
    obtain ⟨T, e⟩ := law_cst (c.permS pa.symm)
    refine ⟨[.io bag, s1, vO os, vS ss, vS ord, s5, s6, .val (.int (0 + (i : Nat))), s8, s9, .val (.list (nts (depL os))), s11, s12, s13, s14, s15], true, [.io bag, s1, vO os, vS ss, vS ord, s5, s6, .val (.int (0 + (i : Nat))), s8, s9, .val (.list (nts (depL os))), s11, s12, s13, s14, s15], ?_, rfl, (fun z => by cases z), fun _ => ⟨.tuple (nts (cstW os ord A)), [.io bag1, s1, vO os, vS ss, vS ord, s5, s6, .val (.int (0 + (i : Nat))), s8, s9, .val (.list (nts (depL os))), s11, s12, s13, s14, s15], t_7e e1 e, bag1, by rw [show k + 100 * (i + 1) = k + 100 * i + 100 by omega]; exact pb, by simp [z1], ?_, ?_⟩⟩
    · generalize nts (depL os) = Z
      simp
    · intro x hx
      rcases List.mem_append.mp hx with q | q
      · exact z2 x q
      · rw [List.mem_singleton.mp q]
        exact ⟨cstW os ord A, rfl, cst_len, fun y hy => .inl (by have := cst_le y hy; omega)⟩
    · generalize nts (depL os) = Z
      simp [wipeS]
  exact ⟨ys, bag', p.mono (by show k + 100 * 3 ≤ _; omega), z1, z2, h1⟩
theorem mx_lt {l : List Nat} {n : Nat} (h : ∀ x ∈ l, x ≤ n) : mx l ≤ n := by
  unfold mx
  rcases mx_in (l := l) (a := 0) with e | e
  · rw [e]; omega
  · exact h _ e
theorem b13_loop (c : Case os ss ord) {k n : Nat} {bag : List PyData} {R : List Nat} (hb : Pt k bag) (hk : k < 800000) (hR : ∀ x ∈ R, x < 1000 ∨ x = 10 ^ 36) (hl : R.length = ord.length) (hn : n ≤ 3) (h0 : 0 < n → 0 < R.length) {s1 s5 s6 s7 s8 s9 s11 s13 s14 s15 : Sl} (h13 : bare (some s13) = true) :
    ∃ R' bag' y13, Pt (k + 10) bag' ∧ R'.length = ord.length ∧ (∀ x ∈ R', x < 1000 ∨ x = 10 ^ 36) ∧ bare (some y13) = true ∧ loopL (gNm 13) q_b13 (rng 0 n) [.io bag, s1, vO os, vS ss, vS ord, s5, s6, s7, s8, s9, .val (.list (nts (depL os))), s11, .own (nts R), s13, s14, s15] = .nx [.io bag', s1, vO os, vS ss, vS ord, s5, s6, s7, s8, s9, .val (.list (nts (depL os))), s11, .own (nts R'), y13, s14, s15] := by
  have h39 := c.off.1
  have osm := c.osmall
  have hdl := depL_len _ os rfl
  have hmx := max_nts (l := depL os) (fun z => by rw [z] at hdl; cases hdl)
  have hm := mx_lt (depL_le _ os rfl)
  obtain ⟨S', el, bag', R', y13, p, r1, r2, g9, rfl⟩ := loop_inv (g := gNm 13) (b := q_b13) (ds := rng 0 n) (P := fun i S => ∃ bag R' y13, Pt (k + 2 * i) bag ∧ R'.length = ord.length ∧ (∀ x ∈ R', x < 1000 ∨ x = 10 ^ 36) ∧ bare (some y13) = true ∧ S = [.io bag, s1, vO os, vS ss, vS ord, s5, s6, s7, s8, s9, .val (.list (nts (depL os))), s11, .own (nts R'), y13, s14, s15])
    (S := [.io bag, s1, vO os, vS ss, vS ord, s5, s6, s7, s8, s9, .val (.list (nts (depL os))), s11, .own (nts R), s13, s14, s15]) ⟨bag, R, s13, hb, hl, hR, h13, rfl⟩ fun i z S hz hS => by
    obtain ⟨bag, R', y13, p, r1, r2, g9, rfl⟩ := hS
    obtain ⟨rfl, hi⟩ := rng_get hz
    have hp := h0 (by omega)
    obtain ⟨u, bag1, T1, a1, a2, a3, e1⟩ := drawP p (by omega) (m := ((mx (depL os) : Nat) : Int) + 2) (by omega) (by omega)
    obtain ⟨v, bag2, T2, b1, b2, b3, e2⟩ := drawP a3 (by omega) (m := (R'.length : Int)) (by omega) (by omega)
    obtain ⟨un, rfl⟩ : ∃ t : Nat, u = (t : Int) := ⟨u.toNat, by omega⟩
    obtain ⟨vn, rfl⟩ : ∃ t : Nat, v = (t : Int) := ⟨v.toNat, by omega⟩
    refine ⟨[.io bag, s1, vO os, vS ss, vS ord, s5, s6, s7, s8, s9, .val (.list (nts (depL os))), s11, .own (nts R'), .val (.int (0 + (i : Nat))), s14, s15], [.io bag2, s1, vO os, vS ss, vS ord, s5, s6, s7, s8, s9, .val (.list (nts (depL os))), s11, .own (nts (R'.set vn un)), .val (.int (0 + (i : Nat))), s14, s15], ?_, ?_, bag2, R'.set vn un, .val (.int (0 + (i : Nat))), ?_, by rw [List.length_set]; exact r1, ?_, rfl, rfl⟩
    · generalize nts (depL os) = Y
      generalize nts R' = Z; simp [g9]
    · exact t_b13 hmx (by rw [nts_len]) e1 e2 (setI_nts (by omega))
    · exact b3.mono (by omega)
    · intro x hx
      rcases List.mem_or_eq_of_mem_set hx with q | rfl
      · exact r2 x q
      · exact .inl (by omega)
  rw [rng_len] at p
  exact ⟨R', bag', y13, p.mono (by omega), r1, r2, g9, el⟩
theorem ne_sts (hn : ∀ s ∈ ord, Nm s) : gNe (.tuple (sts ord)) (.tuple []) = some (.bool (decide (0 < ord.length))) := by
  cases ord with
  | nil => rfl
  | cons x xs =>
    have : decide (0 < (x :: xs).length) = true := by simp
    rw [this]
    have ly : Lay (.tuple (sts (x :: xs))) 1 := Lay.tuple (n := 0) fun d hd => by
      obtain ⟨s, hs, rfl⟩ := List.mem_map.mp hd
      exact Lay.str (hn s hs)
    show (if okEq (.tuple (sts (x :: xs))) = true ∧ okEq (.tuple []) = true then some (PyData.bool (!PyData.eqv (.tuple (sts (x :: xs))) (.tuple []))) else none) = _
    rw [if_pos ⟨ly.ok (by decide), rfl⟩]
    rfl
theorem b12_ok (c : Case os ss ord) {k t : Nat} {bag F : List PyData} (hb : Pt k bag) (hk : k < 700000) (hF : F.length = 3 + t) (ht : t < 4) (hR : ∀ d ∈ F, RowC ord.length d) {s1 s5 s8 s9 s11 s12 s13 s14 s15 : Sl} (h12 : noio (some s12) = true) (h13 : bare (some s13) = true) :
    ∃ d bag' y13, Pt (k + 20) bag' ∧ RowC ord.length d ∧ bare (some y13) = true ∧ ∃ y12, noio (some y12) = true ∧ q_b12 [.io bag, s1, vO os, vS ss, vS ord, s5, .own F, .val (.int (t : Nat)), s8, s9, .val (.list (nts (depL os))), s11, s12, s13, s14, s15] = .nx [.io bag', s1, vO os, vS ss, vS ord, s5, .own (F ++ [d]), .val (.int (t : Nat)), s8, s9, .val (.list (nts (depL os))), s11, y12, y13, s14, s15] := by
  have osm := c.osmall
  have hy : ((t : Nat) : Int) % 3 = ((t % 3 : Nat) : Int) := by omega
  obtain ⟨d0, hd0⟩ : ∃ d0, F[t % 3]? = some d0 := ⟨_, List.getElem?_eq_getElem (by omega)⟩
  obtain ⟨W, rfl, w1, w2⟩ := hR d0 (List.mem_of_getElem? hd0)
  have ea : atI F ((t % 3 : Nat) : Int) = some (.tuple (nts W)) := by rw [atI_nn (by omega), Int.toNat_natCast]; exact hd0
  have s1' := t_a12 (s0 := .io bag) (s1 := s1) (s2 := vO os) (s3 := vS ss) (s4 := vS ord) (s5 := s5) (s8 := s8) (s9 := s9) (s10 := .val (.list (nts (depL os)))) (s11 := s11) (s13 := s13) (s14 := s14) (s15 := s15) hy ea (by rw [nts_len]; omega) h12
  obtain ⟨r, bag1, T1, a1, a2, a3, e1⟩ := drawP hb (by omega) (m := 3) (by decide) (by decide)
  obtain ⟨rn, rfl⟩ : ∃ t : Nat, r = (t : Int) := ⟨r.toNat, by omega⟩
  have gn := ne_sts (ord := ord) (fun s hs => c.nm s (c.osub s hs))
  obtain ⟨m, hm, h0, gm⟩ : ∃ m : Nat, m ≤ 3 ∧ (0 < m → 0 < ord.length) ∧ gMul (.int (1 + ((rn : Nat) : Int))) (.int (if decide (0 < ord.length) = true then 1 else 0)) = some (.int ((m : Nat) : Int)) := by
    have h3 : rn = 0 ∨ rn = 1 ∨ rn = 2 := by omega
    by_cases q : 0 < ord.length
    · refine ⟨1 + rn, by omega, fun _ => q, ?_⟩
      rw [decide_eq_true q, if_pos rfl]
      rcases h3 with rfl | rfl | rfl <;> rfl
    · refine ⟨0, by omega, fun z => by omega, ?_⟩
      rw [decide_eq_false q, if_neg (by decide)]
      rcases h3 with rfl | rfl | rfl <;> rfl
  obtain ⟨R, bag2, y13, p, r1, r2, g13, e2⟩ := b13_loop c (s1 := s1) (s5 := s5) (s6 := .own F) (s7 := .val (.int (t : Nat))) (s8 := s8) (s9 := s9) (s11 := s11) (s13 := s13) (s14 := s14) (s15 := s15) a3 (by omega) w2 w1 hm (fun z => by rw [w1]; exact h0 z) h13
  refine ⟨.tuple (nts R), bag2, y13, p.mono (by omega), ⟨R, rfl, r1, r2⟩, g13, .own (nts R), rfl, ?_⟩
  rw [q_b12, r_sSeq, s1', sq_nx, r_sSeq, r_sFor, show q_r13 _ = _ from t_r13 e1 gn gm (rng1_ok (by omega) (by omega)), stt_ok, e2, sq_nx, t_c6 (by omega)]
theorem u9_ok (c : Case os ss ord) {k : Nat} {bag F : List PyData} (hb : Pt k bag) (hk : k < 700000) (hF : F.length = 7) (hR : ∀ d ∈ F, RowC ord.length d) {s1 s5 s7 s8 s9 s11 s12 s13 s14 s15 : Sl} :
    ∃ F' bag', Pt (k + 1) bag' ∧ F'.length ≤ 9 ∧ (∀ d ∈ F', RowC ord.length d) ∧ sIf q_t9 q_u9 sNx [.io bag, s1, vO os, vS ss, vS ord, s5, .own F, s7, s8, s9, .val (.list (nts (depL os))), s11, s12, s13, s14, s15] = .nx [.io bag', s1, vO os, vS ss, vS ord, s5, .own F', s7, s8, s9, .val (.list (nts (depL os))), s11, s12, s13, s14, s15] := by
  have osm := c.osmall
  have sm := c.small
  have gn := ne_sts (ord := ord) (fun s hs => c.nm s (c.osub s hs))
  have et := t_t9 (s0 := .io bag) (s1 := s1) (s2 := vO os) (s3 := vS ss) (s5 := s5) (s6 := .own F) (s7 := s7) (s8 := s8) (s9 := s9) (s10 := .val (.list (nts (depL os)))) (s11 := s11) (s12 := s12) (s13 := s13) (s14 := s14) (s15 := s15) gn
  by_cases h0 : 0 < ord.length
  · obtain ⟨u, bag1, T1, a1, a2, a3, e1⟩ := drawP hb (by omega) (m := 50) (by decide) (by decide)
    obtain ⟨un, rfl⟩ : ∃ t : Nat, u = (t : Int) := ⟨u.toNat, by omega⟩
    obtain ⟨d0, hd0⟩ : ∃ d0, F[0]? = some d0 := ⟨_, List.getElem?_eq_getElem (by omega)⟩
    obtain ⟨d1, hd1⟩ : ∃ d1, F[1]? = some d1 := ⟨_, List.getElem?_eq_getElem (by omega)⟩
    obtain ⟨W0, rfl, w1, w2⟩ := hR d0 (List.mem_of_getElem? hd0)
    obtain ⟨W1, rfl, v1, v2⟩ := hR d1 (List.mem_of_getElem? hd1)
    have c0 : gCut (.tuple (nts W0)) none (some (-1)) = some (.tuple (nts (W0.take (W0.length - 1)))) := by
      show some (PyData.tuple (cutD (nts W0) none (some (-1)))) = _
      rw [cut_m1W, nts_len]
      unfold nts
      rw [List.map_take]
    have c1 : gCut (.tuple (nts W1)) (some 1) none = some (.tuple (nts (W1.drop 1))) := by
      show some (PyData.tuple (cutD (nts W1) (some 1) none)) = _
      rw [cut_f1W (by rw [nts_len]; omega)]
      unfold nts
      rw [List.map_drop]
    have eu := t_u9 (M := m__law_drawP) (A := sts ss) (F := F) (n := ((ss.length + 1 : Nat) : Int)) g_p36b (s1 := s1) (s2 := vO os) (s4 := vS ord) (s5 := s5) (s7 := s7) (s8 := s8) (s9 := s9) (s10 := .val (.list (nts (depL os)))) (s11 := s11) (s12 := s12) (s13 := s13) (s14 := s14) (s15 := s15) (by rw [sts_len]; omega) e1 (by rw [atI_nn (by decide)]; exact hd0) (by rw [atI_nn (by decide)]; exact hd1) c0 c1 (by rw [nts_len, List.length_take]; omega) (by rw [nts_len, List.length_drop]; omega) (by omega)
    have x0 : nts (W0.take (W0.length - 1)) ++ [PyData.int (10 ^ 36)] = nts (W0.take (W0.length - 1) ++ [10 ^ 36]) := by simp [nts]
    have x1 : PyData.int (((ss.length + 1 : Nat) : Int) + ((un : Nat) : Int)) :: nts (W1.drop 1) = nts ((ss.length + 1 + un) :: W1.drop 1) := by
      rw [nts_cons]
      congr 2
    rw [x0, x1] at eu
    refine ⟨_, bag1, a3, ?_, fun d hd => ?_, by rw [r_sIf, et, stt_ok, if_pos (decide_eq_true h0)]; exact eu⟩
    · simp; omega
    · rcases List.mem_append.mp hd with q | q
      · exact hR d q
      · simp only [List.mem_cons, List.not_mem_nil, or_false] at q
        rcases q with rfl | rfl
        · refine ⟨_, rfl, by rw [List.length_append, List.length_take, List.length_singleton]; omega, fun x hx => ?_⟩
          rcases List.mem_append.mp hx with z | z
          · exact w2 x (List.mem_of_mem_take z)
          · exact .inr (List.mem_singleton.mp z)
        · refine ⟨_, rfl, by rw [List.length_cons, List.length_drop]; omega, fun x hx => ?_⟩
          rcases List.mem_cons.mp hx with z | z
          · exact .inl (by omega)
          · exact v2 x (List.mem_of_mem_drop z)
  · refine ⟨F, bag, hb.mono (by omega), by omega, hR, ?_⟩
    rw [r_sIf, et, stt_ok, if_neg (by simpa using h0)]
    rfl
theorem rowc_fit {k : Nat} (hk : k ≤ 7) {d : PyData} (h : RowC k d) : FitZ 1 3507 d := by
  obtain ⟨W, rfl, h1, h2⟩ := h
  refine fitz_tup (k := 0) (w := 500) (n := 7) (fun d hd => ?_) (by rw [nts_len]; omega)
  obtain ⟨x, hx, rfl⟩ := List.mem_map.mp hd
  rcases h2 x hx with q | q
  · exact (fit_small q).z.mono (by decide) (by decide)
  · subst q
    exact ⟨by decide +kernel, by decide +kernel, by decide +kernel, by decide +kernel, by decide +kernel⟩
theorem four_ok (c : Case os ss ord) (h6 : os.length ≤ 6) {F : List PyData} (hF : F.length ≤ 9) (hR : ∀ d ∈ F, RowC ord.length d) : okR (.list [.tuple (nts os), .tuple (sts ss), .tuple (sts ord), .list F]) := by
  have hl := c.len
  have osl := nodup_len_le c.ond c.osub
  have fo : FitZ 2 40000 (.tuple (nts os)) := (nts_fitT (fun y hy => by
    have h39 := c.off.1
    obtain ⟨i, hi, e⟩ := List.mem_iff_getElem.mp hy
    have := c.off.2 i y (by rw [List.getElem?_eq_getElem hi, e])
    omega) (by omega)).z.mono (by decide) (by decide)
  have fa : FitZ 2 40000 (.tuple (sts ss)) := (sts_fit c.nm (by omega)).z.mono (by decide) (by decide)
  have fr : FitZ 2 40000 (.tuple (sts ord)) := (sts_fit (fun s hs => c.nm s (c.osub s hs)) (by omega)).z.mono (by decide) (by decide)
  have fF : FitZ 2 40000 (.list F) := (fitz_list (k := 1) (w := 3507) (n := 9) (fun d hd => rowc_fit (by omega) (hR d hd)) hF).mono (by decide) (by decide)
  refine FitZ.okR (k := 3) (w := (40000 + 1) * 4) (fitz_list (k := 2) (w := 40000) (n := 4) (fun d hd => ?_) (Nat.le_refl 4))
  simp only [List.mem_cons, List.not_mem_nil, or_false] at hd
  rcases hd with rfl | rfl | rfl | rfl
  · exact fo
  · exact fa
  · exact fr
  · exact fF
theorem tot_le (h : os.length + 1 ≤ 7) {cs : List Int} (hc : cs.length ≤ 7) : totC os cs ≤ 823543 := by
  obtain ⟨g1, w1⟩ := good_cw (cs := cs) (start_good_W h)
  have e : wsum (fun _ => 1) [(List.range (os.length + 1), 1)] = 1 := rfl
  rw [e, Nat.mul_one] at w1
  have k1 : 7 ^ cs.length ≤ 7 ^ 7 := Nat.pow_le_pow_right (by decide) hc
  have p7 : (7 : Nat) ^ 7 = 823543 := by decide
  have w1' : totC os cs ≤ 7 ^ cs.length := w1
  omega
theorem two_ok {n k : Nat} {W : List Nat} (h : os.length + 1 ≤ 7) (hc : W.length ≤ 7) (hn : n ≤ 7) : okR (.list [.int ((cwV os n k W : Nat) : Int), .int ((cwV os n k W : Nat) : Int)]) := by
  have t := tot_le h (cs := W.map fun (x : Nat) => ((x : Nat) : Int)) (by rw [List.length_map]; exact hc)
  have f := fac7_W (n - k) (by omega)
  have b : cwV os n k W ≤ 823543 * 5040 := Nat.mul_le_mul t f
  have fz : FitZ 0 100 (.int ((cwV os n k W : Nat) : Int)) := (fit_int (by rw [Int.natAbs_natCast]; exact Nat.lt_of_le_of_lt b (by decide))).z
  refine FitZ.okR (k := 1) (w := (100 + 1) * 2) (fitz_list (k := 0) (w := 100) (n := 2) (fun d hd => ?_) (Nat.le_refl 2))
  simp only [List.mem_cons, List.not_mem_nil, or_false] at hd
  rcases hd with rfl | rfl <;> exact fz
theorem fb_loop (c : Case os ss ord) (h6 : os.length ≤ 6) {F0 : List PyData} {s1 s5 s7 s8 s12 s13 : Sl} : ∀ {F : List PyData} {k : Nat} {bag : List PyData} {s9 s14 s15 : Sl}, (∀ d ∈ F, RowC ord.length d) → Pt k bag → k + 100 * F.length < 600000 → bare (some s9) = true → bare (some s14) = true → noio (some s15) = true →
    ∃ bag' y9 y14 y15, Pt (k + 100 * F.length) bag' ∧ loopL (gNm 9) q_fb F [.io bag, s1, vO os, vS ss, vS ord, s5, .val (.list F0), s7, s8, s9, .val (.list (nts (depL os))), .nst (.dt (kvT (numC os ord (arrL ss ss.length) []))), s12, s13, s14, s15] = .nx [.io bag', s1, vO os, vS ss, vS ord, s5, .val (.list F0), s7, s8, y9, .val (.list (nts (depL os))), .nst (.dt (kvT (numC os ord (arrL ss ss.length) []))), s12, s13, y14, y15]
  | [], k, bag, s9, s14, s15, _, hb, _, _, _, _ => ⟨bag, s9, s14, s15, hb, rfl⟩
  | d :: F, k, bag, s9, s14, s15, hR, hb, hk, b9, b14, b15 => by
    rw [List.length_cons] at hk
    obtain ⟨W, rfl, w1, w2⟩ := hR d List.mem_cons_self
    have hl := c.len
    have osl := nodup_len_le c.ond c.osub
    have e0 : gNm 9 (.tuple (nts W)) [.io bag, s1, vO os, vS ss, vS ord, s5, .val (.list F0), s7, s8, s9, .val (.list (nts (depL os))), .nst (.dt (kvT (numC os ord (arrL ss ss.length) []))), s12, s13, s14, s15] = .nx [.io bag, s1, vO os, vS ss, vS ord, s5, .val (.list F0), s7, s8, .val (.tuple (nts W)), .val (.list (nts (depL os))), .nst (.dt (kvT (numC os ord (arrL ss ss.length) []))), s12, s13, s14, s15] := by
      generalize kvT (numC os ord (arrL ss ss.length) []) = Y
      generalize nts (depL os) = Z
      generalize nts W = X
      simp [b9]
    have e1 := t_e14 (s0 := .io bag) (s1 := s1) (s2 := vO os) (s3 := vS ss) (s4 := vS ord) (s5 := s5) (s6 := .val (.list F0)) (s7 := s7) (s8 := s8) (s10 := .val (.list (nts (depL os)))) (s12 := s12) (s13 := s13) (s15 := s15) (kv := kvT (numC os ord (arrL ss ss.length) [])) (toT_nts W) (valT_get (c := numC os ord (arrL ss ss.length) [])) (noio_bare b14)
    rw [num_due c w1] at e1
    obtain ⟨T, ec⟩ := cw_ok c w1 (by omega)
    have e2 := t_e15 (s0 := .io bag) (s1 := s1) (s5 := s5) (s6 := .val (.list F0)) (s7 := s7) (s8 := s8) (s10 := .val (.list (nts (depL os)))) (s11 := .nst (.dt (kvT (numC os ord (arrL ss ss.length) [])))) (s12 := s12) (s13 := s13) (s14 := .val (.int ((cwV os ss.length ord.length W : Nat) : Int))) ec b15
    obtain ⟨A, bag1, T1, pa, pb, em⟩ := lawP_mixed (ss := ss) (d := .tuple (sts ss)) (.inr rfl) hb (by omega) (by omega)
    obtain ⟨T2, ec2⟩ := cw_ok (c.permS pa.symm) w1 (by rw [pa.length_eq]; omega)
    rw [pa.length_eq] at ec2
    have e3 := t_f15 (s1 := s1) (s5 := s5) (s6 := .val (.list F0)) (s7 := s7) (s8 := s8) (s10 := .val (.list (nts (depL os)))) (s11 := .nst (.dt (kvT (numC os ord (arrL ss ss.length) [])))) (s12 := s12) (s13 := s13) (s14 := .val (.int ((cwV os ss.length ord.length W : Nat) : Int))) (F := [.int ((cwV os ss.length ord.length W : Nat) : Int)]) em ec2 (by simp)
    have e4 := t_g15 (s0 := .io bag1) (s1 := s1) (s2 := vO os) (s3 := vS ss) (s4 := vS ord) (s5 := s5) (s6 := .val (.list F0)) (s7 := s7) (s8 := s8) (s9 := .val (.tuple (nts W))) (s10 := .val (.list (nts (depL os)))) (s11 := .nst (.dt (kvT (numC os ord (arrL ss ss.length) [])))) (s12 := s12) (s13 := s13) (two_ok (os := os) (n := ss.length) (k := ord.length) (W := W) (by omega) (by omega) (by omega))
    obtain ⟨bag', y9, y14, y15, p, ih⟩ := fb_loop c h6 (F0 := F0) (s1 := s1) (s5 := s5) (s7 := s7) (s8 := s8) (s12 := s12) (s13 := s13) (F := F) (k := k + 100) (s9 := .val (.tuple (nts W))) (s14 := .val (.int ((cwV os ss.length ord.length W : Nat) : Int))) (s15 := .own [.int ((cwV os ss.length ord.length W : Nat) : Int), .int ((cwV os ss.length ord.length W : Nat) : Int)]) (fun z hz => hR z (List.mem_cons_of_mem _ hz)) pb (by omega) rfl rfl rfl
    refine ⟨bag', y9, y14, y15, by rw [List.length_cons, show k + 100 * (F.length + 1) = k + 100 + 100 * F.length by omega]; exact p, ?_⟩
    rw [loop_nxP e0 (show q_fb _ = _ from by rw [q_fb, r_sSeq, e1, sq_nx, r_sSeq, show q_e15 _ = _ from e2, sq_nx, r_sSeq, show q_f15 _ = _ from e3, sq_nx]; exact e4)]
    exact ih
end
end Ds
end
section
set_option Elab.async false
set_option linter.all false
set_option maxRecDepth 100000
set_option maxHeartbeats 1000000
open PySem PySem.Spec PyProof.Rows L2
namespace Ds
theorem t_rg4 {S : En} : sRng1 (sCons (sK (.int 4)) sNil) S = .ok (rng 0 4) S := by
  refine rng1_run (ds := [.int ((4 : Nat) : Int)]) ?_ (rng1_ok (by omega) (by omega))
  simp
theorem lawP_right {m : Int} (hm : m = 5 ∨ m = 6 ∨ m = 7) {k : Nat} {bag : List PyData} (hb : Pt k bag) (hk : k < 400000) : ∃ bag' T, Pt (k + 3000) bag' ∧ m__law_rightP [.io bag, .val (.int m)] = .ok (.val (.bool true)) (.io bag' :: T) := by
  obtain ⟨os0, bag1, T1, a1, a2, a3, e1⟩ := lawP_off (m := m) (by omega) (by omega) (by omega) hb
  obtain ⟨os, bag2, o1, o2, p2, ew⟩ := w2_ok hm a1 a2 a3 (by omega) (s3 := .nil) (s4 := .nil) (s5 := .nil) (s6 := .nil) (s7 := .nil) (s8 := .nil) (s9 := .nil) (s10 := .nil) (s11 := .nil) (s12 := .nil) (s13 := .nil) (s14 := .nil) (s15 := .nil)
  obtain ⟨ss, bag3, T3, b1, b2, b3, b4, e3⟩ := lawP_names (n := os.length + 1) p2 (by omega) (by omega)
  obtain ⟨A, bag4, T4, c1, c2, e4⟩ := lawP_mixed (ss := ss) (d := .tuple (sts ss)) (.inr rfl) b4 (by omega) (by omega)
  have lA := c1.length_eq
  obtain ⟨r1, bag5, T5, d1, d2, d3, e5⟩ := drawP c2 (by omega) (m := 2) (by decide) (by decide)
  obtain ⟨y, y0, y1, ey⟩ : ∃ y : Int, 0 < y ∧ y ≤ (ss.length : Int) + 1 ∧ atI [PyData.int 1, .int (((sts ss).length : Int) + 1)] r1 = some (.int y) := by
    rw [atI_nn d1, sts_len]
    have : r1 = 0 ∨ r1 = 1 := by omega
    rcases this with q | q <;> subst q
    · exact ⟨1, by omega, by omega, rfl⟩
    · exact ⟨_, by omega, by omega, rfl⟩
  obtain ⟨r2, bag6, T6, f1, f2, f3, e6⟩ := drawP d3 (by omega) (m := y) y0 (by omega)
  obtain ⟨j, hj⟩ : ∃ j : Nat, (ss.length : Int) - r2 = (j : Int) := ⟨((ss.length : Int) - r2).toNat, by omega⟩
  have hL : cutD (sts A) none (some (((sts ss).length : Int) - r2)) = sts (A.take j) := by
    rw [sts_len, hj, take_sts (by omega)]
  have c : Case os ss (A.take j) := ⟨o1, b1, b2, b3, (c1.nodup_iff.mpr b2).sublist (List.take_sublist _ _), fun z hz => c1.mem_iff.mp (List.mem_of_mem_take hz)⟩
  generalize A.take j = ord at *
  have osl := nodup_len_le c.ond c.osub
  obtain ⟨T7, e7⟩ := depths_okW c.off
  rw [← depths_eq] at e7
  obtain ⟨T8, e8⟩ := lawP_all (ss := ss) (by omega)
  have alen : (arrL ss ss.length).length ≤ 823543 := by
    have h1 := arr_len (ss := ss) ss.length
    have h2 : ss.length ^ ss.length ≤ 7 ^ ss.length := Nat.pow_le_pow_left (by omega) _
    have h3 : 7 ^ ss.length ≤ 7 ^ 7 := Nat.pow_le_pow_right (by decide) (by omega)
    have h4 : (7 : Nat) ^ 7 = 823543 := by decide
    omega
  obtain ⟨y5, y9, g5, g9, e9⟩ := nb_loop (os := os) (ss := ss) (ord := ord) (s0 := .io bag6) (s1 := .val (.int m)) (s6 := .nil) (s7 := .nil) (s8 := .nil) (s12 := .nil) (s13 := .nil) (s14 := .nil) (s15 := .nil) (l := arrL ss ss.length) (C := []) (x5 := .nil) (x9 := .nil) (fun p hp => c.permS ((arr_perm c.nd).mp hp).symm) List.nodup_nil (by rw [List.length_nil]; omega) rfl rfl
  obtain ⟨Z, bag7, p7, z1, z2, e10⟩ := lc7_ok c f3 (by omega) (s1 := .val (.int m)) (s5 := y5) (s6 := .nil) (s8 := .nil) (s9 := y9) (s11 := .nst (.dt (kvT (numC os ord (arrL ss ss.length) [])))) (s12 := .nil) (s13 := .nil) (s14 := .nil) (s15 := .nil)
  obtain ⟨S', el, bag8, F, y7, y12, y13, p8, l1, l2, g7, g12, g13, rfl⟩ := loop_inv (g := gNm 7) (b := q_b12) (ds := rng 0 4) (P := fun i S => ∃ bag F x7 x12 x13, Pt (k + 1000 + 20 * i) bag ∧ F.length = 3 + i ∧ (∀ d ∈ F, RowC ord.length d) ∧ bare (some x7) = true ∧ noio (some x12) = true ∧ bare (some x13) = true ∧ S = [.io bag, .val (.int m), vO os, vS ss, vS ord, y5, .own F, x7, .nil, y9, .val (.list (nts (depL os))), .nst (.dt (kvT (numC os ord (arrL ss ss.length) []))), x12, x13, .nil, .nil])
    (S := [.io bag7, .val (.int m), vO os, vS ss, vS ord, y5, .own Z, .nil, .nil, y9, .val (.list (nts (depL os))), .nst (.dt (kvT (numC os ord (arrL ss ss.length) []))), .nil, .nil, .nil, .nil]) ⟨bag7, Z, .nil, .nil, .nil, p7.mono (by omega), z1, z2, rfl, rfl, rfl, rfl⟩ fun i z S hz hS => by
    obtain ⟨bag, F, x7, x12, x13, p, l1, l2, g7, g12, g13, rfl⟩ := hS
    obtain ⟨rfl, hi⟩ := rng_get hz
    rw [Int.zero_add]
    obtain ⟨d, bag', y13, p', rd, g13', y12, g12', e⟩ := b12_ok c (t := i) p (by omega) l1 (by omega) l2 (s1 := .val (.int m)) (s5 := y5) (s8 := .nil) (s9 := y9) (s11 := .nst (.dt (kvT (numC os ord (arrL ss ss.length) [])))) (s12 := x12) (s13 := x13) (s14 := .nil) (s15 := .nil) g12 g13
    refine ⟨[.io bag, .val (.int m), vO os, vS ss, vS ord, y5, .own F, .val (.int (i : Nat)), .nil, y9, .val (.list (nts (depL os))), .nst (.dt (kvT (numC os ord (arrL ss ss.length) []))), x12, x13, .nil, .nil], _, ?_, e, bag', F ++ [d], .val (.int (i : Nat)), y12, y13, p'.mono (by omega), by rw [List.length_append, List.length_singleton, l1]; omega, ?_, rfl, g12', g13', rfl⟩
    · generalize nts (depL os) = Y
      generalize kvT (numC os ord (arrL ss ss.length) []) = X
      simp [g7]
    · intro z hz
      rcases List.mem_append.mp hz with q | q
      · exact l2 z q
      · rw [List.mem_singleton.mp q]; exact rd
  have l1' : F.length = 7 := l1
  obtain ⟨F2, bag9, p9, m1, m2, e11⟩ := u9_ok c p8 (by show k + 1000 + 20 * 4 < _; omega) l1' l2 (s1 := .val (.int m)) (s5 := y5) (s7 := y7) (s8 := .nil) (s9 := y9) (s11 := .nst (.dt (kvT (numC os ord (arrL ss ss.length) [])))) (s12 := y12) (s13 := y13) (s14 := .nil) (s15 := .nil)
  have fok := four_ok c o2 m1 m2
  have r1 := t_rr (s0 := .io bag9) (s1 := .val (.int m)) (s5 := y5) (s7 := y7) (s8 := .nil) (s9 := y9) (s10 := .val (.list (nts (depL os)))) (s11 := .nst (.dt (kvT (numC os ord (arrL ss ss.length) [])))) (s12 := y12) (s13 := y13) (s14 := .nil) (s15 := .nil) fok
  have s8 : sSet 8 q_rr [.io bag9, .val (.int m), vO os, vS ss, vS ord, y5, .val (.list F2), y7, .nil, y9, .val (.list (nts (depL os))), .nst (.dt (kvT (numC os ord (arrL ss ss.length) []))), y12, y13, .nil, .nil] = .nx [.io bag9, .val (.int m), vO os, vS ss, vS ord, y5, .val (.list F2), y7, .val (.str (PyData.list [.tuple (nts os), .tuple (sts ss), .tuple (sts ord), .list F2]).shown), y9, .val (.list (nts (depL os))), .nst (.dt (kvT (numC os ord (arrL ss ss.length) []))), y12, y13, .nil, .nil] := by
    rw [r_sSet, r1, stt_ok]
    rfl
  obtain ⟨bag10, v9, v14, v15, p10, e12⟩ := fb_loop c o2 (F0 := F2) (s1 := .val (.int m)) (s5 := y5) (s7 := y7) (s8 := .val (.str (PyData.list [.tuple (nts os), .tuple (sts ss), .tuple (sts ord), .list F2]).shown)) (s12 := y12) (s13 := y13) (F := F2) (s9 := y9) (s14 := .nil) (s15 := .nil) m2 p9 (by show k + 1000 + 20 * 4 + 1 + _ < _; omega) g9 rfl rfl
  have it : sIL (sVar 6) [.io bag9, .val (.int m), vO os, vS ss, vS ord, y5, .val (.list F2), y7, .val (.str (PyData.list [.tuple (nts os), .tuple (sts ss), .tuple (sts ord), .list F2]).shown), y9, .val (.list (nts (depL os))), .nst (.dt (kvT (numC os ord (arrL ss ss.length) []))), y12, y13, .nil, .nil] = .ok F2 [.io bag9, .val (.int m), vO os, vS ss, vS ord, y5, .val (.list F2), y7, .val (.str (PyData.list [.tuple (nts os), .tuple (sts ss), .tuple (sts ord), .list F2]).shown), y9, .val (.list (nts (depL os))), .nst (.dt (kvT (numC os ord (arrL ss ss.length) []))), y12, y13, .nil, .nil] := by
    generalize nts (depL os) = Y
    generalize kvT (numC os ord (arrL ss ss.length) []) = X
    simp
  have r2 := t_rr (s0 := .io bag10) (s1 := .val (.int m)) (s5 := y5) (s7 := y7) (s8 := .val (.str (PyData.list [.tuple (nts os), .tuple (sts ss), .tuple (sts ord), .list F2]).shown)) (s9 := v9) (s10 := .val (.list (nts (depL os)))) (s11 := .nst (.dt (kvT (numC os ord (arrL ss ss.length) [])))) (s12 := y12) (s13 := y13) (s14 := v14) (s15 := v15) fok
  have fin := t_ret (s0 := .io bag10) (s1 := .val (.int m)) (s2 := vO os) (s3 := vS ss) (s4 := vS ord) (s5 := y5) (s6 := .val (.list F2)) (s7 := y7) (s9 := v9) (s10 := .val (.list (nts (depL os)))) (s11 := .nst (.dt (kvT (numC os ord (arrL ss ss.length) [])))) (s12 := y12) (s13 := y13) (s14 := v14) (s15 := v15) r2
  refine ⟨bag10, [.io bag10, .val (.int m), vO os, vS ss, vS ord, y5, .val (.list F2), y7, .val (.str (PyData.list [.tuple (nts os), .tuple (sts ss), .tuple (sts ord), .list F2]).shown), v9, .val (.list (nts (depL os))), .nst (.dt (kvT (numC os ord (arrL ss ss.length) []))), y12, y13, v14, v15].tail, p10.mono (by show k + 1000 + 20 * 4 + 1 + 100 * F2.length ≤ _; omega), ?_⟩
  rw [m__law_rightP, r_mB]
  show (c__law_rightP [.io bag, .val (.int m), .nil, .nil, .nil, .nil, .nil, .nil, .nil, .nil, .nil, .nil, .nil, .nil, .nil, .nil]).fin = _
  rw [c_rt_eq, r_sSeq, show q_r1 _ = _ from t_r1 e1 rfl, sq_nx, r_sSeq, ew, sq_nx, r_sSeq, show q_r3 _ = _ from t_r3 (n := ((os.length + 1 : Nat) : Int)) (by rw [nts_len]; omega) e3 rfl, sq_nx, r_sSeq, show q_r4 _ = _ from t_r4 e4 e5 ey e6 hL rfl, sq_nx, r_sSeq, show q_r5 _ = _ from t_r5 e7 rfl rfl, sq_nx, r_sSeq, r_sFor, show q_it6 _ = _ from t_it6 e8, stt_ok]
  rw [show ([] : List (NK × PyData)) = kvT [] from rfl, e9, sq_nx, r_sSeq, show sSetNew 6 q_lc7 _ = _ from t_lc7 e10 rfl, sq_nx, r_sSeq, r_sFor, t_rg4, stt_ok, el, sq_nx, r_sSeq, e11, sq_nx]
  show (q_end [.io bag9, .val (.int m), vO os, vS ss, vS ord, y5, .val (.list F2), y7, .nil, y9, .val (.list (nts (depL os))), .nst (.dt (kvT (numC os ord (arrL ss ss.length) []))), y12, y13, .nil, .nil]).fin = _
  rw [q_end, r_sSeq, s8, sq_nx, r_sSeq, r_sFor, it, stt_ok, e12, sq_nx, fin]
  rfl
end Ds
end
section
set_option Elab.async false
set_option linter.all false
set_option maxRecDepth 100000
set_option maxHeartbeats 1000000
open PySem PySem.Spec PyProof.Rows L2
namespace Ds
def q_pt3 : SS := sSetNew 2 (sCallN m__law_potP (sGv (sVar 0) (sGv (sVar 1) sG0)))
def q_v67 : SE := sBin gIx (sNE (sLst (sCons (sK (.int 6)) (sCons (sK (.int 7)) sNil)))) (sCallB gInt1 (sCons (sBin gEq (sVar 1) (sK (.int 0))) sNil))
def q_one3 : SS := sIf (sOr (sNot (sTst (sCallV m__law_rightP (sGr 2 (sGv q_v67 sG0))))) (sNot (sTst (sCallV m__law_rightP (sGr 2 (sGv (sK (.int 5)) sG0)))))) (sRet (sK (.bool false))) sNx
def q_rg3 : SN := sRng1 (sCons (sCallB gMax (sCons (sK (.int 1)) (sCons (sCallB gMin (sCons (sK (.int 3)) (sCons (sCallB gLenS (sCons (sVar 0) sNil)) sNil))) sNil))) sNil)
def q_e3 : SE := sBin gEq (sCallV m_count_with_costs (sGv (sTup (sCons (sK (.int 0)) (sCons (sK (.int 0)) (sCons (sK (.int 2)) sNil)))) (sGv (sCallB gTupSt (sCons (sK (.str (Str.ofString "dcba"))) sNil)) (sGv (sCallB gTupSt (sCons (sK (.str (Str.ofString "abcd"))) sNil)) (sGv (sTup (sCons (sK (.int 0)) (sCons (sK (.int 1)) (sCons (sK (.int 1)) (sCons (sK (.int 2)) sNil))))) sG0))))) (sK (.int 2))
theorem c_law_eq : c_law = sSeq (sFor q_rg3 (gNm 1) (sSeq q_pt3 q_one3)) (sRet q_e3) := rfl
section
variable {M : Mf} {T1 T2 : En} {a b : PyData} {bag bag1 bag2 : List PyData} {s0 s1 s2 s3 : Sl}
theorem t_pt3 (e : M [.val a, .val b] = .ok (.own bag) T1) (h2 : noio (some s2) = true) : sSetNew 2 (sCallN M (sGv (sVar 0) (sGv (sVar 1) sG0))) [.val a, .val b, s2] = .nx [.val a, .val b, .own bag] := by simp [e, h2]
theorem t_v67 {i : Nat} : ∃ m : Int, (m = 5 ∨ m = 6 ∨ m = 7) ∧ ∀ s0 s2, q_v67 [s0, .val (.int (i : Nat)), s2] = .ok (.int m) [s0, .val (.int (i : Nat)), s2] := by
  by_cases h : i = 0
  · subst h
    refine ⟨7, .inr (.inr rfl), fun s0 s2 => ?_⟩
    have gi : gInt1 [.bool true] = some (.int 1) := rfl
    have ge : gEq (.int ((0 : Nat) : Int)) (.int 0) = some (.bool true) := rfl
    have a1 : atI [PyData.int 6, .int 7] 1 = some (.int 7) := rfl
    generalize ((0 : Nat) : Int) = z at *
    simp [q_v67, ge, gi, a1, sizeLine]
  · refine ⟨6, .inr (.inl rfl), fun s0 s2 => ?_⟩
    have gi : gInt1 [.bool false] = some (.int 0) := rfl
    have ge : gEq (.int ((i : Nat) : Int)) (.int 0) = some (.bool false) := by
      show some (PyData.bool (decide ((i : Int) = 0))) = _
      rw [decide_eq_false (by omega)]
    have a1 : atI [PyData.int 6, .int 7] 0 = some (.int 6) := rfl
    generalize ((i : Nat) : Int) = z at *
    simp [q_v67, ge, gi, a1, sizeLine]
theorem t_one3 {m : Int} {q : SE} (eq : ∀ s0 s2, q [s0, s1, s2] = .ok (.int m) [s0, s1, s2]) (e1 : M [.io bag, .val (.int m)] = .ok (.val (.bool true)) (.io bag1 :: T1)) (e2 : M [.io bag1, .val (.int 5)] = .ok (.val (.bool true)) (.io bag2 :: T2)) :
    sIf (sOr (sNot (sTst (sCallV M (sGr 2 (sGv q sG0))))) (sNot (sTst (sCallV M (sGr 2 (sGv (sK (.int 5)) sG0)))))) (sRet (sK (.bool false))) sNx [s0, s1, .own bag] = .nx [s0, s1, .own bag2] := by
  simp [eq, e1, e2]
theorem t_rg3 {ns : List Int} {T : En} : ∃ n : Nat, n ≤ 3 ∧ q_rg3 (.val (scrD ns) :: T) = .ok (rng 0 n) (.val (scrD ns) :: T) := by
  have e : ∃ n : Nat, n ≤ 3 ∧ (if (if (ns.length : Int) < 3 then (ns.length : Int) else 3) > 1 then (if (ns.length : Int) < 3 then (ns.length : Int) else 3) else 1) = (n : Int) := by
    by_cases h : (ns.length : Int) < 3
    · rw [if_pos h]
      by_cases h2 : (ns.length : Int) > 1
      · exact ⟨ns.length, by omega, if_pos h2⟩
      · exact ⟨1, by omega, if_neg h2⟩
    · rw [if_neg h]
      exact ⟨3, by omega, by rw [if_pos (by decide)]; rfl⟩
  obtain ⟨n, n1, en⟩ := e
  refine ⟨n, n1, rng1_run (ds := [.int (n : Nat)]) ?_ (rng1_ok (by omega) (by omega))⟩
  rw [← en]
  simp [scrD]
theorem t_e3 {o x y : PyData} {xs ys : Str} (h1 : gTupSt [.str xs] = some x) (h2 : gTupSt [.str ys] = some y) (e : M [.val (.tuple [.int 0, .int 0, .int 2]), .val x, .val y, .val (.tuple [.int 0, .int 1, .int 1, .int 2])] = .ok (.val (.int 2)) T1) :
    sBin gEq (sCallV M (sGv (sTup (sCons (sK (.int 0)) (sCons (sK (.int 0)) (sCons (sK (.int 2)) sNil)))) (sGv (sCallB gTupSt (sCons (sK (.str xs)) sNil)) (sGv (sCallB gTupSt (sCons (sK (.str ys)) sNil)) (sGv (sTup (sCons (sK (.int 0)) (sCons (sK (.int 1)) (sCons (sK (.int 1)) (sCons (sK (.int 2)) sNil))))) sG0))))) (sK (.int 2)) [s0, s1, s2] = .ok (.bool true) [s0, s1, s2] := by
  have ge : gEq (.int 2) (.int 2) = some (.bool true) := rfl
  simp [h1, h2, e, ge, sizeLine]
end
abbrev nmD : List Str := [Str.ofString "d", Str.ofString "c", Str.ofString "b", Str.ofString "a"]
abbrev nmA : List Str := [Str.ofString "a", Str.ofString "b", Str.ofString "c", Str.ofString "d"]
theorem caseD : Case [0, 0, 2] nmD nmA := caseB_ok (by decide +kernel)
theorem tupS {x : Str} {l : List Str} (h : (x.cps.toList.map fun c => (⟨#[c]⟩ : Str)) = l) (hz : x.length ≤ 1000) : gTupSt [.str x] = some (.tuple (sts l)) := by
  show (if x.length ≤ sizeLine then some (PyData.tuple (signs x)) else none) = _
  rw [if_pos (by rw [sizeLine_eq]; omega), signs_sts, h]
theorem tupD : gTupSt [.str (Str.ofString "dcba")] = some (.tuple (sts nmD)) := tupS (by decide +kernel) (by decide +kernel)
theorem tupA : gTupSt [.str (Str.ofString "abcd")] = some (.tuple (sts nmA)) := tupS (by decide +kernel) (by decide +kernel)
theorem two43 : cwV [0, 0, 2] 4 4 [0, 1, 1, 2] = 2 := by decide +kernel
theorem e3_ok {s0 s1 s2 : Sl} : q_e3 [s0, s1, s2] = .ok (.bool true) [s0, s1, s2] := by
  obtain ⟨T, e⟩ := cw_ok caseD (W := [0, 1, 1, 2]) rfl (by decide)
  rw [show nmD.length = 4 from rfl, show nmA.length = 4 from rfl, two43] at e
  exact t_e3 (o := .none) tupD tupA e
theorem law_true (ns : List Int) (hn : ns.length ≤ 63) : ∃ S, m_law [.val (scrD ns)] = .ok (.val (.bool true)) S := by
  obtain ⟨n, n1, hr⟩ := t_rg3 (ns := ns) (T := [.nil, .nil])
  obtain ⟨S', el, x1, x2, g1, g2, rfl⟩ := loop_inv (g := gNm 1) (b := sSeq q_pt3 q_one3) (ds := rng 0 n) (P := fun _ S => ∃ x1 x2, bare (some x1) = true ∧ noio (some x2) = true ∧ S = [.val (scrD ns), x1, x2])
    (S := [.val (scrD ns), .nil, .nil]) ⟨.nil, .nil, rfl, rfl, rfl⟩ fun i z S hz hS => by
    obtain ⟨x1, x2, g1, g2, rfl⟩ := hS
    obtain ⟨rfl, hi⟩ := rng_get hz
    rw [Int.zero_add]
    obtain ⟨bag, T, hb, e⟩ := law_pot ns (k := i) (by omega)
    obtain ⟨m, hm, ev⟩ := t_v67 (i := i)
    obtain ⟨bag1, T1, p1, e1⟩ := lawP_right hm hb (by omega)
    obtain ⟨bag2, T2, p2, e2⟩ := lawP_right (m := 5) (.inl rfl) p1 (by omega)
    refine ⟨[.val (scrD ns), .val (.int (i : Nat)), x2], [.val (scrD ns), .val (.int (i : Nat)), .own bag2], by simp [g1], ?_, .val (.int (i : Nat)), .own bag2, rfl, rfl, rfl⟩
    rw [r_sSeq, show q_pt3 _ = _ from t_pt3 e g2, sq_nx, show q_one3 _ = _ from t_one3 ev e1 e2]
  refine ⟨[.val (scrD ns), x1, x2], ?_⟩
  rw [m_law, r_mB]
  show (c_law [.val (scrD ns), .nil, .nil]).fin = _
  rw [c_law_eq, r_sSeq, r_sFor, hr, stt_ok, el, sq_nx, r_sRet, e3_ok, stt_ok]
  rfl
end Ds
end
set_option Elab.async false
set_option linter.all false
set_option maxRecDepth 100000
set_option maxHeartbeats 1000000
open PySem PySem.Spec PyProof.Rows L2
namespace Ds
def spEnd (K : PySem.W.Frag) (w : World) : Sp := fun vs H Q E => ∃ (a : Addr) (ns : List Int), vs = [.ref a] ∧ SK K ⟨fun _ => False, w⟩ H a (ns.map V.int) ∧ ns.length ≤ 63 ∧ ∀ H', Q (.bl true) H'
theorem FnG.weak {P : Program} {w : World} {K : PySem.W.Frag} {mg : Str → Option Value} {base : Heap} {k : Nat} {f : Addr} {fd : FuncData} {ps : List Str} {sp sp' : Sp} (F : FnG P w K mg base k f fd ps sp) (h : ∀ vs H Q E, sp' vs H Q E → sp vs H Q E) : FnG P w K mg base k f fd ps sp' := by
  exact ⟨fun vs H Q E h' => F.len vs H Q E (h _ _ _ _ h'), fun A outer s H args us vs Q E gd hr he hb hv hs => F.run A outer s H args us vs Q E gd hr he hb hv (h _ _ _ _ hs)⟩
theorem end_law {gw : World → Prop} {w : World} (hgw : gw w) {K : PySem.W.Frag} {mg : Str → Option Value} {vs : List V} {H : Hp} {Q : VK} {E : XK} (h : spEnd K w vs H Q E) : spG gw K mg m_law 1 vs H Q E := by
  obtain ⟨a, ns, rfl, hk, hl, q⟩ := h
  obtain ⟨Sx, hm⟩ := law_true ns hl
  refine ⟨rfl, ⟨fun _ => False, w⟩, [.val (scrD ns)], hgw, ⟨rfl, fun i x e => ?_, fun i j ds es b e => ?_, fun _ z => z.elim⟩, ?_⟩
  · match i, e with
    | 0, e =>
      obtain rfl : Sl.val (scrD ns) = x := by simpa using e
      exact ⟨.ref a, rfl, .scr hk⟩
    | i + 1, e => simp at e
  · match i, e with
    | 0, e => simp at e
    | i + 1, e => simp at e
  · rw [hm]
    intro v H' _ rd
    cases rd
    exact q H'
theorem all_mk {P : Program} {w : World} {K : PySem.W.Frag} {h : Heap} {mg : Str → Option Value} {fa f_is_whole f_is_name f_depths f_next_calls f__law_pot f__law_draw f__law_all f__law_depths f__law_costs f_is_number f_are_different_names f_need_costs f__law_office f__law_mixed f_is_office f__law_names f_need_office f_is_seating f_need_seating f_is_order f_need_order f_count_with_costs f__law_right f_law : Addr} (X : K.In h) (G : h.Ns mainGlobals mg) (hfa : mg "law" = some (.ref fa))
    {od_is_whole an_is_whole od_is_name an_is_name od_depths an_depths od_next_calls an_next_calls od__law_pot an__law_pot od__law_draw an__law_draw od__law_all an__law_all od__law_depths an__law_depths od__law_costs an__law_costs od_is_number an_is_number od_are_different_names an_are_different_names od_need_costs an_need_costs od__law_office an__law_office od__law_mixed an__law_mixed od_is_office an_is_office od__law_names an__law_names od_need_office an_need_office od_is_seating an_is_seating od_need_seating an_need_seating od_is_order an_is_order od_need_order an_need_order od_count_with_costs an_count_with_costs od__law_right an__law_right od_law an_law : Option Addr} {sl_is_whole sl_is_name sl_depths sl_next_calls sl__law_pot sl__law_draw sl__law_all sl__law_depths sl__law_costs sl_is_number sl_are_different_names sl_need_costs sl__law_office sl__law_mixed sl_is_office sl__law_names sl_need_office sl_is_seating sl_need_seating sl_is_order sl_need_order sl_count_with_costs sl__law_right sl_law : Array (Option Value)} {oc_is_whole kV_is_whole dc_is_whole pm_is_whole cd_is_whole ct_is_whole oc_is_name kV_is_name dc_is_name pm_is_name cd_is_name ct_is_name oc_depths kV_depths dc_depths pm_depths cd_depths ct_depths oc_next_calls kV_next_calls dc_next_calls pm_next_calls cd_next_calls ct_next_calls oc__law_pot kV__law_pot dc__law_pot pm__law_pot cd__law_pot ct__law_pot oc__law_draw kV__law_draw dc__law_draw pm__law_draw cd__law_draw ct__law_draw oc__law_all kV__law_all dc__law_all pm__law_all cd__law_all ct__law_all oc__law_depths kV__law_depths dc__law_depths pm__law_depths cd__law_depths ct__law_depths oc__law_costs kV__law_costs dc__law_costs pm__law_costs cd__law_costs ct__law_costs oc_is_number kV_is_number dc_is_number pm_is_number cd_is_number ct_is_number oc_are_different_names kV_are_different_names dc_are_different_names pm_are_different_names cd_are_different_names ct_are_different_names oc_need_costs kV_need_costs dc_need_costs pm_need_costs cd_need_costs ct_need_costs oc__law_office kV__law_office dc__law_office pm__law_office cd__law_office ct__law_office oc__law_mixed kV__law_mixed dc__law_mixed pm__law_mixed cd__law_mixed ct__law_mixed oc_is_office kV_is_office dc_is_office pm_is_office cd_is_office ct_is_office oc__law_names kV__law_names dc__law_names pm__law_names cd__law_names ct__law_names oc_need_office kV_need_office dc_need_office pm_need_office cd_need_office ct_need_office oc_is_seating kV_is_seating dc_is_seating pm_is_seating cd_is_seating ct_is_seating oc_need_seating kV_need_seating dc_need_seating pm_need_seating cd_need_seating ct_need_seating oc_is_order kV_is_order dc_is_order pm_is_order cd_is_order ct_is_order oc_need_order kV_need_order dc_need_order pm_need_order cd_need_order ct_need_order oc_count_with_costs kV_count_with_costs dc_count_with_costs pm_count_with_costs cd_count_with_costs ct_count_with_costs oc__law_right kV__law_right dc__law_right pm__law_right cd__law_right ct__law_right oc_law kV_law dc_law pm_law cd_law ct_law : Value}
    {t_LONGEST_NAME t_LETTERS t_MOST_DESKS t_MOST_DESKS_BY_COSTS : Tok}
    (a_is_whole : PySem.W.nsIn K mainGlobals "is_whole" = some (some (.ref f_is_whole))) (l_is_whole : K.lookup f_is_whole = some ⟨oc_is_whole, od_is_whole, .func (PySem.W.fnOf "is_whole" "is_whole" (defArgs S_is_whole) (defBody S_is_whole) (defScope S_is_whole) .none kV_is_whole dc_is_whole pm_is_whole an_is_whole cd_is_whole ct_is_whole), sl_is_whole⟩) (c_is_whole : PySem.W.codeIn K cd_is_whole "is_whole" = true) (k_is_whole : PySem.W.keepIn K (.ref f_is_whole) = true)
    (a_is_name : PySem.W.nsIn K mainGlobals "is_name" = some (some (.ref f_is_name))) (l_is_name : K.lookup f_is_name = some ⟨oc_is_name, od_is_name, .func (PySem.W.fnOf "is_name" "is_name" (defArgs S_is_name) (defBody S_is_name) (defScope S_is_name) .none kV_is_name dc_is_name pm_is_name an_is_name cd_is_name ct_is_name), sl_is_name⟩) (c_is_name : PySem.W.codeIn K cd_is_name "is_name" = true) (k_is_name : PySem.W.keepIn K (.ref f_is_name) = true)
    (a_depths : PySem.W.nsIn K mainGlobals "depths" = some (some (.ref f_depths))) (l_depths : K.lookup f_depths = some ⟨oc_depths, od_depths, .func (PySem.W.fnOf "depths" "depths" (defArgs S_depths) (defBody S_depths) (defScope S_depths) .none kV_depths dc_depths pm_depths an_depths cd_depths ct_depths), sl_depths⟩) (c_depths : PySem.W.codeIn K cd_depths "depths" = true) (k_depths : PySem.W.keepIn K (.ref f_depths) = true)
    (a_next_calls : PySem.W.nsIn K mainGlobals "next_calls" = some (some (.ref f_next_calls))) (l_next_calls : K.lookup f_next_calls = some ⟨oc_next_calls, od_next_calls, .func (PySem.W.fnOf "next_calls" "next_calls" (defArgs S_next_calls) (defBody S_next_calls) (defScope S_next_calls) .none kV_next_calls dc_next_calls pm_next_calls an_next_calls cd_next_calls ct_next_calls), sl_next_calls⟩) (c_next_calls : PySem.W.codeIn K cd_next_calls "next_calls" = true) (k_next_calls : PySem.W.keepIn K (.ref f_next_calls) = true)
    (a__law_pot : PySem.W.nsIn K mainGlobals "_law_pot" = some (some (.ref f__law_pot))) (l__law_pot : K.lookup f__law_pot = some ⟨oc__law_pot, od__law_pot, .func (PySem.W.fnOf "_law_pot" "_law_pot" (defArgs S__law_pot) (defBody S__law_pot) (defScope S__law_pot) .none kV__law_pot dc__law_pot pm__law_pot an__law_pot cd__law_pot ct__law_pot), sl__law_pot⟩) (c__law_pot : PySem.W.codeIn K cd__law_pot "_law_pot" = true) (k__law_pot : PySem.W.keepIn K (.ref f__law_pot) = true)
    (a__law_draw : PySem.W.nsIn K mainGlobals "_law_draw" = some (some (.ref f__law_draw))) (l__law_draw : K.lookup f__law_draw = some ⟨oc__law_draw, od__law_draw, .func (PySem.W.fnOf "_law_draw" "_law_draw" (defArgs S__law_draw) (defBody S__law_draw) (defScope S__law_draw) .none kV__law_draw dc__law_draw pm__law_draw an__law_draw cd__law_draw ct__law_draw), sl__law_draw⟩) (c__law_draw : PySem.W.codeIn K cd__law_draw "_law_draw" = true) (k__law_draw : PySem.W.keepIn K (.ref f__law_draw) = true)
    (a__law_all : PySem.W.nsIn K mainGlobals "_law_all" = some (some (.ref f__law_all))) (l__law_all : K.lookup f__law_all = some ⟨oc__law_all, od__law_all, .func (PySem.W.fnOf "_law_all" "_law_all" (defArgs S__law_all) (defBody S__law_all) (defScope S__law_all) .none kV__law_all dc__law_all pm__law_all an__law_all cd__law_all ct__law_all), sl__law_all⟩) (c__law_all : PySem.W.codeIn K cd__law_all "_law_all" = true) (k__law_all : PySem.W.keepIn K (.ref f__law_all) = true)
    (a__law_depths : PySem.W.nsIn K mainGlobals "_law_depths" = some (some (.ref f__law_depths))) (l__law_depths : K.lookup f__law_depths = some ⟨oc__law_depths, od__law_depths, .func (PySem.W.fnOf "_law_depths" "_law_depths" (defArgs S__law_depths) (defBody S__law_depths) (defScope S__law_depths) .none kV__law_depths dc__law_depths pm__law_depths an__law_depths cd__law_depths ct__law_depths), sl__law_depths⟩) (c__law_depths : PySem.W.codeIn K cd__law_depths "_law_depths" = true) (k__law_depths : PySem.W.keepIn K (.ref f__law_depths) = true)
    (a__law_costs : PySem.W.nsIn K mainGlobals "_law_costs" = some (some (.ref f__law_costs))) (l__law_costs : K.lookup f__law_costs = some ⟨oc__law_costs, od__law_costs, .func (PySem.W.fnOf "_law_costs" "_law_costs" (defArgs S__law_costs) (defBody S__law_costs) (defScope S__law_costs) .none kV__law_costs dc__law_costs pm__law_costs an__law_costs cd__law_costs ct__law_costs), sl__law_costs⟩) (c__law_costs : PySem.W.codeIn K cd__law_costs "_law_costs" = true) (k__law_costs : PySem.W.keepIn K (.ref f__law_costs) = true)
    (a_is_number : PySem.W.nsIn K mainGlobals "is_number" = some (some (.ref f_is_number))) (l_is_number : K.lookup f_is_number = some ⟨oc_is_number, od_is_number, .func (PySem.W.fnOf "is_number" "is_number" (defArgs S_is_number) (defBody S_is_number) (defScope S_is_number) .none kV_is_number dc_is_number pm_is_number an_is_number cd_is_number ct_is_number), sl_is_number⟩) (c_is_number : PySem.W.codeIn K cd_is_number "is_number" = true) (k_is_number : PySem.W.keepIn K (.ref f_is_number) = true)
    (a_are_different_names : PySem.W.nsIn K mainGlobals "are_different_names" = some (some (.ref f_are_different_names))) (l_are_different_names : K.lookup f_are_different_names = some ⟨oc_are_different_names, od_are_different_names, .func (PySem.W.fnOf "are_different_names" "are_different_names" (defArgs S_are_different_names) (defBody S_are_different_names) (defScope S_are_different_names) .none kV_are_different_names dc_are_different_names pm_are_different_names an_are_different_names cd_are_different_names ct_are_different_names), sl_are_different_names⟩) (c_are_different_names : PySem.W.codeIn K cd_are_different_names "are_different_names" = true) (k_are_different_names : PySem.W.keepIn K (.ref f_are_different_names) = true)
    (a_need_costs : PySem.W.nsIn K mainGlobals "need_costs" = some (some (.ref f_need_costs))) (l_need_costs : K.lookup f_need_costs = some ⟨oc_need_costs, od_need_costs, .func (PySem.W.fnOf "need_costs" "need_costs" (defArgs S_need_costs) (defBody S_need_costs) (defScope S_need_costs) .none kV_need_costs dc_need_costs pm_need_costs an_need_costs cd_need_costs ct_need_costs), sl_need_costs⟩) (c_need_costs : PySem.W.codeIn K cd_need_costs "need_costs" = true) (k_need_costs : PySem.W.keepIn K (.ref f_need_costs) = true)
    (a__law_office : PySem.W.nsIn K mainGlobals "_law_office" = some (some (.ref f__law_office))) (l__law_office : K.lookup f__law_office = some ⟨oc__law_office, od__law_office, .func (PySem.W.fnOf "_law_office" "_law_office" (defArgs S__law_office) (defBody S__law_office) (defScope S__law_office) .none kV__law_office dc__law_office pm__law_office an__law_office cd__law_office ct__law_office), sl__law_office⟩) (c__law_office : PySem.W.codeIn K cd__law_office "_law_office" = true) (k__law_office : PySem.W.keepIn K (.ref f__law_office) = true)
    (a__law_mixed : PySem.W.nsIn K mainGlobals "_law_mixed" = some (some (.ref f__law_mixed))) (l__law_mixed : K.lookup f__law_mixed = some ⟨oc__law_mixed, od__law_mixed, .func (PySem.W.fnOf "_law_mixed" "_law_mixed" (defArgs S__law_mixed) (defBody S__law_mixed) (defScope S__law_mixed) .none kV__law_mixed dc__law_mixed pm__law_mixed an__law_mixed cd__law_mixed ct__law_mixed), sl__law_mixed⟩) (c__law_mixed : PySem.W.codeIn K cd__law_mixed "_law_mixed" = true) (k__law_mixed : PySem.W.keepIn K (.ref f__law_mixed) = true)
    (a_is_office : PySem.W.nsIn K mainGlobals "is_office" = some (some (.ref f_is_office))) (l_is_office : K.lookup f_is_office = some ⟨oc_is_office, od_is_office, .func (PySem.W.fnOf "is_office" "is_office" (defArgs S_is_office) (defBody S_is_office) (defScope S_is_office) .none kV_is_office dc_is_office pm_is_office an_is_office cd_is_office ct_is_office), sl_is_office⟩) (c_is_office : PySem.W.codeIn K cd_is_office "is_office" = true) (k_is_office : PySem.W.keepIn K (.ref f_is_office) = true)
    (a__law_names : PySem.W.nsIn K mainGlobals "_law_names" = some (some (.ref f__law_names))) (l__law_names : K.lookup f__law_names = some ⟨oc__law_names, od__law_names, .func (PySem.W.fnOf "_law_names" "_law_names" (defArgs S__law_names) (defBody S__law_names) (defScope S__law_names) .none kV__law_names dc__law_names pm__law_names an__law_names cd__law_names ct__law_names), sl__law_names⟩) (c__law_names : PySem.W.codeIn K cd__law_names "_law_names" = true) (k__law_names : PySem.W.keepIn K (.ref f__law_names) = true)
    (a_need_office : PySem.W.nsIn K mainGlobals "need_office" = some (some (.ref f_need_office))) (l_need_office : K.lookup f_need_office = some ⟨oc_need_office, od_need_office, .func (PySem.W.fnOf "need_office" "need_office" (defArgs S_need_office) (defBody S_need_office) (defScope S_need_office) .none kV_need_office dc_need_office pm_need_office an_need_office cd_need_office ct_need_office), sl_need_office⟩) (c_need_office : PySem.W.codeIn K cd_need_office "need_office" = true) (k_need_office : PySem.W.keepIn K (.ref f_need_office) = true)
    (a_is_seating : PySem.W.nsIn K mainGlobals "is_seating" = some (some (.ref f_is_seating))) (l_is_seating : K.lookup f_is_seating = some ⟨oc_is_seating, od_is_seating, .func (PySem.W.fnOf "is_seating" "is_seating" (defArgs S_is_seating) (defBody S_is_seating) (defScope S_is_seating) .none kV_is_seating dc_is_seating pm_is_seating an_is_seating cd_is_seating ct_is_seating), sl_is_seating⟩) (c_is_seating : PySem.W.codeIn K cd_is_seating "is_seating" = true) (k_is_seating : PySem.W.keepIn K (.ref f_is_seating) = true)
    (a_need_seating : PySem.W.nsIn K mainGlobals "need_seating" = some (some (.ref f_need_seating))) (l_need_seating : K.lookup f_need_seating = some ⟨oc_need_seating, od_need_seating, .func (PySem.W.fnOf "need_seating" "need_seating" (defArgs S_need_seating) (defBody S_need_seating) (defScope S_need_seating) .none kV_need_seating dc_need_seating pm_need_seating an_need_seating cd_need_seating ct_need_seating), sl_need_seating⟩) (c_need_seating : PySem.W.codeIn K cd_need_seating "need_seating" = true) (k_need_seating : PySem.W.keepIn K (.ref f_need_seating) = true)
    (a_is_order : PySem.W.nsIn K mainGlobals "is_order" = some (some (.ref f_is_order))) (l_is_order : K.lookup f_is_order = some ⟨oc_is_order, od_is_order, .func (PySem.W.fnOf "is_order" "is_order" (defArgs S_is_order) (defBody S_is_order) (defScope S_is_order) .none kV_is_order dc_is_order pm_is_order an_is_order cd_is_order ct_is_order), sl_is_order⟩) (c_is_order : PySem.W.codeIn K cd_is_order "is_order" = true) (k_is_order : PySem.W.keepIn K (.ref f_is_order) = true)
    (a_need_order : PySem.W.nsIn K mainGlobals "need_order" = some (some (.ref f_need_order))) (l_need_order : K.lookup f_need_order = some ⟨oc_need_order, od_need_order, .func (PySem.W.fnOf "need_order" "need_order" (defArgs S_need_order) (defBody S_need_order) (defScope S_need_order) .none kV_need_order dc_need_order pm_need_order an_need_order cd_need_order ct_need_order), sl_need_order⟩) (c_need_order : PySem.W.codeIn K cd_need_order "need_order" = true) (k_need_order : PySem.W.keepIn K (.ref f_need_order) = true)
    (a_count_with_costs : PySem.W.nsIn K mainGlobals "count_with_costs" = some (some (.ref f_count_with_costs))) (l_count_with_costs : K.lookup f_count_with_costs = some ⟨oc_count_with_costs, od_count_with_costs, .func (PySem.W.fnOf "count_with_costs" "count_with_costs" (defArgs S_count_with_costs) (defBody S_count_with_costs) (defScope S_count_with_costs) .none kV_count_with_costs dc_count_with_costs pm_count_with_costs an_count_with_costs cd_count_with_costs ct_count_with_costs), sl_count_with_costs⟩) (c_count_with_costs : PySem.W.codeIn K cd_count_with_costs "count_with_costs" = true) (k_count_with_costs : PySem.W.keepIn K (.ref f_count_with_costs) = true)
    (a__law_right : PySem.W.nsIn K mainGlobals "_law_right" = some (some (.ref f__law_right))) (l__law_right : K.lookup f__law_right = some ⟨oc__law_right, od__law_right, .func (PySem.W.fnOf "_law_right" "_law_right" (defArgs S__law_right) (defBody S__law_right) (defScope S__law_right) .none kV__law_right dc__law_right pm__law_right an__law_right cd__law_right ct__law_right), sl__law_right⟩) (c__law_right : PySem.W.codeIn K cd__law_right "_law_right" = true) (k__law_right : PySem.W.keepIn K (.ref f__law_right) = true)
    (a_law : PySem.W.nsIn K mainGlobals "law" = some (some (.ref f_law))) (l_law : K.lookup f_law = some ⟨oc_law, od_law, .func (PySem.W.fnOf "law" "law" (defArgs S_law) (defBody S_law) (defScope S_law) .none kV_law dc_law pm_law an_law cd_law ct_law), sl_law⟩) (c_law : PySem.W.codeIn K cd_law "law" = true) (k_law : PySem.W.keepIn K (.ref f_law) = true)
    (z_isinstance : PySem.W.nsIn K mainGlobals "isinstance" = some none)
    (z_int : PySem.W.nsIn K mainGlobals "int" = some none)
    (z_bool : PySem.W.nsIn K mainGlobals "bool" = some none)
    (z_all : PySem.W.nsIn K mainGlobals "all" = some none)
    (z_str : PySem.W.nsIn K mainGlobals "str" = some none)
    (z_len : PySem.W.nsIn K mainGlobals "len" = some none)
    (z_tuple : PySem.W.nsIn K mainGlobals "tuple" = some none)
    (z_max : PySem.W.nsIn K mainGlobals "max" = some none)
    (z_range : PySem.W.nsIn K mainGlobals "range" = some none)
    (z_list : PySem.W.nsIn K mainGlobals "list" = some none)
    (z_set : PySem.W.nsIn K mainGlobals "set" = some none)
    (z_min : PySem.W.nsIn K mainGlobals "min" = some none)
    (z_enumerate : PySem.W.nsIn K mainGlobals "enumerate" = some none)
    (z_sum : PySem.W.nsIn K mainGlobals "sum" = some none)
    (z_repr : PySem.W.nsIn K mainGlobals "repr" = some none)
    (z_LONGEST_NAME : PySem.W.nsIn K mainGlobals "LONGEST_NAME" = some (some (.int 8 t_LONGEST_NAME)))
    (z_LETTERS : PySem.W.nsIn K mainGlobals "LETTERS" = some (some (.str (Str.ofString "abcdefghijklmnopqrstuvwxyz") t_LETTERS)))
    (z_MOST_DESKS : PySem.W.nsIn K mainGlobals "MOST_DESKS" = some (some (.int 40 t_MOST_DESKS)))
    (z_MOST_DESKS_BY_COSTS : PySem.W.nsIn K mainGlobals "MOST_DESKS_BY_COSTS" = some (some (.int 7 t_MOST_DESKS_BY_COSTS)))
    (z_factorial : PySem.W.nsIn K mainGlobals "factorial" = some (some (.builtin "math.factorial")))
    : ∃ fd : FuncData, (∀ (s : Shared) (v : Value), BindsTo s fd ⟨[v], []⟩ [("script", v)]) ∧ ∀ base : Heap, K.In base → base.Ns mainGlobals mg → FnG P w K mg base 11 fa fd ["script"] (spEnd K w) := by
  have e := hfa.symm.trans (PySem.W.mg_of X G a_law)
  cases e
  have F_is_whole := fun_mk (st := S_is_whole) l_is_whole c_is_whole k_is_whole
  have b_is_whole := F_is_whole.binds (ps := ["value"]) fun _ _ _ _ _ _ us hl => match us, hl with | [_], _ => rfl
  have F_is_name := fun_mk (st := S_is_name) l_is_name c_is_name k_is_name
  have b_is_name := F_is_name.binds (ps := ["value"]) fun _ _ _ _ _ _ us hl => match us, hl with | [_], _ => rfl
  have F_depths := fun_mk (st := S_depths) l_depths c_depths k_depths
  have b_depths := F_depths.binds (ps := ["office"]) fun _ _ _ _ _ _ us hl => match us, hl with | [_], _ => rfl
  have F_next_calls := fun_mk (st := S_next_calls) l_next_calls c_next_calls k_next_calls
  have b_next_calls := F_next_calls.binds (ps := ["office", "waiting"]) fun _ _ _ _ _ _ us hl => match us, hl with | [_, _], _ => rfl
  have F__law_pot := fun_mk (st := S__law_pot) l__law_pot c__law_pot k__law_pot
  have b__law_pot := F__law_pot.binds (ps := ["script", "k"]) fun _ _ _ _ _ _ us hl => match us, hl with | [_, _], _ => rfl
  have F__law_draw := fun_mk (st := S__law_draw) l__law_draw c__law_draw k__law_draw
  have b__law_draw := F__law_draw.binds (ps := ["pot", "bound"]) fun _ _ _ _ _ _ us hl => match us, hl with | [_, _], _ => rfl
  have F__law_all := fun_mk (st := S__law_all) l__law_all c__law_all k__law_all
  have b__law_all := F__law_all.binds (ps := ["names"]) fun _ _ _ _ _ _ us hl => match us, hl with | [_], _ => rfl
  have F__law_depths := fun_mk (st := S__law_depths) l__law_depths c__law_depths k__law_depths
  have b__law_depths := F__law_depths.binds (ps := ["office"]) fun _ _ _ _ _ _ us hl => match us, hl with | [_], _ => rfl
  have F__law_costs := fun_mk (st := S__law_costs) l__law_costs c__law_costs k__law_costs
  have b__law_costs := F__law_costs.binds (ps := ["office", "deep", "seating", "order"]) fun _ _ _ _ _ _ us hl => match us, hl with | [_, _, _, _], _ => rfl
  have F_is_number := fun_mk (st := S_is_number) l_is_number c_is_number k_is_number
  have b_is_number := F_is_number.binds (ps := ["value", "low", "high"]) fun _ _ _ _ _ _ us hl => match us, hl with | [_, _, _], _ => rfl
  have F_are_different_names := fun_mk (st := S_are_different_names) l_are_different_names c_are_different_names k_are_different_names
  have b_are_different_names := F_are_different_names.binds (ps := ["value"]) fun _ _ _ _ _ _ us hl => match us, hl with | [_], _ => rfl
  have F_need_costs := fun_mk (st := S_need_costs) l_need_costs c_need_costs k_need_costs
  have b_need_costs := F_need_costs.binds (ps := ["order", "costs"]) fun _ _ _ _ _ _ us hl => match us, hl with | [_, _], _ => rfl
  have F__law_office := fun_mk (st := S__law_office) l__law_office c__law_office k__law_office
  have b__law_office := F__law_office.binds (ps := ["pot", "most"]) fun _ _ _ _ _ _ us hl => match us, hl with | [_, _], _ => rfl
  have F__law_mixed := fun_mk (st := S__law_mixed) l__law_mixed c__law_mixed k__law_mixed
  have b__law_mixed := F__law_mixed.binds (ps := ["pot", "things"]) fun _ _ _ _ _ _ us hl => match us, hl with | [_, _], _ => rfl
  have F_is_office := fun_mk (st := S_is_office) l_is_office c_is_office k_is_office
  have b_is_office := F_is_office.binds (ps := ["value"]) fun _ _ _ _ _ _ us hl => match us, hl with | [_], _ => rfl
  have F__law_names := fun_mk (st := S__law_names) l__law_names c__law_names k__law_names
  have b__law_names := F__law_names.binds (ps := ["pot", "many"]) fun _ _ _ _ _ _ us hl => match us, hl with | [_, _], _ => rfl
  have F_need_office := fun_mk (st := S_need_office) l_need_office c_need_office k_need_office
  have b_need_office := F_need_office.binds (ps := ["office"]) fun _ _ _ _ _ _ us hl => match us, hl with | [_], _ => rfl
  have F_is_seating := fun_mk (st := S_is_seating) l_is_seating c_is_seating k_is_seating
  have b_is_seating := F_is_seating.binds (ps := ["office", "value"]) fun _ _ _ _ _ _ us hl => match us, hl with | [_, _], _ => rfl
  have F_need_seating := fun_mk (st := S_need_seating) l_need_seating c_need_seating k_need_seating
  have b_need_seating := F_need_seating.binds (ps := ["office", "seating"]) fun _ _ _ _ _ _ us hl => match us, hl with | [_, _], _ => rfl
  have F_is_order := fun_mk (st := S_is_order) l_is_order c_is_order k_is_order
  have b_is_order := F_is_order.binds (ps := ["office", "seating", "value"]) fun _ _ _ _ _ _ us hl => match us, hl with | [_, _, _], _ => rfl
  have F_need_order := fun_mk (st := S_need_order) l_need_order c_need_order k_need_order
  have b_need_order := F_need_order.binds (ps := ["office", "seating", "order"]) fun _ _ _ _ _ _ us hl => match us, hl with | [_, _, _], _ => rfl
  have F_count_with_costs := fun_mk (st := S_count_with_costs) l_count_with_costs c_count_with_costs k_count_with_costs
  have b_count_with_costs := F_count_with_costs.binds (ps := ["office", "names", "order", "costs"]) fun _ _ _ _ _ _ us hl => match us, hl with | [_, _, _, _], _ => rfl
  have F__law_right := fun_mk (st := S__law_right) l__law_right c__law_right k__law_right
  have b__law_right := F__law_right.binds (ps := ["pot", "most"]) fun _ _ _ _ _ _ us hl => match us, hl with | [_, _], _ => rfl
  have F_law := fun_mk (st := S_law) l_law c_law k_law
  have b_law := F_law.binds (ps := ["script"]) fun _ _ _ _ _ _ us hl => match us, hl with | [_], _ => rfl
  refine ⟨PySem.W.fnOf "law" "law" (defArgs S_law) (defBody S_law) (defScope S_law) .none kV_law dc_law pm_law an_law cd_law ct_law, fun s v => .of_eq rfl, fun base _ _ => ?_⟩
  have G_is_whole := ok_is_whole (P := P) (w := w) (mg := mg) (base := base) F_is_whole (PySem.W.mg_none_of X G z_isinstance) (PySem.W.mg_none_of X G z_int) (PySem.W.mg_none_of X G z_bool)
  have G_is_name := ok_is_name (P := P) (w := w) (mg := mg) (base := base) F_is_name (PySem.W.mg_none_of X G z_all) (PySem.W.mg_none_of X G z_isinstance) (PySem.W.mg_none_of X G z_str) (PySem.W.mg_none_of X G z_len) (PySem.W.mg_of X G z_LONGEST_NAME) (PySem.W.mg_of X G z_LETTERS)
  have G_depths := ok_depths (P := P) (w := w) (mg := mg) (base := base) F_depths
  have G_next_calls := ok_next_calls (P := P) (w := w) (mg := mg) (base := base) F_next_calls (PySem.W.mg_none_of X G z_tuple)
  have G__law_pot := ok__law_pot (P := P) (w := w) (mg := mg) (base := base) F__law_pot (PySem.W.mg_none_of X G z_len) (PySem.W.mg_none_of X G z_max)
  have G__law_draw := ok__law_draw (P := P) (w := w) (mg := mg) (base := base) F__law_draw
  have G__law_all := ok__law_all (P := P) (w := w) (mg := mg) (base := base) F__law_all (PySem.W.mg_none_of X G z_range) (PySem.W.mg_none_of X G z_len)
  have G__law_depths := ok__law_depths (P := P) (w := w) (mg := mg) (base := base) F__law_depths
  have G__law_costs := ok__law_costs (P := P) (w := w) (mg := mg) (base := base) F__law_costs (PySem.W.mg_none_of X G z_tuple) (PySem.W.mg_none_of X G z_list)
  have G_is_number := ok_is_number (P := P) (w := w) (mg := mg) (base := base) F_is_number G_is_whole (PySem.W.mg_of X G a_is_whole) k_is_whole b_is_whole
  have G_are_different_names := ok_are_different_names (P := P) (w := w) (mg := mg) (base := base) F_are_different_names G_is_name (PySem.W.mg_of X G a_is_name) k_is_name b_is_name (PySem.W.mg_none_of X G z_len) (PySem.W.mg_none_of X G z_isinstance) (PySem.W.mg_none_of X G z_tuple) (PySem.W.mg_none_of X G z_all) (PySem.W.mg_none_of X G z_set)
  have G_need_costs := ok_need_costs (P := P) (w := w) (mg := mg) (base := base) F_need_costs G_is_whole (PySem.W.mg_of X G a_is_whole) k_is_whole b_is_whole (PySem.W.mg_none_of X G z_all) (PySem.W.mg_none_of X G z_isinstance) (PySem.W.mg_none_of X G z_tuple) (PySem.W.mg_none_of X G z_len)
  have G__law_office := ok__law_office (P := P) (w := w) (mg := mg) (base := base) F__law_office G__law_draw (PySem.W.mg_of X G a__law_draw) k__law_draw b__law_draw (PySem.W.mg_none_of X G z_min) (PySem.W.mg_none_of X G z_range) (PySem.W.mg_none_of X G z_tuple)
  have G__law_mixed := ok__law_mixed (P := P) (w := w) (mg := mg) (base := base) F__law_mixed G__law_draw (PySem.W.mg_of X G a__law_draw) k__law_draw b__law_draw (PySem.W.mg_none_of X G z_list) (PySem.W.mg_none_of X G z_range) (PySem.W.mg_none_of X G z_len)
  have G_is_office := ok_is_office (P := P) (w := w) (mg := mg) (base := base) F_is_office G_is_number (PySem.W.mg_of X G a_is_number) k_is_number b_is_number (PySem.W.mg_none_of X G z_all) (PySem.W.mg_none_of X G z_isinstance) (PySem.W.mg_none_of X G z_tuple) (PySem.W.mg_none_of X G z_len) (PySem.W.mg_none_of X G z_enumerate) (PySem.W.mg_of X G z_MOST_DESKS)
  have G__law_names := ok__law_names (P := P) (w := w) (mg := mg) (base := base) F__law_names G__law_mixed (PySem.W.mg_of X G a__law_mixed) k__law_mixed b__law_mixed (PySem.W.mg_none_of X G z_tuple)
  have G_need_office := ok_need_office (P := P) (w := w) (mg := mg) (base := base) F_need_office G_is_office (PySem.W.mg_of X G a_is_office) k_is_office b_is_office
  have G_is_seating := ok_is_seating (P := P) (w := w) (mg := mg) (base := base) F_is_seating G_need_office (PySem.W.mg_of X G a_need_office) k_need_office b_need_office G_are_different_names (PySem.W.mg_of X G a_are_different_names) k_are_different_names b_are_different_names (PySem.W.mg_none_of X G z_len)
  have G_need_seating := ok_need_seating (P := P) (w := w) (mg := mg) (base := base) F_need_seating G_is_seating (PySem.W.mg_of X G a_is_seating) k_is_seating b_is_seating
  have G_is_order := ok_is_order (P := P) (w := w) (mg := mg) (base := base) F_is_order G_need_seating (PySem.W.mg_of X G a_need_seating) k_need_seating b_need_seating G_are_different_names (PySem.W.mg_of X G a_are_different_names) k_are_different_names b_are_different_names (PySem.W.mg_none_of X G z_all)
  have G_need_order := ok_need_order (P := P) (w := w) (mg := mg) (base := base) F_need_order G_is_order (PySem.W.mg_of X G a_is_order) k_is_order b_is_order
  have G_count_with_costs := ok_count_with_costs (P := P) (w := w) (mg := mg) (base := base) F_count_with_costs G_need_order (PySem.W.mg_of X G a_need_order) k_need_order b_need_order G_need_costs (PySem.W.mg_of X G a_need_costs) k_need_costs b_need_costs G_depths (PySem.W.mg_of X G a_depths) k_depths b_depths G_next_calls (PySem.W.mg_of X G a_next_calls) k_next_calls b_next_calls (PySem.W.mg_none_of X G z_len) (PySem.W.mg_none_of X G z_tuple) (PySem.W.mg_none_of X G z_sum) (PySem.W.mg_none_of X G z_range) (PySem.W.mg_of X G z_MOST_DESKS_BY_COSTS) (PySem.W.mg_of X G z_factorial)
  have G__law_right := ok__law_right (P := P) (w := w) (mg := mg) (base := base) F__law_right G__law_office (PySem.W.mg_of X G a__law_office) k__law_office b__law_office G__law_names (PySem.W.mg_of X G a__law_names) k__law_names b__law_names G__law_all (PySem.W.mg_of X G a__law_all) k__law_all b__law_all G__law_depths (PySem.W.mg_of X G a__law_depths) k__law_depths b__law_depths G__law_costs (PySem.W.mg_of X G a__law_costs) k__law_costs b__law_costs G__law_mixed (PySem.W.mg_of X G a__law_mixed) k__law_mixed b__law_mixed G__law_draw (PySem.W.mg_of X G a__law_draw) k__law_draw b__law_draw G_count_with_costs (PySem.W.mg_of X G a_count_with_costs) k_count_with_costs b_count_with_costs (PySem.W.mg_none_of X G z_tuple) (PySem.W.mg_none_of X G z_range) (PySem.W.mg_none_of X G z_repr) (PySem.W.mg_none_of X G z_list) (PySem.W.mg_none_of X G z_len) (PySem.W.mg_none_of X G z_int) (PySem.W.mg_none_of X G z_max)
  have G_law := ok_law (P := P) (w := w) (mg := mg) (base := base) F_law G__law_pot (PySem.W.mg_of X G a__law_pot) k__law_pot b__law_pot G_count_with_costs (PySem.W.mg_of X G a_count_with_costs) k_count_with_costs b_count_with_costs G__law_right (PySem.W.mg_of X G a__law_right) k__law_right b__law_right (PySem.W.mg_none_of X G z_range) (PySem.W.mg_none_of X G z_max) (PySem.W.mg_none_of X G z_min) (PySem.W.mg_none_of X G z_tuple) (PySem.W.mg_none_of X G z_len) (PySem.W.mg_none_of X G z_int)
  exact G_law.weak fun vs H Q E h => end_law (by first | exact trivial | rfl) h
theorem walkE {l : PySem.W.OpenLaw} {q : Program} {loose : List Str} {XP : (Str → Option Value) → Heap → Prop} {YP : World → Heap → Prop} {d : DefRec} {K : Params → PySem.W.Frag} (hn : l.most = some 63) (hdf : d.params.defaults = [])
    (hY : ∀ (w : World) (h : Heap), YP w h → (K w.params).In h)
    (F : ∀ (w : World) (mg : Str → Option Value) (fa : Addr) (h : Heap), (K w.params).In h → h.Ns mainGlobals mg → mg d.name = some (.ref fa) →
      ∃ fd : FuncData, (∀ (s : Shared) (u : Value), BindsTo s fd ⟨[u], []⟩ [("script", u)]) ∧ ∀ base : Heap, (K w.params).In base → base.Ns mainGlobals mg → FnG l.prog w (K w.params) mg base 11 fa fd ["script"] (spEnd (K w.params) w)) :
    PySem.W.WalkO q loose XP YP l.row.toRowW d [] (fun f vs => PySem.call f vs) :=
  law_end (n := 63) (k := 11) (x := "script") (sp := fun w => spEnd (K w.params) w) hn (by decide) hdf ⟨rfl, by decide, by decide⟩ hY F fun w H a ns hl _ _ hk => ⟨a, ns, rfl, hk, hl, fun _ => rfl⟩
end Ds
open PySem PySem.W PyProof.Rows
set_option maxRecDepth 100000 in
set_option maxHeartbeats 0 in
theorem PySem.Challenge.cw_deskswaps_k43_seatings_with_costs_holds : PySem.Challenge.rw_deskswaps_k43_seatings_with_costs.Holds := by
  w_on; o_law; k_head; (case hw => w_witness2)
  k_fill
  refine Ds.walkE (l := PySem.Challenge.rw_deskswaps_k43_seatings_with_costs) rfl rfl (fun w h Y => PySem.W.kIn_of Y) ?F
  case F =>
    intro w mg fa h KX G hmg
    refine' Ds.all_mk KX G hmg ?a_is_whole ?l_is_whole ?c_is_whole ?k_is_whole ?a_is_name ?l_is_name ?c_is_name ?k_is_name ?a_depths ?l_depths ?c_depths ?k_depths ?a_next_calls ?l_next_calls ?c_next_calls ?k_next_calls ?a__law_pot ?l__law_pot ?c__law_pot ?k__law_pot ?a__law_draw ?l__law_draw ?c__law_draw ?k__law_draw ?a__law_all ?l__law_all ?c__law_all ?k__law_all ?a__law_depths ?l__law_depths ?c__law_depths ?k__law_depths ?a__law_costs ?l__law_costs ?c__law_costs ?k__law_costs ?a_is_number ?l_is_number ?c_is_number ?k_is_number ?a_are_different_names ?l_are_different_names ?c_are_different_names ?k_are_different_names ?a_need_costs ?l_need_costs ?c_need_costs ?k_need_costs ?a__law_office ?l__law_office ?c__law_office ?k__law_office ?a__law_mixed ?l__law_mixed ?c__law_mixed ?k__law_mixed ?a_is_office ?l_is_office ?c_is_office ?k_is_office ?a__law_names ?l__law_names ?c__law_names ?k__law_names ?a_need_office ?l_need_office ?c_need_office ?k_need_office ?a_is_seating ?l_is_seating ?c_is_seating ?k_is_seating ?a_need_seating ?l_need_seating ?c_need_seating ?k_need_seating ?a_is_order ?l_is_order ?c_is_order ?k_is_order ?a_need_order ?l_need_order ?c_need_order ?k_need_order ?a_count_with_costs ?l_count_with_costs ?c_count_with_costs ?k_count_with_costs ?a__law_right ?l__law_right ?c__law_right ?k__law_right ?a_law ?l_law ?c_law ?k_law ?z_isinstance ?z_int ?z_bool ?z_all ?z_str ?z_len ?z_tuple ?z_max ?z_range ?z_list ?z_set ?z_min ?z_enumerate ?z_sum ?z_repr ?z_LONGEST_NAME ?z_LETTERS ?z_MOST_DESKS ?z_MOST_DESKS_BY_COSTS ?z_factorial
    (case a_is_whole => k_is); (case l_is_whole => k_is); (case c_is_whole => k_is); (case k_is_whole => k_is)
    (case a_is_name => k_is); (case l_is_name => k_is); (case c_is_name => k_is); (case k_is_name => k_is)
    (case a_depths => k_is); (case l_depths => k_is); (case c_depths => k_is); (case k_depths => k_is)
    (case a_next_calls => k_is); (case l_next_calls => k_is); (case c_next_calls => k_is); (case k_next_calls => k_is)
    (case a__law_pot => k_is); (case l__law_pot => k_is); (case c__law_pot => k_is); (case k__law_pot => k_is)
    (case a__law_draw => k_is); (case l__law_draw => k_is); (case c__law_draw => k_is); (case k__law_draw => k_is)
    (case a__law_all => k_is); (case l__law_all => k_is); (case c__law_all => k_is); (case k__law_all => k_is)
    (case a__law_depths => k_is); (case l__law_depths => k_is); (case c__law_depths => k_is); (case k__law_depths => k_is)
    (case a__law_costs => k_is); (case l__law_costs => k_is); (case c__law_costs => k_is); (case k__law_costs => k_is)
    (case a_is_number => k_is); (case l_is_number => k_is); (case c_is_number => k_is); (case k_is_number => k_is)
    (case a_are_different_names => k_is); (case l_are_different_names => k_is); (case c_are_different_names => k_is); (case k_are_different_names => k_is)
    (case a_need_costs => k_is); (case l_need_costs => k_is); (case c_need_costs => k_is); (case k_need_costs => k_is)
    (case a__law_office => k_is); (case l__law_office => k_is); (case c__law_office => k_is); (case k__law_office => k_is)
    (case a__law_mixed => k_is); (case l__law_mixed => k_is); (case c__law_mixed => k_is); (case k__law_mixed => k_is)
    (case a_is_office => k_is); (case l_is_office => k_is); (case c_is_office => k_is); (case k_is_office => k_is)
    (case a__law_names => k_is); (case l__law_names => k_is); (case c__law_names => k_is); (case k__law_names => k_is)
    (case a_need_office => k_is); (case l_need_office => k_is); (case c_need_office => k_is); (case k_need_office => k_is)
    (case a_is_seating => k_is); (case l_is_seating => k_is); (case c_is_seating => k_is); (case k_is_seating => k_is)
    (case a_need_seating => k_is); (case l_need_seating => k_is); (case c_need_seating => k_is); (case k_need_seating => k_is)
    (case a_is_order => k_is); (case l_is_order => k_is); (case c_is_order => k_is); (case k_is_order => k_is)
    (case a_need_order => k_is); (case l_need_order => k_is); (case c_need_order => k_is); (case k_need_order => k_is)
    (case a_count_with_costs => k_is); (case l_count_with_costs => k_is); (case c_count_with_costs => k_is); (case k_count_with_costs => k_is)
    (case a__law_right => k_is); (case l__law_right => k_is); (case c__law_right => k_is); (case k__law_right => k_is)
    (case a_law => k_is); (case l_law => k_is); (case c_law => k_is); (case k_law => k_is)
    (case z_isinstance => k_is)
    (case z_int => k_is)
    (case z_bool => k_is)
    (case z_all => k_is)
    (case z_str => k_is)
    (case z_len => k_is)
    (case z_tuple => k_is)
    (case z_max => k_is)
    (case z_range => k_is)
    (case z_list => k_is)
    (case z_set => k_is)
    (case z_min => k_is)
    (case z_enumerate => k_is)
    (case z_sum => k_is)
    (case z_repr => k_is)
    (case z_LONGEST_NAME => k_is)
    (case z_LETTERS => k_is)
    (case z_MOST_DESKS => k_is)
    (case z_MOST_DESKS_BY_COSTS => k_is)
    (case z_factorial => k_is)
#print axioms PySem.Challenge.cw_deskswaps_k43_seatings_with_costs_holds
