import PyProof.Rows.All
import Wide.All
import OpenK.AllK
import Wide.FinOn
import HandS.ForMost
import HandS.Evl
import HandS.Wide
import HandS.Style
import HandS.RevRange
import HandS.IsInst
import HandS.Defaults
import HandS.Strs
import HandS.SetFor
import HandS.SortInts
import HandS.MakeKwOnly
import HandS.Property
import OpenK.KOps
import HandS.Iter
import HandS.List
import HandS.TupSets
import HandS.Star
import KE.DataMinMax
import KE.SortData
import HandS.Conv
import HandS.ForExc
import HandS.ExcIs
import HandS.Deep
import KE.KStateDown
import Lean
import HandS.More
import HandS.Head0
import HandS.Head1
import HandS.Head2
import HandS.HeadEnd
import HandS.HeadHook1
import HandS.HeadHook2
import KE.DataEq
import PySem.Challenge.RW_markthenpurge_k86_whole_forms_tell_alike
set_option Elab.async false
set_option linter.all false
set_option maxRecDepth 100_000
set_option maxHeartbeats 0
section
/-! a symbolic layer of our own over the hand layer: states of data and owned cells -/
namespace Sy
open PySem L2 Evl

/-! ### data in a heap -/
mutual
inductive Rp (K : PySem.W.Frag) (G : Hp) : V → PyData → Prop
  | non : Rp K G .non .none
  | bl (b : Bool) : Rp K G (.bl b) (.bool b)
  | int (i : Int) : Rp K G (.int i) (.int i)
  | str (x : Str) : Rp K G (.str x) (.str x)
  | lst {a : Addr} {xs : List V} {ds : List PyData} : G a = some (.lst xs) → RpAll K G xs ds → Rp K G (.ref a) (.list ds)
  | tup {a : Addr} {xs : List V} {ds : List PyData} : SqT K G a xs → RpAll K G xs ds → Rp K G (.ref a) (.tuple ds)
  -- an instance that changes no more: the class, then its attributes
  | obj {a dx C : Addr} {fs : List (Str × V)} {ks : List (PyData × PyData)} : G a = some (.ins C dx fs) → G dx = some (.own a) → RpFs K G fs ks → Rp K G (.ref a) (.dict ((.none, .int (Int.ofNat C)) :: ks))
  | dnil {a : Addr} : G a = some (.dK []) → Rp K G (.ref a) (.dict [])
  -- the attributes of an exception: its paper
  | xdp {a : Addr} {v : V} {p : PyData} : G a = some (.xd [(("paper" : Str), v)]) → Rp K G v p → Rp K G (.ref a) (.dict [(.str "paper", p)])
inductive RpAll (K : PySem.W.Frag) (G : Hp) : List V → List PyData → Prop
  | nil : RpAll K G [] []
  | cons {v : V} {vs : List V} {d : PyData} {ds : List PyData} : Rp K G v d → RpAll K G vs ds → RpAll K G (v :: vs) (d :: ds)
inductive RpFs (K : PySem.W.Frag) (G : Hp) : List (Str × V) → List (PyData × PyData) → Prop
  | nil : RpFs K G [] []
  | cons {f : Str} {v : V} {fs : List (Str × V)} {d : PyData} {ks : List (PyData × PyData)} : Rp K G v d → RpFs K G fs ks → RpFs K G ((f, v) :: fs) ((.str f, d) :: ks)
end
mutual
theorem Rp.mono {K : PySem.W.Frag} {G G' : Hp} (e : Ex G G') : ∀ {v : V} {d : PyData}, Rp K G v d → Rp K G' v d
  | _, _, .non => .non
  | _, _, .bl b => .bl b
  | _, _, .int i => .int i
  | _, _, .str x => .str x
  | _, _, .lst h r => .lst (e _ _ h) (RpAll.mono e r)
  | _, _, .tup h r => .tup (ex_t e h) (RpAll.mono e r)
  | _, _, .obj h1 h2 r => .obj (e _ _ h1) (e _ _ h2) (RpFs.mono e r)
  | _, _, .xdp h1 r => .xdp (e _ _ h1) (Rp.mono e r)
  | _, _, .dnil h1 => .dnil (e _ _ h1)
theorem RpAll.mono {K : PySem.W.Frag} {G G' : Hp} (e : Ex G G') : ∀ {vs : List V} {ds : List PyData}, RpAll K G vs ds → RpAll K G' vs ds
  | _, _, .nil => .nil
  | _, _, .cons h r => .cons (Rp.mono e h) (RpAll.mono e r)
theorem RpFs.mono {K : PySem.W.Frag} {G G' : Hp} (e : Ex G G') : ∀ {fs : List (Str × V)} {ks : List (PyData × PyData)}, RpFs K G fs ks → RpFs K G' fs ks
  | _, _, .nil => .nil
  | _, _, .cons h r => .cons (Rp.mono e h) (RpFs.mono e r)
end
mutual
theorem Rp.dp {K : PySem.W.Frag} {G : Hp} : ∀ {v : V} {d : PyData}, Rp K G v d → d.canLay0 = true → Dp K G v d
  | _, _, .non, _ => .non
  | _, _, .bl b, _ => .bl b
  | _, _, .int i, _ => .int i
  | _, _, .str x, _ => .str x
  | _, _, .lst h r, e => .lst (SqL.of h) (RpAll.dp r e)
  | _, _, .tup h r, e => .tup h (RpAll.dp r e)
  | _, _, .obj _ _ _, e => by cases e
  | _, _, .xdp _ _, e => by cases e
  | _, _, .dnil _, e => by cases e
theorem RpAll.dp {K : PySem.W.Frag} {G : Hp} : ∀ {vs : List V} {ds : List PyData}, RpAll K G vs ds → PyData.canLayAll0 ds = true → DpAll K G vs ds
  | _, _, .nil, _ => .nil
  | _, _, .cons h r, e => .cons (Rp.dp h (Bool.and_eq_true_iff.mp e).1) (RpAll.dp r (Bool.and_eq_true_iff.mp e).2)
end
theorem RpAll.length {K : PySem.W.Frag} {G : Hp} : ∀ {vs : List V} {ds : List PyData}, RpAll K G vs ds → vs.length = ds.length
  | _, _, .nil => rfl
  | _, _, .cons _ r => congrArg (· + 1) r.length
theorem RpAll.get {K : PySem.W.Frag} {G : Hp} : ∀ {vs : List V} {ds : List PyData}, RpAll K G vs ds → ∀ {i : Nat} {d : PyData}, ds[i]? = some d → ∃ v, vs[i]? = some v ∧ Rp K G v d
  | _, _, .nil, _, _, h => by simp at h
  | _, _, .cons h0 _, 0, _, h => ⟨_, rfl, by rw [← Option.some.inj h]; exact h0⟩
  | _, _, .cons _ r, i + 1, _, h => RpAll.get r (i := i) h
theorem RpAll.get' {G : Hp} : ∀ {vs : List V} {ds : List PyData}, RpAll K G vs ds → ∀ {i : Nat} {v : V}, vs[i]? = some v → ∃ d, ds[i]? = some d ∧ Rp K G v d
  | _, _, .nil, _, _, h => by simp at h
  | _, _, .cons h0 _, 0, _, h => ⟨_, rfl, by rw [← Option.some.inj h]; exact h0⟩
  | _, _, .cons _ r, i + 1, _, h => RpAll.get' r (i := i) h
theorem RpAll.append {K : PySem.W.Frag} {G : Hp} : ∀ {vs : List V} {ds : List PyData}, RpAll K G vs ds → ∀ {ws : List V} {es : List PyData}, RpAll K G ws es → RpAll K G (vs ++ ws) (ds ++ es)
  | _, _, .nil, _, _, h => h
  | _, _, .cons h0 r, _, _, h => .cons h0 (RpAll.append r h)
theorem RpAll.drop {K : PySem.W.Frag} {G : Hp} : ∀ {vs : List V} {ds : List PyData}, RpAll K G vs ds → ∀ n, RpAll K G (vs.drop n) (ds.drop n)
  | _, _, h, 0 => h
  | _, _, .nil, n + 1 => by simpa using RpAll.nil
  | _, _, .cons _ r, n + 1 => RpAll.drop r n
theorem RpAll.take {K : PySem.W.Frag} {G : Hp} : ∀ {vs : List V} {ds : List PyData}, RpAll K G vs ds → ∀ n, RpAll K G (vs.take n) (ds.take n)
  | _, _, h, 0 => by simpa using RpAll.nil
  | _, _, .nil, n + 1 => by simpa using RpAll.nil
  | _, _, .cons h0 r, n + 1 => .cons h0 (RpAll.take r n)
theorem RpAll.set {K : PySem.W.Frag} {G : Hp} {v : V} {d : PyData} (h : Rp K G v d) : ∀ {vs : List V} {ds : List PyData}, RpAll K G vs ds → ∀ n, RpAll K G (vs.set n v) (ds.set n d)
  | _, _, .nil, _ => .nil
  | _, _, .cons _ r, 0 => .cons h r
  | _, _, .cons h0 r, n + 1 => .cons h0 (RpAll.set h r n)
theorem RpAll.reverse {K : PySem.W.Frag} {G : Hp} : ∀ {vs : List V} {ds : List PyData}, RpAll K G vs ds → RpAll K G vs.reverse ds.reverse
  | _, _, .nil => .nil
  | _, _, .cons h r => by
    rw [List.reverse_cons, List.reverse_cons]
    exact (RpAll.reverse r).append (.cons h .nil)
theorem RpAll.ints {K : PySem.W.Frag} {G : Hp} : ∀ {vs : List V} {ns : List Int}, RpAll K G vs (ns.map .int) → vs = ns.map V.int
  | _, [], .nil => rfl
  | _, n :: ns, .cons h r => by
    cases h
    rw [RpAll.ints r] <;> rfl
theorem RpAll.strs {K : PySem.W.Frag} {G : Hp} : ∀ {vs : List V} {ns : List Str}, RpAll K G vs (ns.map .str) → vs = ns.map V.str
  | _, [], .nil => rfl
  | _, n :: ns, .cons h r => by
    cases h
    rw [RpAll.strs r] <;> rfl
theorem RpAll.bls {K : PySem.W.Frag} {G : Hp} : ∀ {vs : List V} {ns : List Bool}, RpAll K G vs (ns.map .bool) → vs = ns.map V.bl
  | _, [], .nil => rfl
  | _, n :: ns, .cons h r => by
    cases h
    rw [RpAll.bls r] <;> rfl
/-- flat data -/
def flatD : PyData → Bool
  | .none => true | .bool _ => true | .int _ => true | .str _ => true | _ => false
/-- a flat value as data -/
def sv : V → Option PyData
  | .non => some .none | .bl b => some (.bool b) | .int i => some (.int i) | .str s => some (.str s) | _ => none
theorem sv_rp {K : PySem.W.Frag} {G : Hp} {v : V} {d : PyData} (h : sv v = some d) : Rp K G v d := by
  cases v with
  | non => cases h; exact .non
  | bl b => cases h; exact .bl b
  | int i => cases h; exact .int i
  | str x => cases h; exact .str x
  | _ => cases h

/-! ### states -/
inductive Cell where
  | lst (ds : List PyData)
  | dic (kvs : List (Key × PyData))
  -- a dict whose keys are tuples of ints
  | dit (kvs : List (List Int × PyData))
  -- an instance in the making: its class, its attributes
  | ins (C : Addr) (fs : List (Str × PyData))
  | dead
/-- an item of a tuple: data, or an owned cell -/
inductive TI1 where
  | d (x : PyData)
  | o (k : Nat)
inductive SD where
  | unk
  | dat (d : PyData)
  | own (k : Nat)
  | scr (ns : List Int)
  -- an address that is known (an exception in an except suite)
  | adr (a : Addr)
  -- a tuple some items of which are owned
  | tup (is : List TI1)
def TI1.refs : TI1 → List Nat
  | .d _ => []
  | .o k => [k]
/-- the cells that a value leads to -/
def SD.refs : SD → List Nat
  | .own k => [k]
  | .tup is => is.flatMap TI1.refs
  | _ => []
def RpKV (K : PySem.W.Frag) (G : Hp) : List (Key × V) → List (Key × PyData) → Prop := Paired fun p q => p.1 = q.1 ∧ Rp K G p.2 q.2
def RpKT (K : PySem.W.Frag) (G : Hp) : List (List Key × V) → List (List Int × PyData) → Prop := Paired fun p q => p.1 = q.1.map Sum.inl ∧ Rp K G p.2 q.2
theorem RpKT.mono {K : PySem.W.Frag} {G G' : Hp} (e : Ex G G') {a b} (h : RpKT K G a b) : RpKT K G' a b := Paired.mapP h fun _ _ z => ⟨z.1, z.2.mono e⟩
def RpF (K : PySem.W.Frag) (G : Hp) : List (Str × V) → List (Str × PyData) → Prop := Paired fun p q => p.1 = q.1 ∧ Rp K G p.2 q.2
theorem RpF.mono {K : PySem.W.Frag} {G G' : Hp} (e : Ex G G') {a b} (h : RpF K G a b) : RpF K G' a b := Paired.mapP h fun _ _ z => ⟨z.1, z.2.mono e⟩
theorem RpKV.mono {K : PySem.W.Frag} {G G' : Hp} (e : Ex G G') {a b} (h : RpKV K G a b) : RpKV K G' a b := Paired.mapP h fun _ _ z => ⟨z.1, z.2.mono e⟩
def CellOk (K : PySem.W.Frag) (G H : Hp) (l : Addr) : Cell → Prop
  | .lst ds => G l = none ∧ ∃ vs, H l = some (.lst vs) ∧ RpAll K G vs ds
  | .dic kvs => G l = none ∧ ∃ xs, H l = some (.dK xs) ∧ RpKV K G xs kvs
  | .dit kvs => G l = none ∧ ∃ xs, H l = some (.dT xs) ∧ RpKT K G xs kvs
  | .ins C fs => G l = none ∧ ∃ dx vs, G dx = some (.own l) ∧ H l = some (.ins C dx vs) ∧ RpF K G vs fs
  | .dead => True
def Cell.live : Cell → Prop
  | .dead => False
  | _ => True
def ItmOk (K : PySem.W.Frag) (G : Hp) (ls : List Addr) (v : V) : TI1 → Prop
  | .d x => Rp K G v x
  | .o k => ∃ l, v = .ref l ∧ ls[k]? = some l
def ValOk (K : PySem.W.Frag) (G : Hp) (ls : List Addr) (v : V) : SD → Prop
  | .adr a => v = .ref a
  | .tup is => ∃ a vs, v = .ref a ∧ SqT K G a vs ∧ Paired (ItmOk K G ls) vs is
  | .unk => True
  | .dat d => Rp K G v d
  | .own k => ∃ l, v = .ref l ∧ ls[k]? = some l
  | .scr ns => ∃ a, v = .ref a ∧ SqL K G a (ns.map V.int)
structure Core (K : PySem.W.Frag) (A B : Hp) (ls : List Addr) (sl : List SD) (cl : List Cell) (τ : List (V × SD)) (σ : St) (H G : Hp) : Prop where
  exA : Ex A G
  exG : Ex G H
  exB : Ex B H
  ban : ∀ b o, B b = some o → G b = none
  banc : ∀ (i : Nat) (l : Addr) (c : Cell), ls[i]? = some l → cl[i]? = some c → c.live → B l = none
  inj : ∀ (i j : Nat) (l : Addr) (c d : Cell), ls[i]? = some l → ls[j]? = some l → cl[i]? = some c → cl[j]? = some d → c.live → d.live → i = j
  len : ls.length = cl.length
  cells : ∀ (i : Nat) (l : Addr) (c : Cell), ls[i]? = some l → cl[i]? = some c → CellOk K G H l c
  slen : sl.length = σ.length
  slots : ∀ (i : Nat) (sd : SD), sl[i]? = some sd → sd ≠ .unk → ∃ v, σ[i]? = some (some v) ∧ ValOk K G ls v sd
  tmp : ∀ p ∈ τ, ValOk K G ls p.1 p.2
def Sta (K : PySem.W.Frag) (A B : Hp) (ls : List Addr) (sl : List SD) (cl : List Cell) (τ : List (V × SD)) (σ : St) (H : Hp) : Prop := ∃ G, Core K A B ls sl cl τ σ H G

section
variable {K : PySem.W.Frag} {A B G G' H H' : Hp} {ls ls' : List Addr} {sl sl' : List SD} {cl cl' : List Cell} {τ τ' : List (V × SD)} {σ σ' : St} {v x y : V} {r : SD}
theorem ItmOk.mono (e : Ex G G') (l : ls <+: ls') : ∀ {r : TI1}, ItmOk K G ls v r → ItmOk K G' ls' v r
  | .d _, h => Rp.mono e h
  | .o k, ⟨a, e1, e2⟩ => ⟨a, e1, by
    obtain ⟨t, rfl⟩ := l
    rw [List.getElem?_append_left (List.getElem?_eq_some_iff.mp e2).1]
    exact e2⟩
theorem ValOk.mono (e : Ex G G') (l : ls <+: ls') : ∀ {r : SD}, ValOk K G ls v r → ValOk K G' ls' v r
  | .unk, _ => trivial
  | .dat _, h => Rp.mono e h
  | .own k, ⟨a, e1, e2⟩ => ⟨a, e1, by
    obtain ⟨t, rfl⟩ := l
    rw [List.getElem?_append_left (List.getElem?_eq_some_iff.mp e2).1]
    exact e2⟩
  | .scr ns, ⟨a, e1, e2⟩ => ⟨a, e1, ex_l e e2⟩
  | .adr _, h => h
  | .tup _, ⟨a, vs, e1, e2, e3⟩ => ⟨a, vs, e1, ex_t e e2, Paired.mapP e3 fun _ _ z => z.mono e l⟩
/-- the cells' part under a growing G: an address that G' adds is new -/
theorem CellOk.mono (eG : Ex G G') (eH : H' l = H l) (n : G' l = G l) : ∀ {c : Cell}, CellOk K G H l c → CellOk K G' H' l c
  | .lst ds, ⟨a, vs, b, c⟩ => ⟨by rw [n]; exact a, vs, by rw [eH]; exact b, c.mono eG⟩
  | .dic ds, ⟨a, vs, b, c⟩ => ⟨by rw [n]; exact a, vs, by rw [eH]; exact b, c.mono eG⟩
  | .dit ds, ⟨a, vs, b, c⟩ => ⟨by rw [n]; exact a, vs, by rw [eH]; exact b, c.mono eG⟩
  | .ins C fs, ⟨a, dx, vs, d, b, c⟩ => ⟨by rw [n]; exact a, dx, vs, eG _ _ d, by rw [eH]; exact b, c.mono eG⟩
  | .dead, h => trivial
theorem CellOk.there {c : Cell} (h : CellOk K G H l c) (hl : c.live) : G l = none ∧ ∃ o, H l = some o := by
  cases c with
  | lst ds => exact ⟨h.1, _, h.2.choose_spec.1⟩
  | dic ds => exact ⟨h.1, _, h.2.choose_spec.1⟩
  | dit ds => exact ⟨h.1, _, h.2.choose_spec.1⟩
  | ins C fs =>
    obtain ⟨a, dx, vs, _, b, _⟩ := h
    exact ⟨a, _, b⟩
  | dead => exact hl.elim
theorem CellOk.of_dead {c : Cell} (h : ¬ c.live) : CellOk K G H l c := by
  cases c with
  | lst ds => exact absurd trivial h
  | dic ds => exact absurd trivial h
  | dit ds => exact absurd trivial h
  | ins C fs => exact absurd trivial h
  | dead => trivial
theorem Core.fresh (c : Core K A B ls sl cl τ σ H G) {p : Addr} (h : H p = none) : G p = none ∧ B p = none ∧ ∀ (i : Nat) (d : Cell), ls[i]? = some p → cl[i]? = some d → ¬ d.live := by
  refine ⟨?_, ?_, fun i d e1 e2 hd => ?_⟩
  · cases e : G p with
    | none => rfl
    | some o => rw [c.exG _ _ e] at h; cases h
  · cases e : B p with
    | none => rfl
    | some o => rw [c.exB _ _ e] at h; cases h
  · obtain ⟨_, o, e⟩ := (c.cells i p d e1 e2).there hd
    rw [e] at h
    cases h
/-- a new object joins what is seen -/
theorem Core.alloc (c : Core K A B ls sl cl τ σ H G) {p : Addr} (h : H p = none) (o : HO) : Core K A B ls sl cl τ σ (upd H p o) (upd G p o) := by
  obtain ⟨h1, h2, h3⟩ := c.fresh h
  have eG : Ex G (upd G p o) := Ex.new h1
  refine ⟨c.exA.trans eG, fun b u e => ?_, fun b u e => ?_, fun b u e => ?_, c.banc, c.inj, c.len, fun i l c' e1 e2 => ?_, c.slen, fun i sd e1 e2 => ?_, fun q hq => (c.tmp q hq).mono eG (List.prefix_refl _)⟩
  · by_cases hb : b = p
    · subst hb; rw [upd_same] at e ⊢; exact e
    · rw [upd_ne hb] at e ⊢; exact c.exG _ _ e
  · have hb : b ≠ p := fun z => by rw [z, h2] at e; cases e
    rw [upd_ne hb]; exact c.exB _ _ e
  · have hb : b ≠ p := fun z => by rw [z, h2] at e; cases e
    rw [upd_ne hb]; exact c.ban _ _ e
  · by_cases hd : c'.live
    · have hb : l ≠ p := fun z => h3 i c' (z ▸ e1) e2 hd
      exact (c.cells i l c' e1 e2).mono eG (upd_ne hb) (upd_ne hb)
    · exact .of_dead hd
  · obtain ⟨v, a, b⟩ := c.slots i sd e1 e2
    exact ⟨v, a, b.mono eG (List.prefix_refl _)⟩
/-- a new object is owned -/
theorem Core.allocOwn (c : Core K A B ls sl cl τ σ H G) {p : Addr} (h : H p = none) (o : HO) (cell : Cell) (hc : CellOk K G (upd H p o) p cell) : Core K A B (ls ++ [p]) sl (cl ++ [cell]) τ σ (upd H p o) G := by
  obtain ⟨h1, h2, h3⟩ := c.fresh h
  have eH : ∀ {b : Addr} {u : HO}, H b = some u → upd H p o b = some u := fun {b u} e => by
    have hb : b ≠ p := fun z => by rw [z, h] at e; cases e
    rw [upd_ne hb]; exact e
  have split : ∀ {i : Nat} {l : Addr} {c' : Cell}, (ls ++ [p])[i]? = some l → (cl ++ [cell])[i]? = some c' → (ls[i]? = some l ∧ cl[i]? = some c' ∧ i < ls.length) ∨ (i = ls.length ∧ l = p ∧ c' = cell) := fun {i l c'} e1 e2 => by
    by_cases hi : i < ls.length
    · rw [List.getElem?_append_left hi] at e1
      rw [List.getElem?_append_left (c.len ▸ hi)] at e2
      exact .inl ⟨e1, e2, hi⟩
    · rw [List.getElem?_append_right (by omega)] at e1
      rw [List.getElem?_append_right (by have := c.len; omega)] at e2
      have i0 : i - ls.length = 0 := by
        have z := (List.getElem?_eq_some_iff.mp e1).1
        simp at z
        omega
      rw [i0] at e1
      rw [← c.len, i0] at e2
      cases e1
      cases e2
      exact .inr ⟨by omega, rfl, rfl⟩
  refine ⟨c.exA, fun b u e => eH (c.exG _ _ e), fun b u e => eH (c.exB _ _ e), c.ban, fun i l c' e1 e2 hd => ?_, fun i j l c' d e1 e2 e3 e4 hc' hd => ?_, by rw [List.length_append, List.length_append, c.len] <;> rfl, fun i l c' e1 e2 => ?_, c.slen, fun i sd e1 e2 => ?_, fun q hq => (c.tmp q hq).mono (Ex.refl G) (List.prefix_append _ _)⟩
  · rcases split e1 e2 with ⟨a, b, _⟩ | ⟨_, rfl, _⟩
    · exact c.banc i l c' a b hd
    · exact h2
  · rcases split e1 e3 with ⟨a, b, hi⟩ | ⟨ei, rfl, rfl⟩ <;> rcases split e2 e4 with ⟨a', b', hj⟩ | ⟨ej, z, rfl⟩
    · exact c.inj i j l c' d a a' b b' hc' hd
    · subst z
      exact absurd hc' (h3 i c' a b)
    · exact absurd hd (h3 j d a' b')
    · omega
  · rcases split e1 e2 with ⟨a, b, hi⟩ | ⟨ei, rfl, rfl⟩
    · by_cases hd : c'.live
      · have hb : l ≠ p := fun z => h3 i c' (z ▸ a) b hd
        exact (c.cells i l c' a b).mono (Ex.refl G) (upd_ne hb) rfl
      · exact .of_dead hd
    · exact hc
  · obtain ⟨v, a, b⟩ := c.slots i sd e1 e2
    exact ⟨v, a, b.mono (Ex.refl G) (List.prefix_append _ _)⟩
/-- an owned object changes -/
theorem Core.mut (c : Core K A B ls sl cl τ σ H G) {k : Nat} {l : Addr} {c0 : Cell} (hl : ls[k]? = some l) (h0 : cl[k]? = some c0) (hv : c0.live) (o : HO) (cell : Cell) (hc : CellOk K G (upd H l o) l cell) : Core K A B ls sl (cl.set k cell) τ σ (upd H l o) G := by
  obtain ⟨hG, _⟩ := (c.cells k l c0 hl h0).there hv
  have hk : k < cl.length := (List.getElem?_eq_some_iff.mp h0).1
  have hB := c.banc k l c0 hl h0 hv
  have old : ∀ {i : Nat} {d : Cell}, (cl.set k cell)[i]? = some d → (i = k ∧ d = cell) ∨ (i ≠ k ∧ cl[i]? = some d) := fun {i d} e => by
    by_cases hi : i = k
    · subst hi
      rw [List.getElem?_set_self hk] at e
      exact .inl ⟨rfl, (Option.some.inj e).symm⟩
    · rw [List.getElem?_set_ne (fun z => hi z.symm)] at e
      exact .inr ⟨hi, e⟩
  refine ⟨c.exA, fun b u e => ?_, fun b u e => ?_, c.ban, fun i m d e1 e2 hd => ?_, fun i j m d d' e1 e2 e3 e4 hd hd' => ?_, by rw [List.length_set]; exact c.len, fun i m c' e1 e2 => ?_, c.slen, c.slots, c.tmp⟩
  · have hb : b ≠ l := fun z => by rw [z, hG] at e; cases e
    rw [upd_ne hb]; exact c.exG _ _ e
  · have hb : b ≠ l := fun z => by rw [z, hB] at e; cases e
    rw [upd_ne hb]; exact c.exB _ _ e
  · rcases old e2 with ⟨rfl, rfl⟩ | ⟨_, e2⟩
    · rw [hl] at e1; cases e1; exact hB
    · exact c.banc i m d e1 e2 hd
  · rcases old e3 with ⟨i1, _⟩ | ⟨_, e3'⟩ <;> rcases old e4 with ⟨j1, _⟩ | ⟨_, e4'⟩
    · rw [i1, j1]
    · subst i1
      exact c.inj _ j m c0 d' e1 e2 h0 e4' hv hd'
    · subst j1
      exact c.inj i _ m d c0 e1 e2 e3' h0 hd hv
    · exact c.inj i j m d d' e1 e2 e3' e4' hd hd'
  · rcases old e2 with ⟨rfl, rfl⟩ | ⟨hi, e2⟩
    · rw [hl] at e1
      cases e1
      exact hc
    · by_cases hd : c'.live
      · have hb : m ≠ l := fun z => by
          subst z
          exact hi (c.inj i k m c' c0 e1 hl e2 h0 hd hv)
        exact (c.cells i m c' e1 e2).mono (Ex.refl G) (upd_ne hb) rfl
      · exact .of_dead hd
theorem Core.tmps (c : Core K A B ls sl cl τ σ H G) (h : ∀ p ∈ τ', ValOk K G ls p.1 p.2) : Core K A B ls sl cl τ' σ H G := ⟨c.exA, c.exG, c.exB, c.ban, c.banc, c.inj, c.len, c.cells, c.slen, c.slots, h⟩
theorem Sta.sub (s : Sta K A B ls sl cl τ σ H) (h : ∀ p ∈ τ', p ∈ τ) : Sta K A B ls sl cl τ' σ H := by
  obtain ⟨G, c⟩ := s
  exact ⟨G, c.tmps fun p hp => c.tmp p (h p hp)⟩
theorem Core.sta (c : Core K A B ls sl cl τ σ H G) : Sta K A B ls sl cl τ σ H := ⟨G, c⟩
/-- a temporary joins -/
theorem Core.push (c : Core K A B ls sl cl τ σ H G) (h : ValOk K G ls v r) : Core K A B ls sl cl ((v, r) :: τ) σ H G := c.tmps fun p hp => by
  rcases List.mem_cons.mp hp with z | z
  · rw [z]; exact h
  · exact c.tmp p z

/-! ### what an expression does -/
abbrev PE1 := SD → List Cell → Prop
def Wp (K : PySem.W.Frag) (te : TE) (sl : List SD) (cl : List Cell) (Φ : SD → List Cell → Prop) : Prop :=
  ∀ A B ls τ σ H, Sta K A B ls sl cl τ σ H → ∀ Q : VK, (∀ v H' r cl' ls', ls <+: ls' → Φ r cl' → Sta K A B ls' sl cl' ((v, r) :: τ) σ H' → Q v H') → te σ H Q
def WpT (K : PySem.W.Frag) (tt : TT) (sl : List SD) (cl : List Cell) (Φ : Bool → List Cell → Prop) : Prop :=
  ∀ A B ls τ σ H, Sta K A B ls sl cl τ σ H → ∀ Q : Bool → Hp → Prop, (∀ b H' cl' ls', ls <+: ls' → Φ b cl' → Sta K A B ls' sl cl' τ σ H' → Q b H') → tt σ H Q
def WpA (K : PySem.W.Frag) (ta : TA) (sl : List SD) (cl : List Cell) (Φ : List SD → List Cell → Prop) : Prop :=
  ∀ A B ls τ σ H, Sta K A B ls sl cl τ σ H → ∀ Q : List V → Hp → Prop, (∀ vs H' rs cl' ls', ls <+: ls' → Φ rs cl' → vs.length = rs.length → Sta K A B ls' sl cl' (vs.zip rs ++ τ) σ H' → Q vs H') → ta σ H Q
/-- what an operation on values does: r on values that stand for r1, r2 -/
def Wo (K : PySem.W.Frag) (r : R2) (r1 r2 : SD) (sl : List SD) (cl : List Cell) (Φ : SD → List Cell → Prop) : Prop :=
  ∀ A B ls τ σ H x y, Sta K A B ls sl cl τ σ H → (x, r1) ∈ τ → (y, r2) ∈ τ → ∀ Q : VK, (∀ v H' r cl' ls', ls <+: ls' → Φ r cl' → Sta K A B ls' sl cl' ((v, r) :: τ) σ H' → Q v H') → r x y H Q
/-- .. on a list of values (a built-in's call) -/
def Wc (K : PySem.W.Frag) (r : List V → Hp → VK → Prop) (rs : List SD) (sl : List SD) (cl : List Cell) (Φ : SD → List Cell → Prop) : Prop :=
  ∀ A B ls τ σ H vs, Sta K A B ls sl cl τ σ H → vs.length = rs.length → (∀ p ∈ vs.zip rs, p ∈ τ) → ∀ Q : VK, (∀ v H' r cl' ls', ls <+: ls' → Φ r cl' → Sta K A B ls' sl cl' ((v, r) :: τ) σ H' → Q v H') → r vs H Q
variable {te ta tb : TE} {t u : TT} {tr : TA} {Φ : SD → List Cell → Prop}
theorem Wp.mono {Φ' : SD → List Cell → Prop} (h : Wp K te sl cl Φ) (i : ∀ r cl', Φ r cl' → Φ' r cl') : Wp K te sl cl Φ' := fun A B ls τ σ H s Q q => h A B ls τ σ H s Q fun v H' r cl' ls' e f s' => q v H' r cl' ls' e (i r cl' f) s'
theorem WpT.mono {Φ Φ' : Bool → List Cell → Prop} (h : WpT K t sl cl Φ) (i : ∀ r cl', Φ r cl' → Φ' r cl') : WpT K t sl cl Φ' := fun A B ls τ σ H s Q q => h A B ls τ σ H s Q fun v H' r cl' e f s' => q v H' r cl' e (i _ _ f) s'
theorem wp_var {i : Nat} {sd : SD} (h : sl[i]? = some sd) (hn : sd ≠ .unk) (q : Φ sd cl) : Wp K (tVar i) sl cl Φ := by
  intro A B ls τ σ H ⟨G, c⟩ Q k
  obtain ⟨v, e, ok⟩ := c.slots i sd h hn
  exact ⟨v, e, k v H sd cl ls (List.prefix_refl _) q (c.push ok).sta⟩
theorem wp_c {v : V} {d : PyData} (h : sv v = some d) (q : Φ (.dat d) cl) : Wp K (tC v) sl cl Φ := by
  intro A B ls τ σ H ⟨G, c⟩ Q k
  exact k v H _ cl ls (List.prefix_refl _) q (c.push (r := .dat d) (sv_rp h)).sta
theorem wp_op {r : R2} (h : Wp K ta sl cl fun r1 cl1 => Wp K tb sl cl1 fun r2 cl2 => Wo K r r1 r2 sl cl2 Φ) : Wp K (tOp r ta tb) sl cl Φ := by
  intro A B ls τ σ H s Q k
  refine h A B ls τ σ H s _ fun x H1 r1 cl1 ls1 e1 h1 s1 => ?_
  refine h1 A B ls1 _ σ H1 s1 _ fun y H2 r2 cl2 ls2 e2 h2 s2 => ?_
  refine h2 A B ls2 _ σ H2 x y s2 (List.mem_cons_of_mem _ List.mem_cons_self) List.mem_cons_self _ fun v H3 r3 cl3 ls3 e3 f s3 => ?_
  exact k v H3 r3 cl3 ls3 ((e1.trans e2).trans e3) f (s3.sub fun p hp => by
    rcases List.mem_cons.mp hp with z | z
    · rw [z]; exact List.mem_cons_self
    · exact List.mem_cons_of_mem _ (List.mem_cons_of_mem _ (List.mem_cons_of_mem _ z)))
theorem wp_test (h : Wp K te sl cl fun r cl' => ∃ b, r = .dat (.bool b) ∧ Φb b cl') : WpT K (tTest te) sl cl Φb := by
  intro A B ls τ σ H s Q k
  refine h A B ls τ σ H s _ fun x H1 r1 cl1 ls1 e1 h1 s1 => ?_
  obtain ⟨b, rfl, f⟩ := h1
  obtain ⟨G, c⟩ := s1
  have ok := c.tmp _ List.mem_cons_self
  have ok' : Rp K G x (.bool b) := ok
  cases ok'
  exact ⟨b, rfl, k b H1 cl1 ls1 e1 f (Core.sta (c.tmps fun p hp => c.tmp p (List.mem_cons_of_mem _ hp)))⟩
theorem wp_testB (h : Wp K te sl cl fun r cl' => ∃ b, r = .dat (.bool b) ∧ Φb b cl') : WpT K (tB te) sl cl Φb := wp_test h
theorem wp_and (h : WpT K t sl cl fun b cl1 => if b = true then WpT K u sl cl1 Φb else Φb false cl1) : WpT K (tAnd t u) sl cl Φb := by
  intro A B ls τ σ H s Q k
  refine h A B ls τ σ H s _ fun b H1 cl1 ls1 e1 h1 s1 => ?_
  cases b with
  | true => exact h1 A B ls1 τ σ H1 s1 _ fun b2 H2 cl2 ls2 e2 h2 s2 => k b2 H2 cl2 ls2 (e1.trans e2) h2 s2
  | false => exact k false H1 cl1 ls1 e1 h1 s1
theorem wp_or (h : WpT K t sl cl fun b cl1 => if b = true then Φb true cl1 else WpT K u sl cl1 Φb) : WpT K (tOr t u) sl cl Φb := by
  intro A B ls τ σ H s Q k
  refine h A B ls τ σ H s _ fun b H1 cl1 ls1 e1 h1 s1 => ?_
  cases b with
  | false => exact h1 A B ls1 τ σ H1 s1 _ fun b2 H2 cl2 ls2 e2 h2 s2 => k b2 H2 cl2 ls2 (e1.trans e2) h2 s2
  | true => exact k true H1 cl1 ls1 e1 h1 s1
theorem wp_not (h : WpT K t sl cl fun b cl1 => Φb (!b) cl1) : WpT K (tNot t) sl cl Φb := by
  intro A B ls τ σ H s Q k
  exact h A B ls τ σ H s _ fun b H1 cl1 ls1 e1 h1 s1 => k (!b) H1 cl1 ls1 e1 h1 s1
theorem wp_yes (h : Φb true cl) : WpT K tYes sl cl Φb := fun A B ls τ σ H s Q k => k true H cl ls (List.prefix_refl _) h s
theorem wp_if (h : WpT K t sl cl fun b cl1 => if b = true then Wp K ta sl cl1 Φ else Wp K tb sl cl1 Φ) : Wp K (tIf t ta tb) sl cl Φ := by
  intro A B ls τ σ H s Q k
  refine h A B ls τ σ H s _ fun b H1 cl1 ls1 e1 h1 s1 => ?_
  cases b with
  | true => exact h1 A B ls1 τ σ H1 s1 _ fun v H2 r cl2 ls2 e2 h2 s2 => k v H2 r cl2 ls2 (e1.trans e2) h2 s2
  | false => exact h1 A B ls1 τ σ H1 s1 _ fun v H2 r cl2 ls2 e2 h2 s2 => k v H2 r cl2 ls2 (e1.trans e2) h2 s2
theorem tmp_bool (c : Core K A B ls sl cl ((v, .dat (.bool b)) :: τ) σ H G) : v = .bl b := by
  have ok : Rp K G v (.bool b) := c.tmp _ List.mem_cons_self
  cases ok; rfl
theorem Core.pop (c : Core K A B ls sl cl (p :: τ) σ H G) : Core K A B ls sl cl τ σ H G := c.tmps fun q hq => c.tmp q (List.mem_cons_of_mem _ hq)
theorem wp_andV (h : Wp K ta sl cl fun r cl1 => ∃ b, r = .dat (.bool b) ∧ if b = true then Wp K tb sl cl1 Φ else Φ (.dat (.bool false)) cl1) : Wp K (tAndV ta tb) sl cl Φ := by
  intro A B ls τ σ H s Q k
  refine h A B ls τ σ H s _ fun x H1 r cl1 ls1 e1 h1 s1 => ?_
  obtain ⟨b, rfl, h1⟩ := h1
  obtain ⟨G, c⟩ := s1
  cases tmp_bool c
  refine ⟨b, rfl, ?_⟩
  cases b with
  | true => exact h1 A B ls1 τ σ H1 c.pop.sta _ fun v H2 r cl2 ls2 e2 h2 s2 => k v H2 r cl2 ls2 (e1.trans e2) h2 s2
  | false => exact k _ H1 _ cl1 ls1 e1 h1 c.sta
theorem wp_orV (h : Wp K ta sl cl fun r cl1 => ∃ b, r = .dat (.bool b) ∧ if b = true then Φ (.dat (.bool true)) cl1 else Wp K tb sl cl1 Φ) : Wp K (tOrV ta tb) sl cl Φ := by
  intro A B ls τ σ H s Q k
  refine h A B ls τ σ H s _ fun x H1 r cl1 ls1 e1 h1 s1 => ?_
  obtain ⟨b, rfl, h1⟩ := h1
  obtain ⟨G, c⟩ := s1
  cases tmp_bool c
  refine ⟨b, rfl, ?_⟩
  cases b with
  | false => exact h1 A B ls1 τ σ H1 c.pop.sta _ fun v H2 r cl2 ls2 e2 h2 s2 => k v H2 r cl2 ls2 (e1.trans e2) h2 s2
  | true => exact k _ H1 _ cl1 ls1 e1 h1 c.sta
theorem wp_notV (h : Wp K ta sl cl fun r cl1 => ∃ b, r = .dat (.bool b) ∧ Φ (.dat (.bool (!b))) cl1) : Wp K (tNotV ta) sl cl Φ := by
  intro A B ls τ σ H s Q k
  refine h A B ls τ σ H s _ fun x H1 r cl1 ls1 e1 h1 s1 => ?_
  obtain ⟨b, rfl, h1⟩ := h1
  obtain ⟨G, c⟩ := s1
  cases tmp_bool c
  exact ⟨b, rfl, k _ H1 _ cl1 ls1 e1 h1 (c.pop.push (r := .dat (.bool !b)) (.bl _)).sta⟩
theorem wa_nil (q : Φa [] cl) : WpA K tNil sl cl Φa := fun A B ls τ σ H s Q k => k [] H [] cl ls (List.prefix_refl _) q rfl s
theorem wa_cons (h : Wp K te sl cl fun r cl1 => WpA K tr sl cl1 fun rs cl2 => Φa (r :: rs) cl2) : WpA K (tCons te tr) sl cl Φa := by
  intro A B ls τ σ H s Q k
  refine h A B ls τ σ H s _ fun x H1 r cl1 ls1 e1 h1 s1 => ?_
  refine h1 A B ls1 _ σ H1 s1 _ fun vs H2 rs cl2 ls2 e2 h2 hl s2 => ?_
  refine k (x :: vs) H2 (r :: rs) cl2 ls2 (e1.trans e2) h2 (congrArg (· + 1) hl) (s2.sub fun p hp => ?_)
  rcases List.mem_append.mp hp with z | z
  · rcases List.mem_cons.mp z with z | z
    · rw [z]; exact List.mem_append_right _ List.mem_cons_self
    · exact List.mem_append_left _ z
  · exact List.mem_append_right _ (List.mem_cons_of_mem _ z)
end
end Sy
end

section
namespace Sy
open PySem L2 Evl
section
variable {K : PySem.W.Frag} {A B G G' H H' : Hp} {ls ls' : List Addr} {sl sl' : List SD} {cl cl' : List Cell} {τ τ' : List (V × SD)} {σ σ' : St} {v x y : V} {r r1 r2 : SD}
variable {te ta tb : TE} {t u : TT} {tr : TA} {Φ : SD → List Cell → Prop}
/-! ### lists that are seen -/
/-- the items of the list that stands at r -/
def seeL (cl : List Cell) : SD → Option (List PyData)
  | .dat (.list ds) => some ds
  | .own k => match cl[k]? with
    | some (.lst ds) => some ds
    | _ => none
  | .scr ns => some (ns.map .int)
  | _ => none
def seeT (cl : List Cell) : SD → Option (List PyData)
  | .dat (.list ds) => some ds
  | .own k => match cl[k]? with
    | some (.lst ds) => some ds
    | _ => none
  | _ => none
theorem rp_ints {ns : List Int} : RpAll K G (ns.map V.int) (ns.map .int) := by
  induction ns with
  | nil => exact .nil
  | cons n r ih => exact .cons (.int n) ih
theorem Core.seeT (c : Core K A B ls sl cl τ σ H G) {ds : List PyData} (h : (v, r) ∈ τ) (e : Sy.seeT cl r = some ds) : ∃ a vs, v = .ref a ∧ H a = some (.lst vs) ∧ RpAll K G vs ds := by
  have ok := c.tmp _ h
  cases r with
  | dat d =>
    cases d with
    | list xs =>
      cases e
      cases ok with
      | lst h1 h2 => exact ⟨_, _, rfl, c.exG _ _ h1, h2⟩
    | _ => cases e
  | own k =>
    obtain ⟨l, e1, e2⟩ := ok
    have hk : k < cl.length := c.len ▸ (List.getElem?_eq_some_iff.mp e2).1
    have ck := c.cells k l _ e2 (List.getElem?_eq_getElem hk)
    unfold Sy.seeT at e
    simp only [List.getElem?_eq_getElem hk] at e
    cases hc : cl[k] with
    | lst xs =>
      rw [hc] at e ck
      cases e
      obtain ⟨_, vs, h1, h2⟩ := ck
      exact ⟨l, vs, e1, h1, h2⟩
    | dic xs => rw [hc] at e; cases e
    | dit xs => rw [hc] at e; cases e
    | ins _ _ => rw [hc] at e; cases e
    | dead => rw [hc] at e; cases e
  | unk => cases e
  | scr ns => cases e
  | adr _ => cases e
  | tup _ => cases e
theorem Core.seeL (c : Core K A B ls sl cl τ σ H G) {ds : List PyData} (h : (v, r) ∈ τ) (e : Sy.seeL cl r = some ds) : ∃ a vs, v = .ref a ∧ SqL K H a vs ∧ RpAll K G vs ds := by
  have go : Sy.seeT cl r = some ds → ∃ a vs, v = .ref a ∧ SqL K H a vs ∧ RpAll K G vs ds := fun e => by
    obtain ⟨a, vs, e1, e2, e3⟩ := c.seeT h e
    exact ⟨a, vs, e1, SqL.of e2, e3⟩
  cases r with
  | dat d => cases d <;> first | exact go e | cases e
  | own k => exact go e
  | unk => cases e
  | adr _ => cases e
  | tup _ => cases e
  | scr ns =>
    cases e
    obtain ⟨a, e1, e2⟩ := c.tmp _ h
    exact ⟨a, _, e1, ex_l c.exG e2, rp_ints⟩
def seeD (cl : List Cell) : SD → Option PyData
  | .dat d => some d
  | r => (seeT cl r).map .list
theorem Core.seeD (c : Core K A B ls sl cl τ σ H G) {d : PyData} (h : (v, r) ∈ τ) (e : Sy.seeD cl r = some d) (sh : SeqAt.shaped d = true) : Dp K H v d := by
  have sh : d.canLay0 = true := (Bool.and_eq_true_iff.mp sh).1
  cases r with
  | dat d' =>
    cases e
    have ok : Rp K G v d := c.tmp _ h
    exact (ok.mono c.exG).dp sh
  | unk => cases e
  | scr ns => cases e
  | adr _ => cases e
  | tup _ => cases e
  | own k =>
    have e : (Sy.seeT cl (.own k)).map PyData.list = some d := e
    cases q : Sy.seeT cl (.own k) with
    | none => rw [q] at e; cases e
    | some ds =>
      rw [q] at e
      cases e
      obtain ⟨a, vs, rfl, h1, h2⟩ := c.seeT h q
      exact .lst (SqL.of h1) ((h2.mono c.exG).dp sh)
theorem Core.dat (c : Core K A B ls sl cl τ σ H G) {d : PyData} (h : (v, .dat d) ∈ τ) : Rp K G v d := c.tmp _ h

/-! ### operations -/
theorem wo_I0 {g : Int → Int → V} {i j : Int} {d : PyData} (h1 : r1 = .dat (.int i)) (h2 : r2 = .dat (.int j)) (hs : sv (g i j) = some d) (q : Φ (.dat d) cl) : Wo K (rI0 g) r1 r2 sl cl Φ := by
  intro A B ls τ σ H x y ⟨G, c⟩ hx hy Q k
  subst h1 h2
  cases c.dat hx
  cases c.dat hy
  exact ⟨i, j, rfl, rfl, k _ H _ cl ls (List.prefix_refl _) q (c.push (r := .dat d) (sv_rp hs)).sta⟩
theorem wo_I {C : Int → Int → Prop} {g : Int → Int → V} {i j : Int} {d : PyData} (h1 : r1 = .dat (.int i)) (h2 : r2 = .dat (.int j)) (hc : C i j) (hs : sv (g i j) = some d) (q : Φ (.dat d) cl) : Wo K (rI C g) r1 r2 sl cl Φ := by
  intro A B ls τ σ H x y ⟨G, c⟩ hx hy Q k
  subst h1 h2
  cases c.dat hx
  cases c.dat hy
  exact ⟨i, j, rfl, rfl, hc, k _ H _ cl ls (List.prefix_refl _) q (c.push (r := .dat d) (sv_rp hs)).sta⟩
/-- == of flat data -/
def eqF : PyData → PyData → Option Bool
  | .none, .none => some true | .none, .int _ => some false | .int _, .none => some false | .none, .bool _ => some false | .bool _, .none => some false | .none, .str _ => some false | .str _, .none => some false
  | .int i, .int j => some (decide (i = j)) | .bool a, .bool b => some (decide (a = b)) | .str s, .str z => some (decide (s = z))
  | .int _, .str _ => some false | .str _, .int _ => some false | .bool _, .str _ => some false | .str _, .bool _ => some false
  | _, _ => none
theorem eqF_ok {d1 d2 : PyData} {b : Bool} (e : eqF d1 d2 = some b) (h1 : Rp K G x d1) (h2 : Rp K G y d2) : scal x y = true ∧ decide (x = y) = b := by
  cases h1 <;> cases h2 <;> cases e <;> refine ⟨rfl, ?_⟩ <;> first | rfl | simp
theorem wo_eq {d1 d2 : PyData} {b : Bool} (h1 : r1 = .dat d1) (h2 : r2 = .dat d2) (h : eqF d1 d2 = some b) (q : Φ (.dat (.bool b)) cl) : Wo K rEq r1 r2 sl cl Φ := by
  intro A B ls τ σ H x y ⟨G, c⟩ hx hy Q k
  subst h1 h2
  obtain ⟨z1, z2⟩ := eqF_ok h (c.dat hx) (c.dat hy)
  refine ⟨z1, ?_⟩
  rw [z2]
  exact k _ H _ cl ls (List.prefix_refl _) q (c.push (r := .dat (.bool b)) (.bl b)).sta
theorem wo_ne {d1 d2 : PyData} {b : Bool} (h1 : r1 = .dat d1) (h2 : r2 = .dat d2) (h : eqF d1 d2 = some b) (q : Φ (.dat (.bool (!b))) cl) : Wo K rNe r1 r2 sl cl Φ := by
  intro A B ls τ σ H x y ⟨G, c⟩ hx hy Q k
  subst h1 h2
  obtain ⟨z1, z2⟩ := eqF_ok h (c.dat hx) (c.dat hy)
  refine ⟨z1, ?_⟩
  rw [z2]
  exact k _ H _ cl ls (List.prefix_refl _) q (c.push (r := .dat (.bool !b)) (.bl _)).sta
/-- is None -/
def isNon : SD → Bool
  | .dat .none => true
  | _ => false
theorem isNon_ok (c : Core K A B ls sl cl τ σ H G) (h : (x, r) ∈ τ) (hn : r ≠ .unk) : decide (x = .non) = isNon r := by
  have ok := c.tmp _ h
  cases r with
  | unk => exact absurd rfl hn
  | dat d => have ok' : Rp K G x d := ok; cases ok' <;> simp [isNon]
  | own k => obtain ⟨l, e, _⟩ := ok; have e : x = .ref l := e; subst e; simp [isNon]
  | scr ns => obtain ⟨l, e, _⟩ := ok; have e : x = .ref l := e; subst e; simp [isNon]
  | adr l => have e : x = .ref l := ok; subst e; simp [isNon]
  | tup is => obtain ⟨l, _, e, _⟩ := ok; have e : x = .ref l := e; subst e; simp [isNon]
theorem wo_isN (hn : r1 ≠ .unk) (h2 : r2 = .dat .none) (q : Φ (.dat (.bool (isNon r1))) cl) : Wo K (fun x y H Q => y = .non ∧ Q (.bl (decide (x = .non))) H) r1 r2 sl cl Φ := by
  intro A B ls τ σ H x y ⟨G, c⟩ hx hy Q k
  subst h2
  cases c.dat hy
  refine ⟨rfl, ?_⟩
  rw [isNon_ok c hx hn]
  exact k _ H _ cl ls (List.prefix_refl _) q (c.push (r := .dat (.bool _)) (.bl _)).sta
theorem wo_notN (hn : r1 ≠ .unk) (h2 : r2 = .dat .none) (q : Φ (.dat (.bool (!isNon r1))) cl) : Wo K (fun x y H Q => y = .non ∧ Q (.bl (!decide (x = .non))) H) r1 r2 sl cl Φ := by
  intro A B ls τ σ H x y ⟨G, c⟩ hx hy Q k
  subst h2
  cases c.dat hy
  refine ⟨rfl, ?_⟩
  rw [isNon_ok c hx hn]
  exact k _ H _ cl ls (List.prefix_refl _) q (c.push (r := .dat (.bool _)) (.bl _)).sta
/-! subscripts -/
theorem RpAll.atI {vs : List V} {ds : List PyData} (h : RpAll K G vs ds) {i : Int} {d : PyData} (e : atI ds i = some d) : ∃ v, atI vs i = some v ∧ Rp K G v d := by
  unfold L2.atI at e ⊢
  rw [h.length]
  cases q : ixN ds.length i with
  | none => rw [q] at e; cases e
  | some j =>
    rw [q] at e
    exact h.get e
theorem wo_ixL {ds : List PyData} {i : Int} {d : PyData} (h1 : seeL cl r1 = some ds) (h2 : r2 = .dat (.int i)) (h : atI ds i = some d) (q : Φ (.dat d) cl) : Wo K (rIx K) r1 r2 sl cl Φ := by
  intro A B ls τ σ H x y ⟨G, c⟩ hx hy Q k
  subst h2
  cases c.dat hy
  obtain ⟨a, vs, rfl, e2, e3⟩ := c.seeL hx h1
  obtain ⟨v, e4, e5⟩ := e3.atI h
  exact .inl ⟨a, vs, i, v, rfl, rfl, e2, e4, k _ H _ cl ls (List.prefix_refl _) q (c.push (r := .dat d) e5).sta⟩
theorem wo_ixT {ds : List PyData} {i : Int} {d : PyData} (h1 : r1 = .dat (.tuple ds)) (h2 : r2 = .dat (.int i)) (h : atI ds i = some d) (q : Φ (.dat d) cl) : Wo K (rIx K) r1 r2 sl cl Φ := by
  intro A B ls τ σ H x y ⟨G, c⟩ hx hy Q k
  subst h1 h2
  cases c.dat hy
  cases c.dat hx with
  | tup e2 e3 =>
    obtain ⟨v, e4, e5⟩ := e3.atI h
    exact .inr (.inl ⟨_, _, i, v, rfl, rfl, ex_t c.exG e2, e4, k _ H _ cl ls (List.prefix_refl _) q (c.push (r := .dat d) e5).sta⟩)
theorem wo_ixS {z : Str} {i : Int} {ch : Nat} (h1 : r1 = .dat (.str z)) (h2 : r2 = .dat (.int i)) (hz : z.length ≤ 100000) (h : atI z.cps.toList i = some ch) (q : Φ (.dat (.str ⟨#[ch]⟩)) cl) : Wo K (rIx K) r1 r2 sl cl Φ := by
  intro A B ls τ σ H x y ⟨G, c⟩ hx hy Q k
  subst h1 h2
  cases c.dat hy
  cases c.dat hx
  exact .inr (.inr ⟨z, i, ch, rfl, rfl, sz_of hz, h, k _ H _ cl ls (List.prefix_refl _) q (c.push (r := .dat (.str ⟨#[ch]⟩)) (.str _)).sta⟩)
/-! in -/
def eqG : PyData → PyData → Bool
  | .none, .none => true
  | .bool a, .bool b => a == b
  | .bool a, .int b => (if a then 1 else 0) == b
  | .int a, .bool b => a == (if b then 1 else 0)
  | .int a, .int b => a == b
  | .str a, .str b => a == b
  | _, _ => false
def inD (d : PyData) (ds : List PyData) : Bool := ds.any fun e => eqG e d
theorem flat_v {d : PyData} (h : Rp K G v d) (f : flatD d = true) : flatV v = true := by cases h <;> first | rfl | cases f
theorem eqG_ok {d e : PyData} (h1 : Rp K G x d) (h2 : Rp K G y e) (f1 : flatD d = true) (f2 : flatD e = true) : eqV x y = eqG d e := by
  cases h1 <;> cases h2 <;> first | rfl | cases f1 | cases f2
theorem inD_ok {d : PyData} (h : Rp K G x d) (f : flatD d = true) : ∀ {vs : List V} {ds : List PyData}, RpAll K G vs ds → ds.all flatD = true → vs.all flatV = true ∧ inV x vs = inD d ds
  | _, _, .nil, _ => ⟨rfl, rfl⟩
  | _, _, .cons (v := w) (d := e) h0 r, fs => by
    rw [List.all_cons, Bool.and_eq_true] at fs
    obtain ⟨i1, i2⟩ := inD_ok h f r fs.2
    refine ⟨by rw [List.all_cons, flat_v h0 fs.1, i1] <;> rfl, ?_⟩
    show (eqV w x || inV x _) = (eqG e d || inD d _)
    rw [eqG_ok h0 h fs.1 f, i2]
theorem wo_in {neg : Bool} {ds : List PyData} {d : PyData} (h1 : r1 = .dat d) (f1 : flatD d = true) (h2 : seeL cl r2 = some ds) (f2 : ds.all flatD = true) (q : Φ (.dat (.bool (if neg then !inD d ds else inD d ds))) cl) : Wo K (rIn K neg) r1 r2 sl cl Φ := by
  intro A B ls τ σ H x y ⟨G, c⟩ hx hy Q k
  subst h1
  obtain ⟨a, vs, rfl, e2, e3⟩ := c.seeL hy h2
  obtain ⟨z1, z2⟩ := inD_ok (c.dat hx) f1 e3 f2
  refine ⟨a, vs, rfl, .inl e2, flat_v (c.dat hx) f1, z1, ?_⟩
  rw [z2]
  exact k _ H _ cl ls (List.prefix_refl _) q (c.push (r := .dat (.bool _)) (.bl _)).sta
theorem wo_inT {neg : Bool} {ds : List PyData} {d : PyData} (h1 : r1 = .dat d) (f1 : flatD d = true) (h2 : r2 = .dat (.tuple ds)) (f2 : ds.all flatD = true) (q : Φ (.dat (.bool (if neg then !inD d ds else inD d ds))) cl) : Wo K (rIn K neg) r1 r2 sl cl Φ := by
  intro A B ls τ σ H x y ⟨G, c⟩ hx hy Q k
  subst h1 h2
  cases c.dat hy with
  | tup e2 e3 =>
    obtain ⟨z1, z2⟩ := inD_ok (c.dat hx) f1 e3 f2
    refine ⟨_, _, rfl, .inr (ex_t c.exG e2), flat_v (c.dat hx) f1, z1, ?_⟩
    rw [z2]
    exact k _ H _ cl ls (List.prefix_refl _) q (c.push (r := .dat (.bool _)) (.bl _)).sta
/-! == of data at any depth -/
theorem wo_eqD {d e : PyData} (h1 : seeD cl r1 = some d) (h2 : seeD cl r2 = some e) (s1 : SeqAt.shaped d = true) (s2 : SeqAt.shaped e = true) (q : Φ (.dat (.bool (PyData.eqv d e))) cl) : Wo K (rEqD K) r1 r2 sl cl Φ := by
  intro A B ls τ σ H x y ⟨G, c⟩ hx hy Q k
  exact ⟨d, e, c.seeD hx h1 s1, c.seeD hy h2 s2, s1, s2, k _ H _ cl ls (List.prefix_refl _) q (c.push (r := .dat (.bool _)) (.bl _)).sta⟩
theorem wo_neD {d e : PyData} (h1 : seeD cl r1 = some d) (h2 : seeD cl r2 = some e) (s1 : SeqAt.shaped d = true) (s2 : SeqAt.shaped e = true) (q : Φ (.dat (.bool (!PyData.eqv d e))) cl) : Wo K (rNeD K) r1 r2 sl cl Φ := by
  intro A B ls τ σ H x y ⟨G, c⟩ hx hy Q k
  exact ⟨d, e, c.seeD hx h1 s1, c.seeD hy h2 s2, s1, s2, k _ H _ cl ls (List.prefix_refl _) q (c.push (r := .dat (.bool _)) (.bl _)).sta⟩
/-! + of lists, of texts; [x] * n -/
theorem wo_cat {ds es : List PyData} (h1 : seeT cl r1 = some ds) (h2 : seeT cl r2 = some es) (hz : ds.length + es.length ≤ 100000) (q : Φ (.dat (.list (ds ++ es))) cl) : Wo K rCat r1 r2 sl cl Φ := by
  intro A B ls τ σ H x y ⟨G, c⟩ hx hy Q k
  obtain ⟨a, vs, rfl, e2, e3⟩ := c.seeT hx h1
  obtain ⟨b, ws, rfl, f2, f3⟩ := c.seeT hy h2
  refine ⟨a, b, vs, ws, rfl, rfl, e2, f2, sz_of (by rw [e3.length, f3.length]; exact hz), fun p hp => ?_⟩
  have c' := c.alloc hp (.lst (vs ++ ws))
  have eG : Ex G (upd G p (.lst (vs ++ ws))) := Ex.new (c.fresh hp).1
  exact k _ _ _ cl ls (List.prefix_refl _) q (c'.push (r := .dat (.list (ds ++ es))) (.lst upd_same ((e3.append f3).mono eG))).sta
theorem wo_catO {ds es : List PyData} (h1 : seeT cl r1 = some ds) (h2 : seeT cl r2 = some es) (hz : ds.length + es.length ≤ 100000) (q : Φ (.own cl.length) (cl ++ [.lst (ds ++ es)])) : Wo K rCat r1 r2 sl cl Φ := by
  intro A B ls τ σ H x y ⟨G, c⟩ hx hy Q k
  obtain ⟨a, vs, rfl, e2, e3⟩ := c.seeT hx h1
  obtain ⟨b, ws, rfl, f2, f3⟩ := c.seeT hy h2
  refine ⟨a, b, vs, ws, rfl, rfl, e2, f2, sz_of (by rw [e3.length, f3.length]; exact hz), fun p hp => ?_⟩
  have c' := c.allocOwn hp (.lst (vs ++ ws)) (.lst (ds ++ es)) ⟨(c.fresh hp).1, _, upd_same, e3.append f3⟩
  exact k _ _ _ _ (ls ++ [p]) (List.prefix_append _ _) q (c'.push (r := .own cl.length) ⟨p, rfl, by rw [← c.len, List.getElem?_append_right (Nat.le_refl _), Nat.sub_self] <;> rfl⟩).sta
theorem wo_addS {s z : Str} (h1 : r1 = .dat (.str s)) (h2 : r2 = .dat (.str z)) (hz : s.length + z.length ≤ 100000) (q : Φ (.dat (.str (s ++ z))) cl) : Wo K (fun x y H Q => ∃ i j, x = .str i ∧ y = .str j ∧ i.length + j.length ≤ sizeLine ∧ Q (.str (i ++ j)) H) r1 r2 sl cl Φ := by
  intro A B ls τ σ H x y ⟨G, c⟩ hx hy Q k
  subst h1 h2
  cases c.dat hy
  cases c.dat hx
  exact ⟨s, z, rfl, rfl, sz_of hz, k _ H _ cl ls (List.prefix_refl _) q (c.push (r := .dat (.str _)) (.str _)).sta⟩
theorem RpAll.rep {vs : List V} {ds : List PyData} (h : RpAll K G vs ds) : ∀ k : Nat, RpAll K G (List.replicate k vs).flatten (List.replicate k ds).flatten
  | 0 => .nil
  | k + 1 => by
    rw [List.replicate_succ, List.replicate_succ, List.flatten_cons, List.flatten_cons]
    exact h.append (RpAll.rep h k)
theorem wo_repO {ds : List PyData} {n : Int} (h1 : seeT cl r1 = some ds) (h2 : r2 = .dat (.int n)) (hn : 0 ≤ n ∧ n ≤ 100000) (hz : ds.length * n.toNat ≤ 100000) (q : Φ (.own cl.length) (cl ++ [.lst (List.replicate n.toNat ds).flatten])) : Wo K rRep r1 r2 sl cl Φ := by
  intro A B ls τ σ H x y ⟨G, c⟩ hx hy Q k
  subst h2
  cases c.dat hy
  obtain ⟨a, vs, rfl, e2, e3⟩ := c.seeT hx h1
  refine ⟨a, n, vs, rfl, rfl, e2, by omega, by omega, sz_of (by rw [e3.length]; exact hz), fun p hp => ?_⟩
  have c' := c.allocOwn hp (.lst (List.replicate n.toNat vs).flatten) (.lst (List.replicate n.toNat ds).flatten) ⟨(c.fresh hp).1, _, upd_same, e3.rep _⟩
  exact k _ _ _ _ (ls ++ [p]) (List.prefix_append _ _) q (c'.push (r := .own cl.length) ⟨p, rfl, by rw [← c.len, List.getElem?_append_right (Nat.le_refl _), Nat.sub_self] <;> rfl⟩).sta
theorem wo_rep {ds : List PyData} {n : Int} (h1 : seeT cl r1 = some ds) (h2 : r2 = .dat (.int n)) (hn : 0 ≤ n ∧ n ≤ 100000) (hz : ds.length * n.toNat ≤ 100000) (q : Φ (.dat (.list (List.replicate n.toNat ds).flatten)) cl) : Wo K rRep r1 r2 sl cl Φ := by
  intro A B ls τ σ H x y ⟨G, c⟩ hx hy Q k
  subst h2
  cases c.dat hy
  obtain ⟨a, vs, rfl, e2, e3⟩ := c.seeT hx h1
  refine ⟨a, n, vs, rfl, rfl, e2, by omega, by omega, sz_of (by rw [e3.length]; exact hz), fun p hp => ?_⟩
  have c' := c.alloc hp (.lst (List.replicate n.toNat vs).flatten)
  have eG : Ex G (upd G p (.lst (List.replicate n.toNat vs).flatten)) := Ex.new (c.fresh hp).1
  exact k _ _ _ cl ls (List.prefix_refl _) q (c'.push (r := .dat (.list _)) (.lst upd_same ((e3.rep _).mono eG))).sta
/-- two readings, either of which serves -/
theorem wo_inl {p q : R2} (h : Wo K p r1 r2 sl cl Φ) : Wo K (fun x y H Q => p x y H Q ∨ q x y H Q) r1 r2 sl cl Φ := fun A B ls τ σ H x y s hx hy Q k => .inl (h A B ls τ σ H x y s hx hy Q k)
theorem wo_inr {p q : R2} (h : Wo K q r1 r2 sl cl Φ) : Wo K (fun x y H Q => p x y H Q ∨ q x y H Q) r1 r2 sl cl Φ := fun A B ls τ σ H x y s hx hy Q k => .inr (h A B ls τ σ H x y s hx hy Q k)
/-- a chain a < b < c -/
theorem wp_chain {r r' : R2} (h : Wp K ta sl cl fun r1 cl1 => Wp K tb sl cl1 fun r2 cl2 => Wo K r r1 r2 sl cl2 fun z cl3 => ∃ k, z = .dat (.bool k) ∧ if k = true then Wp K te sl cl3 (fun r3 cl4 => Wo K r' r2 r3 sl cl4 Φ) else Φ (.dat (.bool false)) cl3) : Wp K (tChain r r' ta tb te) sl cl Φ := by
  intro A B ls τ σ H s Q k
  refine h A B ls τ σ H s _ fun x H1 r1 cl1 ls1 e1 h1 s1 => ?_
  refine h1 A B ls1 _ σ H1 s1 _ fun y H2 r2 cl2 ls2 e2 h2 s2 => ?_
  refine h2 A B ls2 _ σ H2 x y s2 (List.mem_cons_of_mem _ List.mem_cons_self) List.mem_cons_self _ fun z H3 r3 cl3 ls3 e3 h3 s3 => ?_
  obtain ⟨b, rfl, h3⟩ := h3
  obtain ⟨G, c⟩ := s3
  cases tmp_bool c
  refine ⟨b, rfl, ?_⟩
  cases b with
  | false => exact k _ H3 _ cl3 ls3 ((e1.trans e2).trans e3) h3 (c.sta.sub fun p hp => by
      rcases List.mem_cons.mp hp with z | z
      · rw [z]; exact List.mem_cons_self
      · exact List.mem_cons_of_mem _ (List.mem_cons_of_mem _ (List.mem_cons_of_mem _ z)))
  | true =>
    refine h3 A B ls3 _ σ H3 c.sta _ fun w' H4 r4 cl4 ls4 e4 h4 s4 => ?_
    refine h4 A B ls4 _ σ H4 y w' s4 (List.mem_cons_of_mem _ (List.mem_cons_of_mem _ List.mem_cons_self)) List.mem_cons_self _ fun v H5 r5 cl5 ls5 e5 f s5 => ?_
    exact k v H5 r5 cl5 ls5 ((((e1.trans e2).trans e3).trans e4).trans e5) f (s5.sub fun p hp => by
      rcases List.mem_cons.mp hp with z | z
      · rw [z]; exact List.mem_cons_self
      · exact List.mem_cons_of_mem _ (List.mem_cons_of_mem _ (List.mem_cons_of_mem _ (List.mem_cons_of_mem _ (List.mem_cons_of_mem _ z)))))

/-! ### displays, slices, built-ins -/
def dats : List SD → Option (List PyData)
  | [] => some []
  | .dat d :: r => (dats r).map (d :: ·)
  | _ => none
theorem dats_ok : ∀ {rs : List SD} {ds : List PyData} {vs : List V}, dats rs = some ds → vs.length = rs.length → (∀ p ∈ vs.zip rs, ValOk K G ls p.1 p.2) → RpAll K G vs ds
  | [], _, [], e, _, _ => by cases e; exact .nil
  | r :: rs, _, v :: vs, e, hl, h => by
    cases r with
    | dat d =>
      unfold dats at e
      cases q : dats rs with
      | none => rw [q] at e; cases e
      | some ds =>
        rw [q] at e
        cases e
        exact .cons (h (v, .dat d) List.mem_cons_self) (dats_ok q (Nat.succ.inj hl) fun p hp => h p (List.mem_cons_of_mem _ hp))
    | _ => cases e
  | [], _, _ :: _, _, hl, _ => by cases hl
  | _ :: _, _, [], _, hl, _ => by cases hl
theorem wp_tup (h : WpA K tr sl cl fun rs cl1 => ∃ ds, dats rs = some ds ∧ ds.length ≤ 100000 ∧ Φ (.dat (.tuple ds)) cl1) : Wp K (tTup tr) sl cl Φ := by
  intro A B ls τ σ H s Q k
  refine h A B ls τ σ H s _ fun vs H1 rs cl1 ls1 e1 h1 hl s1 => ?_
  obtain ⟨ds, hd, hz, q⟩ := h1
  obtain ⟨G, c⟩ := s1
  have ra := dats_ok hd hl fun p hp => c.tmp p (List.mem_append_left _ hp)
  refine ⟨sz_of (by rw [ra.length]; exact hz), fun p hp => ?_⟩
  have c' := c.alloc hp (.tup vs)
  have eG : Ex G (upd G p (.tup vs)) := Ex.new (c.fresh hp).1
  exact k _ _ _ cl1 ls1 e1 q ((c'.tmps (τ' := τ) fun q hq => c'.tmp q (List.mem_append_right _ hq)).push (r := .dat (.tuple ds)) (.tup (SqT.of upd_same) (ra.mono eG))).sta
theorem wp_lst (h : WpA K tr sl cl fun rs cl1 => ∃ ds, dats rs = some ds ∧ ds.length ≤ 100000 ∧ Φ (.dat (.list ds)) cl1) : Wp K (tLst tr) sl cl Φ := by
  intro A B ls τ σ H s Q k
  refine h A B ls τ σ H s _ fun vs H1 rs cl1 ls1 e1 h1 hl s1 => ?_
  obtain ⟨ds, hd, hz, q⟩ := h1
  obtain ⟨G, c⟩ := s1
  have ra := dats_ok hd hl fun p hp => c.tmp p (List.mem_append_left _ hp)
  refine ⟨sz_of (by rw [ra.length]; exact hz), fun p hp => ?_⟩
  have c' := c.alloc hp (.lst vs)
  have eG : Ex G (upd G p (.lst vs)) := Ex.new (c.fresh hp).1
  exact k _ _ _ cl1 ls1 e1 q ((c'.tmps (τ' := τ) fun q hq => c'.tmp q (List.mem_append_right _ hq)).push (r := .dat (.list ds)) (.lst upd_same (ra.mono eG))).sta
theorem own_last (c : Core K A B ls sl cl τ σ H G) {p : Addr} : (ls ++ [p])[cl.length]? = some p := by rw [← c.len, List.getElem?_append_right (Nat.le_refl _), Nat.sub_self] <;> rfl
theorem wp_lstO (h : WpA K tr sl cl fun rs cl1 => ∃ ds, dats rs = some ds ∧ ds.length ≤ 100000 ∧ Φ (.own cl1.length) (cl1 ++ [.lst ds])) : Wp K (tLst tr) sl cl Φ := by
  intro A B ls τ σ H s Q k
  refine h A B ls τ σ H s _ fun vs H1 rs cl1 ls1 e1 h1 hl s1 => ?_
  obtain ⟨ds, hd, hz, q⟩ := h1
  obtain ⟨G, c⟩ := s1
  have ra := dats_ok hd hl fun p hp => c.tmp p (List.mem_append_left _ hp)
  refine ⟨sz_of (by rw [ra.length]; exact hz), fun p hp => ?_⟩
  have c' := c.allocOwn hp (.lst vs) (.lst ds) ⟨(c.fresh hp).1, _, upd_same, ra⟩
  exact k _ _ _ _ (ls1 ++ [p]) (e1.trans (List.prefix_append _ _)) q ((c'.tmps (τ' := τ) fun q hq => c'.tmp q (List.mem_append_right _ hq)).push (r := .own cl1.length) ⟨p, rfl, own_last c⟩).sta
theorem wp_dnewO (q : Φ (.own cl.length) (cl ++ [.dic []])) : Wp K tDNewK sl cl Φ := by
  intro A B ls τ σ H ⟨G, c⟩ Q k p hp
  have c' := c.allocOwn hp (.dK []) (.dic []) ⟨(c.fresh hp).1, _, upd_same, .nil⟩
  exact k _ _ _ _ (ls ++ [p]) (List.prefix_append _ _) q (c'.push (r := .own cl.length) ⟨p, rfl, own_last c⟩).sta
/-- a built-in, called -/
theorem wp_cb {r : List V → Hp → VK → Prop} (h : WpA K tr sl cl fun rs cl1 => Wc K r rs sl cl1 Φ) : Wp K (tCB r tr) sl cl Φ := by
  intro A B ls τ σ H s Q k
  refine h A B ls τ σ H s _ fun vs H1 rs cl1 ls1 e1 h1 hl s1 => ?_
  refine h1 A B ls1 _ σ H1 vs s1 hl (fun p hp => List.mem_append_left _ hp) _ fun v H2 r2 cl2 ls2 e2 f s2 => ?_
  exact k v H2 r2 cl2 ls2 (e1.trans e2) f (s2.sub fun p hp => by
    rcases List.mem_cons.mp hp with z | z
    · rw [z]; exact List.mem_cons_self
    · exact List.mem_cons_of_mem _ (List.mem_append_right _ z))
theorem one_of {vs : List V} {P : V × SD → Prop} (hl : vs.length = [r].length) (h : ∀ p ∈ vs.zip [r], P p) : ∃ v, vs = [v] ∧ P (v, r) := by
  match vs, hl with
  | [v], _ => exact ⟨v, rfl, h _ List.mem_cons_self⟩
theorem two_of {vs : List V} {P : V × SD → Prop} (hl : vs.length = [r1, r2].length) (h : ∀ p ∈ vs.zip [r1, r2], P p) : ∃ v w, vs = [v, w] ∧ P (v, r1) ∧ P (w, r2) := by
  match vs, hl with
  | [v, w], _ => exact ⟨v, w, rfl, h _ List.mem_cons_self, h _ (List.mem_cons_of_mem _ List.mem_cons_self)⟩
/-- the length of a list, a tuple, a text -/
def lenD (cl : List Cell) (r : SD) : Option Nat := match r with
  | .dat (.tuple ds) => some ds.length
  | .dat (.str z) => if z.length ≤ 100000 then some z.length else none
  | r => (seeL cl r).map List.length
theorem wc_len {n : Nat} (h : lenD cl r = some n) (q : Φ (.dat (.int n)) cl) : Wc K (fun xs H Q => ∃ x n, xs = [x] ∧ LenV K x H n ∧ Q (.int n) H) [r] sl cl Φ := by
  intro A B ls τ σ H vs ⟨G, c⟩ hl hm Q k
  obtain ⟨v, rfl, hv⟩ := one_of hl hm
  refine ⟨v, n, rfl, ?_, k _ H _ cl ls (List.prefix_refl _) q (c.push (r := .dat (.int n)) (.int _)).sta⟩
  have go : (seeL cl r).map List.length = some n → LenV K v H n := fun e => by
    cases qq : seeL cl r with
    | none => rw [qq] at e; cases e
    | some ds =>
      rw [qq] at e
      cases e
      obtain ⟨a, vs, rfl, e2, e3⟩ := c.seeL hv qq
      exact .inl ⟨vs, e2, e3.length.symm⟩
  cases r with
  | dat d =>
    cases d with
    | tuple ds =>
      cases h
      cases c.dat hv with
      | tup e2 e3 => exact .inr ⟨_, ex_t c.exG e2, e3.length.symm⟩
    | str z =>
      have h : (if z.length ≤ 100000 then some z.length else none) = some n := h
      by_cases hz : z.length ≤ 100000
      · rw [if_pos hz] at h
        cases h
        cases c.dat hv
        exact ⟨sz_of hz, rfl⟩
      · rw [if_neg hz] at h
        cases h
    | _ => exact go h
  | _ => exact go h
theorem wc_int1 {i : Int} (h : r = .dat (.int i)) (q : Φ (.dat (.int i)) cl) : Wc K (fun xs H Q => (∃ i, xs = [.int i] ∧ Q (.int i) H) ∨ ∃ k, xs = [.bl k] ∧ Q (.int (if k then 1 else 0)) H) [r] sl cl Φ := by
  intro A B ls τ σ H vs ⟨G, c⟩ hl hm Q k
  subst h
  obtain ⟨v, rfl, hv⟩ := one_of hl hm
  cases c.dat hv
  exact .inl ⟨i, rfl, k _ H _ cl ls (List.prefix_refl _) q (c.push (r := .dat (.int i)) (.int _)).sta⟩
theorem wc_abs {i : Int} (h : r = .dat (.int i)) (q : Φ (.dat (.int (if i < 0 then -i else i))) cl) : Wc K (fun xs H Q => ∃ i, xs = [.int i] ∧ Q (.int (if i < 0 then -i else i)) H) [r] sl cl Φ := by
  intro A B ls τ σ H vs ⟨G, c⟩ hl hm Q k
  subst h
  obtain ⟨v, rfl, hv⟩ := one_of hl hm
  cases c.dat hv
  exact ⟨i, rfl, k _ H _ cl ls (List.prefix_refl _) q (c.push (r := .dat (.int _)) (.int _)).sta⟩
theorem wc_max2 {i j : Int} (h : r1 = .dat (.int i)) (h' : r2 = .dat (.int j)) (q : Φ (.dat (.int (if j > i then j else i))) cl) : Wc K (fun xs H Q => ∃ i j, xs = [.int i, .int j] ∧ Q (.int (if j > i then j else i)) H) [r1, r2] sl cl Φ := by
  intro A B ls τ σ H vs ⟨G, c⟩ hl hm Q k
  subst h h'
  obtain ⟨v, w, rfl, hv, hw⟩ := two_of hl hm
  cases c.dat hv
  cases c.dat hw
  exact ⟨i, j, rfl, k _ H _ cl ls (List.prefix_refl _) q (c.push (r := .dat (.int _)) (.int _)).sta⟩
theorem wc_min2 {i j : Int} (h : r1 = .dat (.int i)) (h' : r2 = .dat (.int j)) (q : Φ (.dat (.int (if j < i then j else i))) cl) : Wc K (fun xs H Q => ∃ i j, xs = [.int i, .int j] ∧ Q (.int (if j < i then j else i)) H) [r1, r2] sl cl Φ := by
  intro A B ls τ σ H vs ⟨G, c⟩ hl hm Q k
  subst h h'
  obtain ⟨v, w, rfl, hv, hw⟩ := two_of hl hm
  cases c.dat hv
  cases c.dat hw
  exact ⟨i, j, rfl, k _ H _ cl ls (List.prefix_refl _) q (c.push (r := .dat (.int _)) (.int _)).sta⟩
theorem wc_list {ds : List PyData} (h : seeL cl r = some ds) (q : Φ (.dat (.list ds)) cl) : Wc K (fun xs H Q => ∃ p ys, xs = [.ref p] ∧ (SqL K H p ys ∨ SqT K H p ys) ∧ ∀ l, H l = none → Q (.ref l) (upd H l (.lst ys))) [r] sl cl Φ := by
  intro A B ls τ σ H vs ⟨G, c⟩ hl hm Q k
  obtain ⟨v, rfl, hv⟩ := one_of hl hm
  obtain ⟨a, ws, rfl, e2, e3⟩ := c.seeL hv h
  refine ⟨a, ws, rfl, .inl e2, fun p hp => ?_⟩
  have c' := c.alloc hp (.lst ws)
  have eG : Ex G (upd G p (.lst ws)) := Ex.new (c.fresh hp).1
  exact k _ _ _ cl ls (List.prefix_refl _) q (c'.push (r := .dat (.list ds)) (.lst upd_same (e3.mono eG))).sta
theorem wc_listT {ds : List PyData} (h : r = .dat (.tuple ds)) (q : Φ (.dat (.list ds)) cl) : Wc K (fun xs H Q => ∃ p ys, xs = [.ref p] ∧ (SqL K H p ys ∨ SqT K H p ys) ∧ ∀ l, H l = none → Q (.ref l) (upd H l (.lst ys))) [r] sl cl Φ := by
  intro A B ls τ σ H vs ⟨G, c⟩ hl hm Q k
  subst h
  obtain ⟨v, rfl, hv⟩ := one_of hl hm
  cases c.dat hv with
  | @tup a ws _ e2 e3 =>
    refine ⟨a, ws, rfl, .inr (ex_t c.exG e2), fun p hp => ?_⟩
    have c' := c.alloc hp (.lst ws)
    have eG : Ex G (upd G p (.lst ws)) := Ex.new (c.fresh hp).1
    exact k _ _ _ cl ls (List.prefix_refl _) q (c'.push (r := .dat (.list ds)) (.lst upd_same (e3.mono eG))).sta
theorem wc_tuple {ds : List PyData} (h : seeL cl r = some ds) (q : Φ (.dat (.tuple ds)) cl) : Wc K (fun xs H Q => ∃ p ys, xs = [.ref p] ∧ ((SqL K H p ys ∧ ∀ l, H l = none → Q (.ref l) (upd H l (.tup ys))) ∨ (SqT K H p ys ∧ Q (.ref p) H))) [r] sl cl Φ := by
  intro A B ls τ σ H vs ⟨G, c⟩ hl hm Q k
  obtain ⟨v, rfl, hv⟩ := one_of hl hm
  obtain ⟨a, ws, rfl, e2, e3⟩ := c.seeL hv h
  refine ⟨a, ws, rfl, .inl ⟨e2, fun p hp => ?_⟩⟩
  have c' := c.alloc hp (.tup ws)
  have eG : Ex G (upd G p (.tup ws)) := Ex.new (c.fresh hp).1
  exact k _ _ _ cl ls (List.prefix_refl _) q (c'.push (r := .dat (.tuple ds)) (.tup (SqT.of upd_same) (e3.mono eG))).sta
theorem wc_all {bs : List Bool} (h : seeL cl r = some (bs.map .bool)) (q : Φ (.dat (.bool (bs.all id))) cl) : Wc K (rAll K) [r] sl cl Φ := by
  intro A B ls τ σ H vs ⟨G, c⟩ hl hm Q k
  obtain ⟨v, rfl, hv⟩ := one_of hl hm
  obtain ⟨a, ws, rfl, e2, e3⟩ := c.seeL hv h
  rw [e3.bls] at e2
  exact ⟨a, bs, rfl, e2, k _ H _ cl ls (List.prefix_refl _) q (c.push (r := .dat (.bool _)) (.bl _)).sta⟩
/-! isinstance: a value's built-in class -/
def tyD : PyData → Option String
  | .none => some "NoneType" | .bool _ => some "bool" | .int _ => some "int" | .str _ => some "str" | .list _ => some "list" | .tuple _ => some "tuple" | .dict [] => some "dict" | .dict _ => none
end
end Sy
end

section
namespace Sy
open PySem L2 Evl
section
variable {K : PySem.W.Frag} {A B G G' H H' : Hp} {ls ls' : List Addr} {sl sl' : List SD} {cl cl' : List Cell} {τ τ' : List (V × SD)} {σ σ' : St} {v x y : V} {r r1 r2 : SD}
variable {te ta tb : TE} {t u : TT} {tr : TA} {Φ : SD → List Cell → Prop}
/-! ### calls of defs -/
/-- what a def promises: from its arguments as, the cells that they own, and what is wanted of its value and the cells -/
abbrev Pr := List SD → List Cell → (SD → List Cell → Prop) → Prop
def spS (K : PySem.W.Frag) (P : Pr) : Sp := fun vs H Q _ => ∃ A B ls as cl Φ, P as cl Φ ∧ Sta K A B ls as cl [] (vs.map some) H ∧
  ∀ v H' r cl' ls', ls <+: ls' → Φ r cl' → Sta K A B ls' [] cl' [(v, r)] [] H' → Q v H'
/-- the number in sel of an owned cell -/
def remapI (sel : List Nat) : TI1 → Option TI1
  | .d x => some (.d x)
  | .o k => (sel.idxOf? k).map .o
def remapIs (sel : List Nat) : List TI1 → Option (List TI1)
  | [] => some []
  | r :: rs => match remapI sel r, remapIs sel rs with
    | some a, some b => some (a :: b)
    | _, _ => none
def remap (sel : List Nat) : SD → Option SD
  | .dat d => some (.dat d)
  | .scr ns => some (.scr ns)
  | .adr a => some (.adr a)
  | .tup is => (remapIs sel is).map .tup
  | .own k => (sel.idxOf? k).map .own
  | .unk => none
def remaps (sel : List Nat) : List SD → Option (List SD)
  | [] => some []
  | r :: rs => match remap sel r, remaps sel rs with
    | some a, some b => some (a :: b)
    | _, _ => none
def pick (sel : List Nat) (cl : List Cell) : List Cell := sel.map fun k => (cl[k]?).getD .dead
def unmapK (sel : List Nat) (n k : Nat) : Nat := if k < sel.length then sel.getD k 0 else n + (k - sel.length)
def unmapI (sel : List Nat) (n : Nat) : TI1 → TI1
  | .o k => .o (unmapK sel n k)
  | r => r
def unmap (sel : List Nat) (n : Nat) : SD → SD
  | .tup is => .tup (is.map (unmapI sel n))
  | .own k => if k < sel.length then .own (sel.getD k 0) else .own (n + (k - sel.length))
  | r => r
def putBack : List Nat → List Cell → List Cell → List Cell
  | [], _, cl => cl
  | k :: sel, c :: cs, cl => putBack sel cs (cl.set k c)
  | _ :: _, [], cl => cl
theorem putBack_len : ∀ (sel : List Nat) (cs cl : List Cell), (putBack sel cs cl).length = cl.length
  | [], _, _ => rfl
  | k :: sel, c :: cs, cl => by
    show (putBack sel cs (cl.set k c)).length = _
    rw [putBack_len sel cs, List.length_set]
  | _ :: _, [], _ => rfl
theorem putBack_out : ∀ (sel : List Nat) (cs cl : List Cell) (i : Nat), i ∉ sel → (putBack sel cs cl)[i]? = cl[i]?
  | [], _, _, _, _ => rfl
  | k :: sel, c :: cs, cl, i, h => by
    show (putBack sel cs (cl.set k c))[i]? = _
    have hk : k ≠ i := fun z => h (by rw [z]; exact List.mem_cons_self)
    rw [putBack_out sel cs _ i fun z => h (List.mem_cons_of_mem _ z), List.getElem?_set_ne hk]
  | _ :: _, [], _, _, _ => rfl
theorem putBack_in : ∀ (sel : List Nat) (cs cl : List Cell), sel.Nodup → ∀ (j k : Nat) (c : Cell), sel[j]? = some k → cs[j]? = some c → k < cl.length → (putBack sel cs cl)[k]? = some c
  | [], _, _, _, _, _, _, h, _, _ => by simp at h
  | k :: sel, [], cl, _, j, i, c, _, h, _ => by simp at h
  | k :: sel, d :: cs, cl, nd, 0, i, c, h1, h2, hl => by
    have nd' := List.nodup_cons.mp nd
    have e1 : k = i := Option.some.inj h1
    have e2 : d = c := Option.some.inj h2
    subst e1 e2
    show (putBack sel cs (cl.set k d))[k]? = _
    rw [putBack_out sel cs _ k nd'.1, List.getElem?_set_self hl]
  | k :: sel, d :: cs, cl, nd, j + 1, i, c, h1, h2, hl => by
    have nd' := List.nodup_cons.mp nd
    show (putBack sel cs (cl.set k d))[i]? = _
    exact putBack_in sel cs _ nd'.2 j i c h1 h2 (by rw [List.length_set]; exact hl)
theorem idx_get {sel : List Nat} {k j : Nat} (h : sel.idxOf? k = some j) : sel[j]? = some k := by
  rw [List.idxOf?, List.findIdx?_eq_some_iff_getElem] at h
  obtain ⟨h1, h2, _⟩ := h
  rw [List.getElem?_eq_getElem h1]
  simpa using h2
theorem remapI_ok {sel : List Nat} {r r' : TI1} (e : remapI sel r = some r') (h : ItmOk K G ls v r) : ItmOk K G (sel.map fun k => (ls[k]?).getD 0) v r' := by
  cases r with
  | d x => cases e; exact h
  | o k =>
    obtain ⟨l, e1, e2⟩ := h
    have e : (sel.idxOf? k).map TI1.o = some r' := e
    cases q : sel.idxOf? k with
    | none => rw [q] at e; cases e
    | some j =>
      rw [q] at e
      cases e
      exact ⟨l, e1, by rw [List.getElem?_map, idx_get q]; show some ((ls[k]?).getD 0) = _; rw [e2] <;> rfl⟩
theorem remapIs_ok {sel : List Nat} : ∀ {is is' : List TI1} {vs : List V}, remapIs sel is = some is' → Paired (ItmOk K G ls) vs is → Paired (ItmOk K G (sel.map fun k => (ls[k]?).getD 0)) vs is'
  | [], _, _, e, .nil => by cases e; exact .nil
  | r :: rs, is', _, e, .cons h t => by
    unfold remapIs at e
    cases q1 : remapI sel r with
    | none => rw [q1] at e; cases e
    | some a =>
      cases q2 : remapIs sel rs with
      | none => rw [q1, q2] at e; cases e
      | some b =>
        rw [q1, q2] at e
        cases e
        exact .cons (remapI_ok q1 h) (remapIs_ok q2 t)
theorem remap_ok {sel : List Nat} {r r' : SD} (e : remap sel r = some r') (h : ValOk K G ls v r) : ValOk K G (sel.map fun k => (ls[k]?).getD 0) v r' := by
  cases r with
  | unk => cases e
  | dat d => cases e; exact h
  | scr ns => cases e; exact h
  | adr a => cases e; exact h
  | tup is =>
    obtain ⟨a, vs, e1, e2, e3⟩ := h
    have e : (remapIs sel is).map SD.tup = some r' := e
    cases q : remapIs sel is with
    | none => rw [q] at e; cases e
    | some js =>
      rw [q] at e
      cases e
      exact ⟨a, vs, e1, e2, remapIs_ok q e3⟩
  | own k =>
    obtain ⟨l, e1, e2⟩ := h
    have e : (sel.idxOf? k).map SD.own = some r' := e
    cases q : sel.idxOf? k with
    | none => rw [q] at e; cases e
    | some j =>
      rw [q] at e
      cases e
      exact ⟨l, e1, by rw [List.getElem?_map, idx_get q]; show some ((ls[k]?).getD 0) = _; rw [e2] <;> rfl⟩
theorem remaps_ok {sel : List Nat} : ∀ {rs rs' : List SD} {vs : List V}, remaps sel rs = some rs' → vs.length = rs.length → (∀ p ∈ vs.zip rs, ValOk K G ls p.1 p.2) →
    rs'.length = vs.length ∧ ∀ (i : Nat) (sd : SD), rs'[i]? = some sd → ∃ v, (vs.map some)[i]? = some (some v) ∧ ValOk K G (sel.map fun k => (ls[k]?).getD 0) v sd
  | [], _, [], e, _, _ => by cases e; exact ⟨rfl, fun i sd h => by simp at h⟩
  | r :: rs, rs', v :: vs, e, hl, h => by
    unfold remaps at e
    cases q1 : remap sel r with
    | none => rw [q1] at e; cases e
    | some a =>
      cases q2 : remaps sel rs with
      | none => rw [q1, q2] at e; cases e
      | some b =>
        rw [q1, q2] at e
        cases e
        obtain ⟨z1, z2⟩ := remaps_ok q2 (Nat.succ.inj hl) fun p hp => h p (List.mem_cons_of_mem _ hp)
        refine ⟨congrArg (· + 1) z1, fun i sd hi => ?_⟩
        cases i with
        | zero =>
          have e' : a = sd := Option.some.inj hi
          subst e'
          exact ⟨v, rfl, remap_ok q1 (h (v, r) List.mem_cons_self)⟩
        | succ i => exact z2 i sd hi
  | [], _, _ :: _, _, hl, _ => by cases hl
  | _ :: _, _, [], _, hl, _ => by cases hl
/-- a call's wish: sel the cells that are handed on -/
def CallOk (P : Pr) (rs : List SD) (sl : List SD) (cl : List Cell) (sel : List Nat) (Φ : SD → List Cell → Prop) : Prop :=
  sel.Nodup ∧ (∀ k ∈ sel, k < cl.length) ∧ ∃ as, remaps sel rs = some as ∧ P as (pick sel cl) fun r cl' => sel.length ≤ cl'.length ∧ Φ (unmap sel cl.length r) (putBack sel cl' cl ++ cl'.drop sel.length)
/-- into a call and back -/
theorem call_core {vs : List V} {rs as : List SD} {sel : List Nat} (s : Sta K A B ls sl cl τ σ H) (hl : vs.length = rs.length) (hm : ∀ p ∈ vs.zip rs, p ∈ τ) (nd : sel.Nodup) (hb : ∀ k ∈ sel, k < cl.length) (ea : remaps sel rs = some as) :
    ∃ A1 B1 ls1, Sta K A1 B1 ls1 as (pick sel cl) [] (vs.map some) H ∧ ∀ v H' r cl' ls', ls1 <+: ls' → sel.length ≤ cl'.length → Sta K A1 B1 ls' [] cl' [(v, r)] [] H' → ∃ ls2, ls <+: ls2 ∧ Sta K A B ls2 sl (putBack sel cl' cl ++ cl'.drop sel.length) ((v, unmap sel cl.length r) :: τ) σ H' := by
  obtain ⟨G, c⟩ := s
  obtain ⟨la, hs⟩ := remaps_ok (K := K) (G := G) (ls := ls) ea hl fun p hp => c.tmp p (hm p hp)
  have lget : ∀ {j k : Nat}, sel[j]? = some k → ∃ l, ls[k]? = some l ∧ (sel.map fun k => (ls[k]?).getD 0)[j]? = some l := fun {j k} e => by
    have hk : k < ls.length := c.len ▸ hb k (List.mem_of_getElem? e)
    refine ⟨ls[k], List.getElem?_eq_getElem hk, ?_⟩
    rw [List.getElem?_map, e]
    show some ((ls[k]?).getD 0) = _
    rw [List.getElem?_eq_getElem hk] <;> rfl
  have lsl : (sel.map fun k => (ls[k]?).getD 0).length = sel.length := List.length_map _
  have pget : ∀ {j k : Nat} {d : Cell}, sel[j]? = some k → cl[k]? = some d → (pick sel cl)[j]? = some d := fun {j k d} e1 e2 => by
    show (sel.map fun k => (cl[k]?).getD .dead)[j]? = _
    rw [List.getElem?_map, e1]
    show some ((cl[k]?).getD .dead) = _
    rw [e2] <;> rfl
  -- of a place in the callee's list: the caller's place
  have back : ∀ {j : Nat} {l : Addr} {d : Cell}, (sel.map fun k => (ls[k]?).getD 0)[j]? = some l → (pick sel cl)[j]? = some d → ∃ k, sel[j]? = some k ∧ ls[k]? = some l ∧ cl[k]? = some d := fun {j l d} e1 e2 => by
    have hj : j < sel.length := by
      have z := (List.getElem?_eq_some_iff.mp e1).1
      omega
    have ek := List.getElem?_eq_getElem hj
    obtain ⟨l', f1, f2⟩ := lget ek
    rw [e1] at f2
    cases f2
    have hk : sel[j] < cl.length := hb _ (List.getElem_mem hj)
    have f3 := pget ek (List.getElem?_eq_getElem hk)
    rw [e2] at f3
    cases f3
    exact ⟨_, ek, f1, List.getElem?_eq_getElem hk⟩
  -- the owned cells that are not handed on are hidden
  let hid : Addr → Prop := fun b => ∃ (i : Nat) (d : Cell), ls[i]? = some b ∧ cl[i]? = some d ∧ d.live ∧ i ∉ sel
  have hdec : ∀ b : Addr, Decidable (hid b) := fun b => Classical.propDecidable _
  let B' : Hp := fun b => if hid b then H b else B b
  have hidG : ∀ {b : Addr}, hid b → G b = none ∧ ∃ o, H b = some o := fun {b} ⟨i, d, e1, e2, e3, _⟩ => (c.cells i b d e1 e2).there e3
  have selno : ∀ {j k : Nat} {l : Addr} {d : Cell}, sel[j]? = some k → ls[k]? = some l → cl[k]? = some d → d.live → ¬ hid l := fun {j k l d} e1 e2 e3 hd ⟨i, d', f1, f2, f3, f4⟩ =>
    f4 (by rw [c.inj i k l d' d f1 e2 f2 e3 f3 hd]; exact List.mem_of_getElem? e1)
  have c1 : Core K G B' (sel.map fun k => (ls[k]?).getD 0) as (pick sel cl) [] (vs.map some) H G := by
    refine ⟨Ex.refl G, c.exG, fun b o e => ?_, fun b o e => ?_, fun i l d e1 e2 hd => ?_, fun i j l d d' e1 e2 e3 e4 hd hd' => ?_, by rw [lsl]; exact (List.length_map _).symm, fun i l d e1 e2 => ?_, by rw [List.length_map]; exact la, fun i sd e _ => hs i sd e, fun p hp => by cases hp⟩
    · by_cases hc : hid b
      · have e' : B' b = H b := if_pos hc
        rw [← e']; exact e
      · have e' : B' b = B b := if_neg hc
        rw [e'] at e; exact c.exB _ _ e
    · by_cases hc : hid b
      · exact (hidG hc).1
      · have e' : B' b = B b := if_neg hc
        rw [e'] at e
        exact c.ban _ _ e
    · obtain ⟨k, f1, f2, f3⟩ := back e1 e2
      have e' : B' l = B l := if_neg (selno f1 f2 f3 hd)
      rw [e']
      exact c.banc k l d f2 f3 hd
    · obtain ⟨k, f1, f2, f3⟩ := back e1 e3
      obtain ⟨k', g1, g2, g3⟩ := back e2 e4
      have z : k = k' := c.inj k k' l d d' f2 g2 f3 g3 hd hd'
      subst z
      exact nd_ix nd f1 g1
    · obtain ⟨k, f1, f2, f3⟩ := back e1 e2
      exact c.cells k l d f2 f3
  refine ⟨G, B', _, c1.sta, fun v H' r cl' ls' pre hlen s' => ?_⟩
  obtain ⟨G2, c2⟩ := s'
  obtain ⟨ext, rfl⟩ := pre
  have l2 : sel.length + ext.length = cl'.length := by
    have z := c2.len
    rw [List.length_append, lsl] at z
    exact z
  have keepB : ∀ {b : Addr} {o : HO}, B b = some o → B' b = some o := fun {b o} e => by
    by_cases hc : hid b
    · obtain ⟨i, d, e1, e2, e3, _⟩ := hc
      rw [c.banc i b d e1 e2 e3] at e
      cases e
    · exact (if_neg hc).trans e
  have hidH : ∀ {b : Addr}, hid b → B' b = H b ∧ H' b = H b ∧ G2 b = none := fun {b} hc => by
    have e' : B' b = H b := if_pos hc
    obtain ⟨_, o, e⟩ := hidG hc
    rw [e] at e' ⊢
    exact ⟨e', c2.exB _ _ e', c2.ban _ _ e'⟩
  -- the places of the new list
  have clen : (putBack sel cl' cl).length = cl.length := putBack_len sel cl' cl
  have place : ∀ {i : Nat} {l : Addr} {d : Cell}, (ls ++ ext)[i]? = some l → (putBack sel cl' cl ++ cl'.drop sel.length)[i]? = some d →
      (i < ls.length ∧ i ∉ sel ∧ ls[i]? = some l ∧ cl[i]? = some d) ∨ ∃ j, ((sel.map fun k => (ls[k]?).getD 0) ++ ext)[j]? = some l ∧ cl'[j]? = some d ∧ ((i < ls.length ∧ sel[j]? = some i) ∨ (ls.length ≤ i ∧ j = sel.length + (i - ls.length))) := fun {i l d} e1 e2 => by
    by_cases hi : i < ls.length
    · rw [List.getElem?_append_left hi] at e1
      have hi' : i < (putBack sel cl' cl).length := by have := c.len; omega
      rw [List.getElem?_append_left hi'] at e2
      by_cases hs : i ∈ sel
      · obtain ⟨j, hj, ej⟩ := List.getElem_of_mem hs
        have ek : sel[j]? = some i := by rw [List.getElem?_eq_getElem hj, ej]
        obtain ⟨l', f1, f2⟩ := lget ek
        rw [e1] at f1
        cases f1
        have hj2 : j < cl'.length := by omega
        have e3 := putBack_in sel cl' cl nd j i cl'[j] ek (List.getElem?_eq_getElem hj2) (by have := c.len; omega)
        rw [e2] at e3
        cases e3
        refine .inr ⟨j, ?_, List.getElem?_eq_getElem hj2, .inl ⟨hi, ek⟩⟩
        rw [List.getElem?_append_left (by omega)]
        exact f2
      · rw [putBack_out sel cl' cl i hs] at e2
        exact .inl ⟨hi, hs, e1, e2⟩
    · rw [List.getElem?_append_right (by omega)] at e1
      rw [List.getElem?_append_right (by have := c.len; omega), List.getElem?_drop, clen, ← c.len] at e2
      refine .inr ⟨sel.length + (i - ls.length), ?_, e2, .inr ⟨by omega, rfl⟩⟩
      rw [List.getElem?_append_right (by omega), lsl, Nat.add_sub_cancel_left]
      exact e1
  have back2 : ∀ {k : Nat} {l : Addr}, ((sel.map fun k => (ls[k]?).getD 0) ++ ext)[k]? = some l → (ls ++ ext)[unmapK sel cl.length k]? = some l := fun {k l} z2 => by
    show (ls ++ ext)[if k < sel.length then sel.getD k 0 else cl.length + (k - sel.length)]? = some l
    by_cases hk : k < sel.length
    · rw [if_pos hk]
      have ek := List.getElem?_eq_getElem hk
      obtain ⟨l', f1, f2⟩ := lget ek
      rw [List.getElem?_append_left (by omega), f2] at z2
      cases z2
      have e5 : sel.getD k 0 = sel[k] := by rw [List.getD_eq_getElem?_getD, ek] <;> rfl
      rw [e5, List.getElem?_append_left (List.getElem?_eq_some_iff.mp f1).1]
      exact f1
    · rw [if_neg hk]
      rw [List.getElem?_append_right (by omega), lsl] at z2
      rw [List.getElem?_append_right (by have := c.len; omega), ← c.len, Nat.add_sub_cancel_left]
      exact z2
  have c3 : Core K A B (ls ++ ext) sl (putBack sel cl' cl ++ cl'.drop sel.length) ((v, unmap sel cl.length r) :: τ) σ H' G2 := by
    refine ⟨c.exA.trans c2.exA, c2.exG, fun b o e => c2.exB _ _ (keepB e), fun b o e => c2.ban _ _ (keepB e), fun i l d e1 e2 hd => ?_, fun i j l d d' e1 e2 e3 e4 hd hd' => ?_, ?_, fun i l d e1 e2 => ?_, c.slen, fun i sd e hn => ?_, fun p hp => ?_⟩
    · rcases place e1 e2 with ⟨_, _, f1, f2⟩ | ⟨j, f1, f2, _⟩
      · exact c.banc i l d f1 f2 hd
      · have z := c2.banc j l d f1 f2 hd
        cases hB : B l with
        | none => rfl
        | some o => rw [keepB hB] at z; cases z
    · rcases place e1 e3 with ⟨_, n1, f1, f2⟩ | ⟨p, f1, f2, w1⟩ <;> rcases place e2 e4 with ⟨_, n2, g1, g2⟩ | ⟨q, g1, g2, w2⟩
      · exact c.inj i j l d d' f1 g1 f2 g2 hd hd'
      · have z := c2.banc q l d' g1 g2 hd'
        have hh := hidH (b := l) ⟨i, d, f1, f2, hd, n1⟩
        obtain ⟨_, o, e⟩ := hidG (b := l) ⟨i, d, f1, f2, hd, n1⟩
        rw [hh.1, e] at z
        cases z
      · have z := c2.banc p l d f1 f2 hd
        have hh := hidH (b := l) ⟨j, d', g1, g2, hd', n2⟩
        obtain ⟨_, o, e⟩ := hidG (b := l) ⟨j, d', g1, g2, hd', n2⟩
        rw [hh.1, e] at z
        cases z
      · have z := c2.inj p q l d d' f1 g1 f2 g2 hd hd'
        subst z
        rcases w1 with ⟨a1, a2⟩ | ⟨a1, a2⟩ <;> rcases w2 with ⟨b1, b2⟩ | ⟨b1, b2⟩
        · rw [a2] at b2; exact Option.some.inj b2
        · have := (List.getElem?_eq_some_iff.mp a2).1; omega
        · have := (List.getElem?_eq_some_iff.mp b2).1; omega
        · omega
    · rw [List.length_append, List.length_append, clen, List.length_drop, c.len]
      omega
    · rcases place e1 e2 with ⟨_, n1, f1, f2⟩ | ⟨j, f1, f2, _⟩
      · by_cases hd : d.live
        · have hh := hidH (b := l) ⟨i, d, f1, f2, hd, n1⟩
          have g := hidG (b := l) ⟨i, d, f1, f2, hd, n1⟩
          exact (c.cells i l d f1 f2).mono c2.exA hh.2.1 (hh.2.2.trans g.1.symm)
        · exact .of_dead hd
      · exact c2.cells j l d f1 f2
    · obtain ⟨v, a, b⟩ := c.slots i sd e hn
      exact ⟨v, a, b.mono c2.exA (List.prefix_append _ _)⟩
    · rcases List.mem_cons.mp hp with z | z
      · rw [z]
        have ok := c2.tmp (v, r) List.mem_cons_self
        cases r with
        | unk => trivial
        | dat d => exact ok
        | scr ns => exact ok
        | adr a => exact ok
        | own k =>
          obtain ⟨l, z1, z2⟩ := ok
          have eu : unmap sel cl.length (.own k) = .own (unmapK sel cl.length k) := by
            unfold unmapK
            show (if k < sel.length then SD.own (sel.getD k 0) else SD.own (cl.length + (k - sel.length))) = _
            split <;> rfl
          rw [eu]
          exact ⟨l, z1, back2 z2⟩
        | tup is =>
          obtain ⟨a, vs, z1, z2, z3⟩ := ok
          refine ⟨a, vs, z1, z2, ?_⟩
          have go : ∀ {vs : List V} {is : List TI1}, Paired (ItmOk K G2 ((sel.map fun k => (ls[k]?).getD 0) ++ ext)) vs is → Paired (ItmOk K G2 (ls ++ ext)) vs (is.map (unmapI sel cl.length)) := fun {vs is} h => by
            induction h with
            | nil => exact .nil
            | @cons v i vs is h _ ih =>
              refine .cons ?_ ih
              cases i with
              | d x => exact h
              | o k =>
                obtain ⟨l, y1, y2⟩ := h
                exact ⟨l, y1, back2 y2⟩
          exact go z3
      · exact (c.tmp p z).mono c2.exA (List.prefix_append _ _)
  exact ⟨_, List.prefix_append _ _, c3.sta⟩
theorem run_call {P : Pr} {vs : List V} {rs : List SD} {Q : VK} {E : XK} {sel : List Nat} (s : Sta K A B ls sl cl τ σ H) (hl : vs.length = rs.length) (hm : ∀ p ∈ vs.zip rs, p ∈ τ) (h : CallOk P rs sl cl sel Φ)
    (k : ∀ v H' r cl' ls', ls <+: ls' → Φ r cl' → Sta K A B ls' sl cl' ((v, r) :: τ) σ H' → Q v H') : spS K P vs H Q E := by
  obtain ⟨nd, hb, as, ea, hP⟩ := h
  obtain ⟨A1, B1, ls1, s1, back⟩ := call_core s hl hm nd hb ea
  refine ⟨A1, B1, ls1, as, pick sel cl, _, hP, s1, fun v H' r cl' ls' pre hΦ s' => ?_⟩
  obtain ⟨ls2, p2, s2⟩ := back v H' r cl' ls' pre hΦ.1 s'
  exact k v H' _ _ ls2 p2 hΦ.2 s2
theorem wp_call {P : Pr} {E : XK} (sel : List Nat) (h : WpA K tr sl cl fun rs cl1 => CallOk P rs sl cl1 sel Φ) : Wp K (tCall (spS K P) [] E tr) sl cl Φ := by
  intro A B ls τ σ H s Q k
  refine h A B ls τ σ H s _ fun vs H1 rs cl1 ls1 e1 h1 hl s1 => ?_
  show spS K P (vs ++ []) H1 Q E
  rw [List.append_nil]
  exact run_call s1 hl (fun p hp => List.mem_append_left _ hp) h1 fun v H' r cl' ls' e2 f s2 => k v H' r cl' ls' (e1.trans e2) f (s2.sub fun p hp => by
    rcases List.mem_cons.mp hp with z | z
    · rw [z]; exact List.mem_cons_self
    · exact List.mem_cons_of_mem _ (List.mem_append_right _ z))
theorem wp_call0 {P : Pr} {E : XK} (sel : List Nat) (h : CallOk P [] sl cl sel Φ) : Wp K (tCall (spS K P) [] E tNil) sl cl Φ := wp_call sel (wa_nil h)
end
end Sy
end

section
namespace Sy
open PySem L2 Evl
section
variable {K : PySem.W.Frag} {A B G G' H H' : Hp} {ls ls' : List Addr} {sl sl' : List SD} {cl cl' : List Cell} {τ τ' : List (V × SD)} {σ σ' : St} {v x y : V} {r r1 r2 : SD}
variable {te ta tb : TE} {t u : TT} {tr : TA} {Φ : SD → List Cell → Prop}
/-- other slots, temporaries, and a part of the cells -/
theorem Core.part (c : Core K A B ls sl cl τ σ H G) (φ : Nat → Nat) (hi : ∀ i j, i < ls'.length → j < ls'.length → φ i = φ j → i = j) (hl : ∀ i, i < ls'.length → ls'[i]? = ls[φ i]?) (hc : ∀ i, i < ls'.length → cl'[i]? = cl[φ i]?) (len : ls'.length = cl'.length)
    (slen : sl'.length = σ'.length) (hs : ∀ (i : Nat) (sd : SD), sl'[i]? = some sd → sd ≠ .unk → ∃ v, σ'[i]? = some (some v) ∧ ValOk K G ls' v sd) (ht : ∀ p ∈ τ', ValOk K G ls' p.1 p.2) : Core K A B ls' sl' cl' τ' σ' H G := by
  have lt : ∀ {i : Nat} {l : Addr}, ls'[i]? = some l → i < ls'.length := fun {i l} e => (List.getElem?_eq_some_iff.mp e).1
  refine ⟨c.exA, c.exG, c.exB, c.ban, fun i l d e1 e2 hd => ?_, fun i j l d d' e1 e2 e3 e4 hd hd' => ?_, len, fun i l d e1 e2 => ?_, slen, hs, ht⟩
  · have q := lt e1
    exact c.banc (φ i) l d (by rw [← hl i q]; exact e1) (by rw [← hc i q]; exact e2) hd
  · have q1 := lt e1
    have q2 := lt e2
    exact hi i j q1 q2 (c.inj (φ i) (φ j) l d d' (by rw [← hl i q1]; exact e1) (by rw [← hl j q2]; exact e2) (by rw [← hc i q1]; exact e3) (by rw [← hc j q2]; exact e4) hd hd')
  · have q := lt e1
    exact c.cells (φ i) l d (by rw [← hl i q]; exact e1) (by rw [← hc i q]; exact e2)
theorem take_get {α : Type} {l : List α} {m i : Nat} (h : i < m) : (l.take m)[i]? = l[i]? := by rw [List.getElem?_take, if_pos h]
theorem pre_get {l l' : List Addr} (p : l <+: l') {i : Nat} (h : i < l.length) : l[i]? = l'[i]? := by
  obtain ⟨t, rfl⟩ := p
  rw [List.getElem?_append_left h]
/-- the cells of an earlier list -/
theorem Core.cut {ls0 : List Addr} (c : Core K A B ls sl cl τ σ H G) (p : ls0 <+: ls) (slen : sl'.length = σ'.length) (hs : ∀ (i : Nat) (sd : SD), sl'[i]? = some sd → sd ≠ .unk → ∃ v, σ'[i]? = some (some v) ∧ ValOk K G ls0 v sd) (ht : ∀ p ∈ τ', ValOk K G ls0 p.1 p.2) :
    Core K A B ls0 sl' (cl.take ls0.length) τ' σ' H G :=
  c.part (fun i => i) (fun i j _ _ e => e) (fun i h => pre_get p h) (fun i h => take_get h) (by rw [List.length_take]; have := p.length_le; have := c.len; omega) slen hs ht
theorem Core.cut1 {ls0 : List Addr} {k : Nat} {l : Addr} {d : Cell} (c : Core K A B ls sl cl τ σ H G) (p : ls0 <+: ls) (hk : ls0.length ≤ k) (e1 : ls[k]? = some l) (e2 : cl[k]? = some d) (slen : sl'.length = σ'.length)
    (hs : ∀ (i : Nat) (sd : SD), sl'[i]? = some sd → sd ≠ .unk → ∃ v, σ'[i]? = some (some v) ∧ ValOk K G (ls0 ++ [l]) v sd) (ht : ∀ p ∈ τ', ValOk K G (ls0 ++ [l]) p.1 p.2) :
    Core K A B (ls0 ++ [l]) sl' (cl.take ls0.length ++ [d]) τ' σ' H G := by
  have hm : (cl.take ls0.length).length = ls0.length := by rw [List.length_take]; have := p.length_le; have := c.len; omega
  have two : ∀ i, i < (ls0 ++ [l]).length → i < ls0.length ∨ i = ls0.length := fun i h => by rw [List.length_append] at h; simp at h; omega
  refine c.part (fun i => if i < ls0.length then i else k) (fun i j h1 h2 e => ?_) (fun i h => ?_) (fun i h => ?_) (by rw [List.length_append, List.length_append, hm] <;> rfl) slen hs ht
  · rcases two i h1 with a | a <;> rcases two j h2 with b | b
    · simp only [if_pos a, if_pos b] at e; exact e
    · simp only [if_pos a, b, Nat.lt_irrefl, if_false] at e; omega
    · simp only [if_pos b, a, Nat.lt_irrefl, if_false] at e; omega
    · omega
  · rcases two i h with a | a
    · rw [if_pos a, List.getElem?_append_left a]; exact pre_get p a
    · rw [a, if_neg (Nat.lt_irrefl _), List.getElem?_append_right (Nat.le_refl _), Nat.sub_self, e1] <;> rfl
  · rcases two i h with a | a
    · rw [if_pos a, List.getElem?_append_left (by omega)]; exact take_get a
    · rw [a, if_neg (Nat.lt_irrefl _), List.getElem?_append_right (by omega), hm, Nat.sub_self, e2] <;> rfl
/-- a value's bound: its cell is one of these -/
theorem ItmOk.cut {ls0 : List Addr} {i : TI1} (p : ls0 <+: ls) (hb : ∀ k ∈ i.refs, k < ls0.length) (h : ItmOk K G ls v i) : ItmOk K G ls0 v i := by
  cases i with
  | d x => exact h
  | o k =>
    obtain ⟨l, e1, e2⟩ := h
    exact ⟨l, e1, by rw [pre_get p (hb k List.mem_cons_self)]; exact e2⟩
theorem ItmOk.cuts {ls0 : List Addr} (p : ls0 <+: ls) : ∀ {vs : List V} {is : List TI1}, (∀ k ∈ is.flatMap TI1.refs, k < ls0.length) → Paired (ItmOk K G ls) vs is → Paired (ItmOk K G ls0) vs is
  | _, _, _, .nil => .nil
  | _, _, hb, .cons h t => .cons (h.cut p fun k hk => hb k (List.mem_flatMap.mpr ⟨_, List.mem_cons_self, hk⟩)) (ItmOk.cuts p (fun k hk => hb k (by
      obtain ⟨i, hi, hk⟩ := List.mem_flatMap.mp hk
      exact List.mem_flatMap.mpr ⟨i, List.mem_cons_of_mem _ hi, hk⟩)) t)
theorem ValOk.cut {ls0 : List Addr} (p : ls0 <+: ls) (hb : ∀ k ∈ r.refs, k < ls0.length) (h : ValOk K G ls v r) : ValOk K G ls0 v r := by
  cases r with
  | unk => trivial
  | dat d => exact h
  | scr ns => exact h
  | adr a => exact h
  | own k =>
    obtain ⟨l, e1, e2⟩ := h
    exact ⟨l, e1, by rw [pre_get p (hb k List.mem_cons_self)]; exact e2⟩
  | tup is =>
    obtain ⟨a, vs, e1, e2, e3⟩ := h
    exact ⟨a, vs, e1, e2, ItmOk.cuts p hb e3⟩
theorem ValOk.refs (h : ValOk K G ls v r) : ∀ k ∈ r.refs, k < ls.length := by
  cases r with
  | own j =>
    intro k hk
    cases List.mem_singleton.mp (show k ∈ [j] from hk)
    obtain ⟨l, _, e⟩ := h
    exact (List.getElem?_eq_some_iff.mp e).1
  | tup is =>
    obtain ⟨a, vs, _, _, e3⟩ := h
    have go : ∀ {vs : List V} {is : List TI1}, Paired (ItmOk K G ls) vs is → ∀ k ∈ is.flatMap TI1.refs, k < ls.length := fun {vs is} h => by
      induction h with
      | nil => intro k hk; cases hk
      | @cons v i vs is h _ ih =>
        intro k hk
        rw [List.flatMap_cons] at hk
        rcases List.mem_append.mp hk with z | z
        · cases i with
          | d x => cases z
          | o j =>
            cases List.mem_singleton.mp (show k ∈ [j] from z)
            obtain ⟨l, _, e⟩ := h
            exact (List.getElem?_eq_some_iff.mp e).1
        · exact ih k z
    exact go e3
  | _ => intro k hk; cases hk
theorem ValOk.lt {k : Nat} (h : ValOk K G ls v (.own k)) : k < ls.length := by
  obtain ⟨l, _, e⟩ := h
  exact (List.getElem?_eq_some_iff.mp e).1

/-! ### statements -/
structure SE where
  nx : List SD → List Cell → Prop
  rt : SD → List Cell → Prop := fun _ _ => False
  bk : List SD → List Cell → Prop := fun _ _ => False
  ct : List SD → List Cell → Prop := fun _ _ => False
def EO (K : PySem.W.Frag) (A B : Hp) (ls : List Addr) (τ : List (V × SD)) (P : List SD → List Cell → Prop) (Q : St → Hp → Prop) : Prop :=
  ∀ σ' H' sl' cl' ls', ls <+: ls' → P sl' cl' → Sta K A B ls' sl' cl' τ σ' H' → Q σ' H'
structure EndsOk (K : PySem.W.Frag) (A B : Hp) (ls : List Addr) (τ : List (V × SD)) (D : Ends) (E : SE) : Prop where
  nx : EO K A B ls τ E.nx D.nx
  rt : ∀ v H' r sl' cl' σ' ls', ls <+: ls' → E.rt r cl' → Sta K A B ls' sl' cl' ((v, r) :: τ) σ' H' → D.rt v H'
  bk : EO K A B ls τ E.bk D.bk
  ct : EO K A B ls τ E.ct D.ct
def WpS (K : PySem.W.Frag) (t : TS) (sl : List SD) (cl : List Cell) (E : SE) : Prop :=
  ∀ A B ls τ σ H D, Sta K A B ls sl cl τ σ H → EndsOk K A B ls τ D E → t D σ H
variable {E : SE} {ts tu : TS} {g : TG} {i j : Nat}
theorem EO.pre {P : List SD → List Cell → Prop} {Q : St → Hp → Prop} (h : EO K A B ls τ P Q) (p : ls <+: ls') : EO K A B ls' τ P Q := fun σ' H' sl' cl' l2 e f s => h σ' H' sl' cl' l2 (p.trans e) f s
theorem EndsOk.pre {D : Ends} (h : EndsOk K A B ls τ D E) (p : ls <+: ls') : EndsOk K A B ls' τ D E :=
  ⟨h.nx.pre p, fun v H' r sl' cl' σ' l2 e f s => h.rt v H' r sl' cl' σ' l2 (p.trans e) f s, h.bk.pre p, h.ct.pre p⟩
theorem ws_seq (h : WpS K ts sl cl { E with nx := fun sl1 cl1 => WpS K tu sl1 cl1 E }) : WpS K (tSeq ts tu) sl cl E := by
  intro A B ls τ σ H D s e
  refine h A B ls τ σ H { D with nx := tu D } s ⟨fun σ' H' sl' cl' ls' p f s' => ?_, e.rt, e.bk, e.ct⟩
  exact f A B ls' τ σ' H' D s' (e.pre p)
theorem ws_next (q : E.nx sl cl) : WpS K tNext sl cl E := fun A B ls τ σ H D s e => e.nx σ H sl cl ls (List.prefix_refl _) q s
theorem ws_brk (q : E.bk sl cl) : WpS K tBreak sl cl E := fun A B ls τ σ H D s e => e.bk σ H sl cl ls (List.prefix_refl _) q s
theorem ws_cont (q : E.ct sl cl) : WpS K tCont sl cl E := fun A B ls τ σ H D s e => e.ct σ H sl cl ls (List.prefix_refl _) q s
theorem ws_if {c : TT} (h : WpT K c sl cl fun b cl1 => if b = true then WpS K ts sl cl1 E else WpS K tu sl cl1 E) : WpS K (tIfS c ts tu) sl cl E := by
  intro A B ls τ σ H D s e
  refine h A B ls τ σ H s _ fun b H1 cl1 ls1 p f s1 => ?_
  cases b with
  | true => exact f A B ls1 τ σ H1 D s1 (e.pre p)
  | false => exact f A B ls1 τ σ H1 D s1 (e.pre p)
theorem ws_ret (h : Wp K te sl cl E.rt) : WpS K (tRet te) sl cl E := by
  intro A B ls τ σ H D s e
  exact h A B ls τ σ H s _ fun v H1 r cl1 ls1 p f s1 => e.rt v H1 r sl cl1 σ ls1 p f s1
theorem ws_retN (q : E.rt (.dat .none) cl) : WpS K tRetN sl cl E := by
  intro A B ls τ σ H D ⟨G, c⟩ e
  exact e.rt .non H (.dat .none) sl cl σ ls (List.prefix_refl _) q (c.push (r := .dat .none) .non).sta
theorem ws_drop (h : Wp K te sl cl fun _ cl1 => E.nx sl cl1) : WpS K (tDrop te) sl cl E := by
  intro A B ls τ σ H D s e
  exact h A B ls τ σ H s _ fun v H1 r cl1 ls1 p f s1 => e.nx σ H1 sl cl1 ls1 p f (s1.sub fun q hq => List.mem_cons_of_mem _ hq)
theorem ws_never (h : False) : WpS K tNever sl cl E := h.elim
/-- what a target does with what stands for r -/
def WpG (K : PySem.W.Frag) (g : TG) (r : SD) (sl : List SD) (cl : List Cell) (Ψ : List SD → Prop) : Prop :=
  ∀ A B ls τ σ H x, Sta K A B ls sl cl τ σ H → (x, r) ∈ τ → ∀ Q : St → Hp → Prop, (∀ σ' sl', Ψ sl' → Sta K A B ls sl' cl τ σ' H → Q σ' H) → g x σ H Q
def WpGs (K : PySem.W.Frag) (g : TGs) (ds : List PyData) (sl : List SD) (cl : List Cell) (Ψ : List SD → Prop) : Prop :=
  ∀ A B ls τ σ H vs, Sta K A B ls sl cl τ σ H → vs.length = ds.length → (∀ p ∈ vs.zip (ds.map .dat), p ∈ τ) → ∀ Q : St → Hp → Prop, (∀ σ' sl', Ψ sl' → Sta K A B ls sl' cl τ σ' H → Q σ' H) → g vs σ H Q
variable {Ψ : List SD → Prop}
theorem Core.setSlot (c : Core K A B ls sl cl τ σ H G) (h : (x, r) ∈ τ) : Core K A B ls (sl.set i r) cl τ (σ.set i (some x)) H G := by
  refine ⟨c.exA, c.exG, c.exB, c.ban, c.banc, c.inj, c.len, c.cells, by rw [List.length_set, List.length_set]; exact c.slen, fun j sd e hn => ?_, c.tmp⟩
  by_cases hj : i = j
  · subst hj
    have hi : i < sl.length := by
      have z := (List.getElem?_eq_some_iff.mp e).1
      rw [List.length_set] at z; exact z
    rw [List.getElem?_set_self hi] at e
    cases e
    exact ⟨x, by rw [List.getElem?_set_self (c.slen ▸ hi)], c.tmp _ h⟩
  · rw [List.getElem?_set_ne hj] at e
    obtain ⟨v, a, b⟩ := c.slots j sd e hn
    exact ⟨v, by rw [List.getElem?_set_ne hj]; exact a, b⟩
theorem wg_name (q : Ψ (sl.set i r)) : WpG K (gName i) r sl cl Ψ := by
  intro A B ls τ σ H x ⟨G, c⟩ h Q k
  exact k _ _ q (c.setSlot h).sta
theorem wgs_nil (q : Ψ sl) : WpGs K gNil [] sl cl Ψ := by
  intro A B ls τ σ H vs s hl hm Q k
  exact ⟨List.length_eq_zero_iff.mp hl, k σ sl q s⟩
theorem wgs_cons {d : PyData} {ds : List PyData} {gs : TGs} (h : WpG K g (.dat d) sl cl fun sl1 => WpGs K gs ds sl1 cl Ψ) : WpGs K (gCons g gs) (d :: ds) sl cl Ψ := by
  intro A B ls τ σ H vs s hl hm Q k
  match vs, hl with
  | v :: vs, hl =>
    refine ⟨v, vs, rfl, ?_⟩
    refine h A B ls τ σ H v s (hm _ List.mem_cons_self) _ fun σ1 sl1 f s1 => ?_
    exact f A B ls τ σ1 H vs s1 (Nat.succ.inj hl) (fun p hp => hm p (List.mem_cons_of_mem _ hp)) Q k
theorem zip_rp {vs : List V} {ds : List PyData} (h : RpAll K G vs ds) : ∀ p ∈ vs.zip (ds.map SD.dat), ValOk K G ls p.1 p.2 := by
  induction vs generalizing ds with
  | nil => intro p hp; simp at hp
  | cons v vs ih =>
    cases h with
    | cons h0 r =>
      intro p hp
      rcases List.mem_cons.mp hp with z | z
      · rw [z]; exact h0
      · exact ih r p z
theorem wg_tup {n : Nat} {gs : TGs} {ds : List PyData} (e : r = .dat (.tuple ds)) (hn : ds.length = n) (h : WpGs K gs ds sl cl Ψ) : WpG K (gTup K n gs) r sl cl Ψ := by
  intro A B ls τ σ H x ⟨G, c⟩ hm Q k
  subst e
  have ok := c.dat hm
  cases ok with
  | @tup a vs _ e1 e2 =>
    refine ⟨a, vs, rfl, ex_t c.exG e1, by rw [e2.length]; exact hn, ?_⟩
    have c' : Core K A B ls sl cl (vs.zip (ds.map .dat) ++ τ) σ H G := c.tmps fun p hp => by
      rcases List.mem_append.mp hp with z | z
      · exact zip_rp e2 p z
      · exact c.tmp p z
    exact h A B ls _ σ H vs c'.sta e2.length (fun p hp => List.mem_append_left _ hp) Q fun σ' sl' f s => k σ' sl' f (s.sub fun p hp => List.mem_append_right _ hp)
theorem ws_asg (h : Wp K te sl cl fun r cl1 => WpG K g r sl cl1 fun sl1 => E.nx sl1 cl1) : WpS K (tAsg te g) sl cl E := by
  intro A B ls τ σ H D s e
  refine h A B ls τ σ H s _ fun v H1 r cl1 ls1 p f s1 => ?_
  exact f A B ls1 _ σ H1 v s1 List.mem_cons_self _ fun σ' sl' q s2 => e.nx σ' H1 sl' cl1 ls1 p q (s2.sub fun q hq => List.mem_cons_of_mem _ hq)
theorem ws_par (h : WpA K tr sl cl fun rs cl1 => ∃ r1 r2, rs = [r1, r2] ∧ E.nx ((sl.set i r1).set j r2) cl1) : WpS K (tPar i j tr) sl cl E := by
  intro A B ls τ σ H D s e
  refine h A B ls τ σ H s _ fun vs H1 rs cl1 ls1 p f hl s1 => ?_
  obtain ⟨r1, r2, rfl, q⟩ := f
  match vs, hl with
  | [v, w], _ =>
    refine ⟨v, w, rfl, ?_⟩
    obtain ⟨G, c⟩ := s1
    have c1 := c.setSlot (i := i) (x := v) (r := r1) List.mem_cons_self
    have c2 := c1.setSlot (i := j) (x := w) (r := r2) (List.mem_cons_of_mem _ List.mem_cons_self)
    exact e.nx _ H1 _ cl1 ls1 p q (c2.sta.sub fun q hq => List.mem_cons_of_mem _ (List.mem_cons_of_mem _ hq))
theorem ws_aug {f : Int → Int → Int} {a : Int} (hx : sl[i]? = some (.dat (.int a))) (h : Wp K te sl cl fun r cl1 => ∃ b, r = .dat (.int b) ∧ E.nx (sl.set i (.dat (.int (f a b)))) cl1) : WpS K (tAug i te (ipI f)) sl cl E := by
  intro A B ls τ σ H D ⟨G, c⟩ e
  obtain ⟨v, e1, ok⟩ := c.slots i _ hx (by intro z; cases z)
  have ok' : Rp K G v (.int a) := ok
  cases ok'
  refine ⟨_, e1, ?_⟩
  refine h A B ls τ σ H c.sta _ fun v H1 r cl1 ls1 p q s1 => ?_
  obtain ⟨b, rfl, q⟩ := q
  obtain ⟨G1, c1⟩ := s1
  cases c1.dat (d := .int b) List.mem_cons_self
  have c2 := (c1.push (v := .int (f a b)) (r := .dat (.int (f a b))) (.int _)).setSlot (i := i) (x := .int (f a b)) (r := .dat (.int (f a b))) List.mem_cons_self
  exact ⟨a, b, rfl, rfl, e.nx _ H1 _ cl1 ls1 p q (c2.sta.sub fun q hq => List.mem_cons_of_mem _ (List.mem_cons_of_mem _ hq))⟩
/-- xs.append(e) -/
theorem wp_app (h : Wp K ta sl cl fun ro cl1 => ∃ k, ro = .own k ∧ (∃ ds, cl1[k]? = some (.lst ds)) ∧ Wp K te sl cl1 fun r cl2 => ∃ d ds, r = .dat d ∧ cl2[k]? = some (.lst ds) ∧ ds.length < 100000 ∧ Φ (.dat .none) (cl2.set k (.lst (ds ++ [d])))) :
    Wp K (tBM K "list" rAppend ta (tCons te tNil)) sl cl Φ := by
  intro A B ls τ σ H s Q k
  refine h A B ls τ σ H s _ fun vo H1 ro cl1 ls1 p1 f1 s1 => ?_
  obtain ⟨k0, rfl, ⟨ds0, hd0⟩, f1⟩ := f1
  obtain ⟨G1, c1⟩ := s1
  obtain ⟨l, rfl, e1⟩ := c1.tmp _ List.mem_cons_self
  obtain ⟨_, vs0, e2, _⟩ := c1.cells k0 l _ e1 hd0
  refine ⟨.inl ⟨rfl, vs0, SqL.of e2⟩, ?_⟩
  refine f1 A B ls1 _ σ H1 c1.sta _ fun v H2 r cl2 ls2 p2 f2 s2 => ?_
  obtain ⟨d, ds, rfl, hd, hz, q⟩ := f2
  obtain ⟨G2, c2⟩ := s2
  have e3 : ls2[k0]? = some l := by
    obtain ⟨t, rfl⟩ := p2
    rw [List.getElem?_append_left (List.getElem?_eq_some_iff.mp e1).1]
    exact e1
  obtain ⟨g, vs, e4, rv⟩ := c2.cells k0 l _ e3 hd
  refine ⟨l, vs, v, rfl, rfl, e4, sz_lt (by rw [rv.length]; exact hz), ?_⟩
  have rd : Rp K G2 v d := c2.tmp _ List.mem_cons_self
  have c3 := c2.mut e3 hd trivial (.lst (vs ++ [v])) (.lst (ds ++ [d])) ⟨g, _, upd_same, rv.append (.cons rd .nil)⟩
  exact k _ _ _ _ ls2 (p1.trans p2) q ((c3.push (v := .non) (r := .dat .none) .non).sta.sub fun p hp => by
    rcases List.mem_cons.mp hp with z | z
    · rw [z]; exact List.mem_cons_self
    · exact List.mem_cons_of_mem _ (List.mem_cons_of_mem _ (List.mem_cons_of_mem _ z)))
/-- xs[i] = e -/
theorem ws_setI {to ti : TE} (h : Wp K te sl cl fun r cl1 => Wp K to sl cl1 fun ro cl2 => Wp K ti sl cl2 fun ri cl3 => ∃ d k ds z j, r = .dat d ∧ ro = .own k ∧ cl3[k]? = some (.lst ds) ∧ ri = .dat (.int z) ∧ ixN ds.length z = some j ∧ E.nx sl (cl3.set k (.lst (ds.set j d)))) :
    WpS K (tAsg te (gSub to ti rSetL)) sl cl E := by
  intro A B ls τ σ H D s e
  refine h A B ls τ σ H s _ fun v H1 r cl1 ls1 p1 f1 s1 => ?_
  refine f1 A B ls1 _ σ H1 s1 _ fun vo H2 ro cl2 ls2 p2 f2 s2 => ?_
  refine f2 A B ls2 _ σ H2 s2 _ fun vi H3 ri cl3 ls3 p3 f3 s3 => ?_
  obtain ⟨d, k, ds, z, j, rfl, rfl, hd, rfl, hj, q⟩ := f3
  obtain ⟨G, c⟩ := s3
  cases c.dat (d := .int z) List.mem_cons_self
  obtain ⟨l, rfl, e1⟩ := c.tmp (vo, .own k) (List.mem_cons_of_mem _ List.mem_cons_self)
  have rd : Rp K G v d := c.dat (List.mem_cons_of_mem _ (List.mem_cons_of_mem _ List.mem_cons_self))
  obtain ⟨g, vs, e4, rv⟩ := c.cells k l _ e1 hd
  refine ⟨l, vs, z, j, rfl, rfl, e4, by rw [rv.length]; exact hj, ?_⟩
  have c3 := c.mut e1 hd trivial (.lst (vs.set j v)) (.lst (ds.set j d)) ⟨g, _, upd_same, RpAll.set rd rv j⟩
  exact e.nx _ _ sl _ ls3 ((p1.trans p2).trans p3) q (c3.sta.sub fun p hp => List.mem_cons_of_mem _ (List.mem_cons_of_mem _ (List.mem_cons_of_mem _ hp)))
/-! freezing: a cell becomes data -/
theorem Core.freeze (c : Core K A B ls sl cl τ σ H G) {k : Nat} {l : Addr} {ds : List PyData} (e1 : ls[k]? = some l) (e2 : cl[k]? = some (.lst ds)) : ∃ G', Ex G G' ∧ Core K A B ls sl (cl.set k .dead) τ σ H G' ∧ Rp K G' (.ref l) (.list ds) := by
  obtain ⟨g, vs, h1, h2⟩ := c.cells k l _ e1 e2
  have eG : Ex G (upd G l (.lst vs)) := Ex.new g
  have hk : k < cl.length := (List.getElem?_eq_some_iff.mp e2).1
  have old : ∀ {i : Nat} {d : Cell}, (cl.set k .dead)[i]? = some d → d.live → i ≠ k ∧ cl[i]? = some d := fun {i d} e hd => by
    by_cases hi : i = k
    · subst hi
      rw [List.getElem?_set_self hk] at e
      cases e
      exact hd.elim
    · rw [List.getElem?_set_ne (fun z => hi z.symm)] at e
      exact ⟨hi, e⟩
  refine ⟨upd G l (.lst vs), eG, ⟨c.exA.trans eG, fun b o e => ?_, c.exB, fun b o e => ?_, fun i m d a1 a2 hd => ?_, fun i j m d d' a1 a2 a3 a4 hd hd' => ?_, by rw [List.length_set]; exact c.len, fun i m d a1 a2 => ?_, c.slen, fun i sd a1 a2 => ?_, fun p hp => (c.tmp p hp).mono eG (List.prefix_refl _)⟩, .lst upd_same (h2.mono eG)⟩
  · by_cases hb : b = l
    · subst hb; rw [upd_same] at e; rw [← e]; exact h1
    · rw [upd_ne hb] at e; exact c.exG _ _ e
  · have hb : b ≠ l := fun z => by
      have q := c.banc k l _ e1 e2 trivial
      rw [z, q] at e; cases e
    rw [upd_ne hb]; exact c.ban _ _ e
  · obtain ⟨_, q⟩ := old a2 hd
    exact c.banc i m d a1 q hd
  · obtain ⟨_, q1⟩ := old a3 hd
    obtain ⟨_, q2⟩ := old a4 hd'
    exact c.inj i j m d d' a1 a2 q1 q2 hd hd'
  · by_cases hd : d.live
    · obtain ⟨n, q⟩ := old a2 hd
      have hb : m ≠ l := fun z => by
        subst z
        exact n (c.inj i k m d _ a1 e1 q e2 hd trivial)
      exact (c.cells i m d a1 q).mono eG rfl (upd_ne hb)
    · exact .of_dead hd
  · obtain ⟨v, a, b⟩ := c.slots i sd a1 a2
    exact ⟨v, a, b.mono eG (List.prefix_refl _)⟩
def frzI (k : Nat) (ds : List PyData) : TI1 → TI1
  | .o j => if j = k then .d (.list ds) else .o j
  | x => x
def frzD (k : Nat) (ds : List PyData) : SD → SD
  | .tup is => .tup (is.map (frzI k ds))
  | .own j => if j = k then .dat (.list ds) else .own j
  | r => r
theorem ws_frz (k : Nat) {ds : List PyData} (e2 : cl[k]? = some (.lst ds)) (h : WpS K ts (sl.map (frzD k ds)) (cl.set k .dead) E) : WpS K ts sl cl E := by
  intro A B ls τ σ H D ⟨G, c⟩ e
  have hk : k < ls.length := c.len ▸ (List.getElem?_eq_some_iff.mp e2).1
  obtain ⟨G', eG, c', rl⟩ := c.freeze (List.getElem?_eq_getElem hk) e2
  refine h A B ls τ σ H D (Core.sta (G := G') ⟨c'.exA, c'.exG, c'.exB, c'.ban, c'.banc, c'.inj, c'.len, c'.cells, by rw [List.length_map]; exact c'.slen, fun i sd a hn => ?_, c'.tmp⟩) e
  rw [List.getElem?_map] at a
  cases q : sl[i]? with
  | none => rw [q] at a; cases a
  | some sd0 =>
    rw [q] at a
    cases a
    have hn0 : sd0 ≠ .unk := fun z => by subst z; exact hn rfl
    obtain ⟨v, b1, b2⟩ := c'.slots i sd0 q hn0
    refine ⟨v, b1, ?_⟩
    cases sd0 with
    | own j =>
      by_cases hj : j = k
      · subst hj
        obtain ⟨l, rfl, z⟩ := b2
        rw [List.getElem?_eq_getElem hk] at z
        cases z
        show ValOk K G' ls _ (if j = j then _ else _)
        rw [if_pos rfl]
        exact rl
      · show ValOk K G' ls _ (if j = k then _ else _)
        rw [if_neg hj]
        exact b2
    | tup is =>
      obtain ⟨a, vs, z1, z2, z3⟩ := b2
      refine ⟨a, vs, z1, z2, ?_⟩
      have go : ∀ {vs : List V} {is : List TI1}, Paired (ItmOk K G' ls) vs is → Paired (ItmOk K G' ls) vs (is.map (frzI k ds)) := fun {vs is} h => by
        induction h with
        | nil => exact .nil
        | @cons v i vs is y0 _ ih =>
          refine .cons ?_ ih
          cases i with
          | d x => exact y0
          | o j =>
            by_cases hj : j = k
            · subst hj
              obtain ⟨l, rfl, z⟩ := y0
              rw [List.getElem?_eq_getElem hk] at z
              cases z
              show ItmOk K G' ls _ (if j = j then _ else _)
              rw [if_pos rfl]
              exact rl
            · show ItmOk K G' ls _ (if j = k then _ else _)
              rw [if_neg hj]
              exact y0
      exact go z3
    | _ => exact b2
theorem wp_frz (h : Wp K te sl cl fun r cl1 => ∃ k ds, r = .own k ∧ cl1[k]? = some (.lst ds) ∧ Φ (.dat (.list ds)) (cl1.set k .dead)) : Wp K te sl cl Φ := by
  intro A B ls τ σ H s Q k
  refine h A B ls τ σ H s _ fun v H1 r cl1 ls1 p f s1 => ?_
  obtain ⟨k0, ds, rfl, e2, q⟩ := f
  obtain ⟨G, c⟩ := s1
  obtain ⟨l, rfl, e1⟩ := c.tmp _ List.mem_cons_self
  obtain ⟨G', eG, c', rl⟩ := c.freeze e1 e2
  exact k _ H1 _ _ ls1 p q (c'.pop.push (r := .dat (.list ds)) rl).sta

/-! ### a def keeps its promise -/
def mvI (k m : Nat) : TI1 → TI1
  | .o j => if j = k then .o m else .o j
  | x => x
def retOk (m : Nat) (r : SD) (cl : List Cell) (Φ : SD → List Cell → Prop) : Prop := match r with
  | .own k => if k < m then Φ (.own k) (cl.take m) else ∃ c, cl[k]? = some c ∧ Φ (.own m) (cl.take m ++ [c])
  | .tup is => (∀ k ∈ is.flatMap TI1.refs, k < m) ∧ Φ (.tup is) (cl.take m) ∨ ∃ k c, m ≤ k ∧ cl[k]? = some c ∧ (∀ j ∈ is.flatMap TI1.refs, j = k ∨ j < m) ∧ Φ (.tup (is.map (mvI k m))) (cl.take m ++ [c])
  | r => Φ r (cl.take m)
def endsF (m : Nat) (Φ : SD → List Cell → Prop) : SE := { nx := fun _ cl => Φ (.dat .none) (cl.take m), rt := fun r cl => retOk m r cl Φ }
theorem start_core {as : List SD} {N ps : List Str} {vs : List V} (ha : as.length = ps.length) (c : Core K A B ls as cl [] (vs.map some) H G) : Core K A B ls (as ++ List.replicate (N.length - ps.length) .unk) cl [] (L2.start N vs) H G := by
  have hv : vs.length = as.length := by have := c.slen; rw [List.length_map] at this; exact this.symm
  refine ⟨c.exA, c.exG, c.exB, c.ban, c.banc, c.inj, c.len, c.cells, ?_, fun i sd e hn => ?_, fun p hp => by cases hp⟩
  · unfold L2.start
    rw [List.length_append, List.length_append, List.length_map, List.length_replicate, List.length_replicate, hv, ha]
  · by_cases hi : i < as.length
    · rw [List.getElem?_append_left hi] at e
      obtain ⟨v, a, b⟩ := c.slots i sd e hn
      refine ⟨v, ?_, b⟩
      unfold L2.start
      rw [List.getElem?_append_left (by rw [List.length_map, hv]; exact hi)]
      exact a
    · rw [List.getElem?_append_right (by omega)] at e
      have z := List.mem_of_getElem? e
      exact absurd (List.mem_replicate.mp z).2 hn
theorem body_ends {Q : VK} (lm : ls.length = cl.length) (k : ∀ v H' r cl' ls', ls <+: ls' → Φ r cl' → Sta K A B ls' [] cl' [(v, r)] [] H' → Q v H') : EndsOk K A B ls [] { nx := fun _ H' => Q .non H', rt := Q } (endsF cl.length Φ) := by
  refine ⟨fun σ' H' sl' cl' ls' p f ⟨G', c'⟩ => ?_, fun v H' r sl' cl' σ' ls' p f ⟨G', c'⟩ => ?_, fun σ' H' sl' cl' ls' p f s => f.elim, fun σ' H' sl' cl' ls' p f s => f.elim⟩
  · have f : Φ (.dat .none) (cl'.take cl.length) := f
    rw [← lm] at f
    refine k .non H' _ _ ls (List.prefix_refl _) f (c'.cut (sl' := []) (σ' := []) (τ' := [(.non, .dat .none)]) p rfl (fun i sd e _ => by simp at e) fun q hq => ?_).sta
    rw [List.mem_singleton.mp hq]; exact .non
  · have ok := c'.tmp _ List.mem_cons_self
    have easy : Φ r (cl'.take cl.length) → (∀ k ∈ r.refs, k < ls.length) → Q v H' := fun f hk => by
      rw [← lm] at f
      refine k v H' r _ ls (List.prefix_refl _) f (c'.cut (sl' := []) (σ' := []) (τ' := [(v, r)]) p rfl (fun i sd e _ => by simp at e) fun q hq => ?_).sta
      rw [List.mem_singleton.mp hq]
      exact ok.cut p hk
    cases r with
    | unk => exact easy f fun k e => by cases e
    | dat d => exact easy f fun k e => by cases e
    | scr ns => exact easy f fun k e => by cases e
    | adr a => exact easy f fun k e => by cases e
    | own j =>
      have f : if j < cl.length then Φ (.own j) (cl'.take cl.length) else ∃ c, cl'[j]? = some c ∧ Φ (.own cl.length) (cl'.take cl.length ++ [c]) := f
      by_cases hj : j < cl.length
      · rw [if_pos hj] at f
        exact easy f fun k e => by
          cases List.mem_singleton.mp (show k ∈ [j] from e)
          omega
      · rw [if_neg hj] at f
        obtain ⟨d, e2, f⟩ := f
        obtain ⟨l, rfl, e1⟩ := ok
        rw [← lm] at f
        refine k _ H' _ _ (ls ++ [l]) (List.prefix_append _ _) f (c'.cut1 (sl' := []) (σ' := []) (τ' := [(.ref l, .own ls.length)]) p (by omega) e1 e2 rfl (fun i sd e _ => by simp at e) fun q hq => ?_).sta
        rw [List.mem_singleton.mp hq]
        exact ⟨l, rfl, by rw [List.getElem?_append_right (Nat.le_refl _), Nat.sub_self] <;> rfl⟩
    | tup is =>
      rcases f with ⟨hk, f⟩ | ⟨j, d, hj, e2, hr, f⟩
      · exact easy f fun k hkk => by rw [lm]; exact hk k hkk
      · obtain ⟨a, vs, rfl, z2, z3⟩ := ok
        have hjl : j < ls'.length := c'.len ▸ (List.getElem?_eq_some_iff.mp e2).1
        have e1 := List.getElem?_eq_getElem hjl
        rw [← lm] at f
        refine k _ H' _ _ (ls ++ [ls'[j]]) (List.prefix_append _ _) f (c'.cut1 (sl' := []) (σ' := []) (τ' := [(.ref a, .tup (is.map (mvI j ls.length)))]) p (by omega) e1 e2 rfl (fun i sd e _ => by simp at e) fun q hq => ?_).sta
        rw [List.mem_singleton.mp hq]
        refine ⟨a, vs, rfl, z2, ?_⟩
        have go : ∀ {vs : List V} {is : List TI1}, (∀ k ∈ is.flatMap TI1.refs, k = j ∨ k < cl.length) → Paired (ItmOk K G' ls') vs is → Paired (ItmOk K G' (ls ++ [ls'[j]])) vs (is.map (mvI j ls.length)) := fun {vs is} hr h => by
          induction h with
          | nil => exact .nil
          | @cons v i vs is h _ ih =>
            refine .cons ?_ (ih fun k hk => hr k (by
              obtain ⟨i, hi, hk⟩ := List.mem_flatMap.mp hk
              exact List.mem_flatMap.mpr ⟨i, List.mem_cons_of_mem _ hi, hk⟩))
            cases i with
            | d x => exact h
            | o k =>
              obtain ⟨l, rfl, y2⟩ := h
              show ItmOk K G' (ls ++ [ls'[j]]) _ (if k = j then _ else _)
              by_cases hkj : k = j
              · subst hkj
                rw [if_pos rfl]
                rw [e1] at y2
                cases y2
                exact ⟨_, rfl, by rw [List.getElem?_append_right (Nat.le_refl _), Nat.sub_self] <;> rfl⟩
              · rw [if_neg hkj]
                have hlt : k < ls.length := by
                  rcases hr k (List.mem_flatMap.mpr ⟨_, List.mem_cons_self, List.mem_cons_self⟩) with z | z
                  · exact absurd z hkj
                  · omega
                exact ⟨l, rfl, by rw [List.getElem?_append_left hlt, pre_get p hlt]; exact y2⟩
        exact go hr z3
theorem body_ok {P : Pr} {N ps : List Str} {t : TS} {vs : List V} {Q : VK} {E : XK} (hP : ∀ as cl Φ, P as cl Φ → as.length = ps.length) (h : spS K P vs H Q E)
    (hb : ∀ as cl Φ, P as cl Φ → WpS K t (as ++ List.replicate (N.length - ps.length) .unk) cl (endsF cl.length Φ)) : t { nx := fun _ H' => Q .non H', rt := Q } (L2.start N vs) H := by
  obtain ⟨A, B, ls, as, cl, Φ, hp, ⟨G, c⟩, k⟩ := h
  exact hb as cl Φ hp A B ls [] _ H _ (start_core (hP _ _ _ hp) c).sta (body_ends c.len k)
theorem ok_of {Pg : Program} {w : World} {mg : Str → Option Value} {base : Heap} {x qual : Str} {st : Stmt} {f : Addr} {fd : FuncData} {N ps : List Str} {k : Nat} (P : Pr) (F : Fun K x qual st f fd) (S : FnScope N ps (defScope st)) (hP : ∀ as cl Φ, P as cl Φ → as.length = ps.length)
    (hbody : ∀ (cdv : Value) (A : Around) (outer : List Env) (s : Shared) (H : Hp) (E : XK), Room k (A.deeper (PyProof.Rows.envOfC qual (defScope st) s.heap.objs.size f cdv)) →
      ∃ t, PSs (cxOf CX0 Pg w K mg base N qual (defScope st) f cdv A outer s H E).nox (defBody st) t ∧ ∀ as cl Φ, P as cl Φ → WpS K t (as ++ List.replicate (N.length - ps.length) .unk) cl (endsF cl.length Φ)) : FnOk Pg w K mg base CX0 (k + 1) f fd ps (spS K P) := by
  refine F.ok S (fun vs H Q E h => ?_) (fun cdv A outer s H vs Q E hr h => ?_)
  · obtain ⟨A, B, ls, as, cl, Φ, hp, ⟨G, c⟩, _⟩ := h
    have := c.slen
    rw [List.length_map] at this
    rw [← this]
    exact hP _ _ _ hp
  · obtain ⟨t, h1, h2⟩ := hbody cdv A outer s H E hr
    exact ⟨t, h1, body_ok hP h h2⟩
end
end Sy
end

section
namespace Sy
open PySem L2 Evl
section
variable {K : PySem.W.Frag} {A B G G' H H' : Hp} {ls ls' : List Addr} {sl sl' : List SD} {cl cl' : List Cell} {τ τ' : List (V × SD)} {σ σ' : St} {v x y : V} {r r1 r2 : SD}
variable {te ta tb tl : TE} {t u tt : TT} {tr : TA} {Φ : SD → List Cell → Prop} {E : SE} {ts tu : TS} {g : TG} {i j : Nat} {wi : TI}
/-! ### what is walked -/
def ItOk (K : PySem.W.Frag) (J : It) (A : Hp) (ds : List PyData) : Prop :=
  ∀ (B : Hp) (i : Nat) ls sl cl τ σ H, Sta K A B ls sl cl τ σ H → (∀ d, ds[i]? = some d → J.go i H ∧ ∀ x H', J.yld i H x H' → Sta K A B ls sl cl ((x, .dat d) :: τ) σ H') ∧ (ds.length ≤ i → J.stop i H)
def WpI (K : PySem.W.Frag) (wi : TI) (sl : List SD) (cl : List Cell) (Φ : List PyData → List Cell → Prop) : Prop :=
  ∀ A B ls τ σ H, Sta K A B ls sl cl τ σ H → ∀ R : It → Hp → Prop, (∀ J H' A' ds cl' ls', ls <+: ls' → Φ ds cl' → Ex A A' → Sta K A' B ls' sl cl' τ σ H' → ItOk K J A' ds → R J H') → wi σ H R
theorem Sta.low {A' : Hp} (e : Ex A A') (s : Sta K A' B ls sl cl τ σ H) : Sta K A B ls sl cl τ σ H := by
  obtain ⟨G, c⟩ := s
  exact ⟨G, e.trans c.exA, c.exG, c.exB, c.ban, c.banc, c.inj, c.len, c.cells, c.slen, c.slots, c.tmp⟩
theorem Core.up (c : Core K A B ls sl cl τ σ H G) : Core K G B ls sl cl τ σ H G := ⟨Ex.refl G, c.exG, c.exB, c.ban, c.banc, c.inj, c.len, c.cells, c.slen, c.slots, c.tmp⟩
variable {Φi : List PyData → List Cell → Prop}
theorem wi_list (h : Wp K tl sl cl fun r cl1 => ∃ ds, r = .dat (.list ds) ∧ Φi ds cl1) : WpI K (iList K tl) sl cl Φi := by
  intro A B ls τ σ H s R k
  refine h A B ls τ σ H s _ fun x H1 r cl1 ls1 p f s1 => ?_
  obtain ⟨ds, rfl, q⟩ := f
  obtain ⟨G, c⟩ := s1
  have ok := c.dat List.mem_cons_self
  cases ok with
  | @lst a vs _ e1 e2 =>
    refine ⟨a, rfl, ⟨vs, SqL.of (c.exG _ _ e1)⟩, ?_⟩
    refine k (Itl K a) H1 G ds cl1 ls1 p q c.exA c.pop.up.sta fun B' i ls2 sl2 cl2 τ2 σ2 H2 ⟨G2, c2⟩ => ⟨fun d hd => ?_, fun hi => ?_⟩
    · obtain ⟨v, f1, f2⟩ := e2.get hd
      have hs : SqL K H2 a vs := SqL.of (c2.exG _ _ (c2.exA _ _ e1))
      refine ⟨⟨vs, v, hs, f1⟩, fun x H' y => ?_⟩
      obtain ⟨rfl, y⟩ := y
      have e := y vs hs
      rw [f1] at e
      cases e
      exact (c2.push (r := .dat d) (f2.mono c2.exA)).sta
    · exact ⟨vs, SqL.of (c2.exG _ _ (c2.exA _ _ e1)), by rw [e2.length]; exact hi⟩
theorem wi_tup (h : Wp K tl sl cl fun r cl1 => ∃ ds, r = .dat (.tuple ds) ∧ Φi ds cl1) : WpI K (iTup K tl) sl cl Φi := by
  intro A B ls τ σ H s R k
  refine h A B ls τ σ H s _ fun x H1 r cl1 ls1 p f s1 => ?_
  obtain ⟨ds, rfl, q⟩ := f
  obtain ⟨G, c⟩ := s1
  have ok := c.dat List.mem_cons_self
  cases ok with
  | @tup a vs _ e1 e2 =>
    refine ⟨a, rfl, ⟨vs, ex_t c.exG e1⟩, ?_⟩
    refine k (Itt K a) H1 G ds cl1 ls1 p q c.exA c.pop.up.sta fun B' i ls2 sl2 cl2 τ2 σ2 H2 ⟨G2, c2⟩ => ⟨fun d hd => ?_, fun hi => ?_⟩
    · obtain ⟨v, f1, f2⟩ := e2.get hd
      have hs : SqT K H2 a vs := ex_t c2.exG (ex_t c2.exA e1)
      refine ⟨⟨vs, v, hs, f1⟩, fun x H' y => ?_⟩
      obtain ⟨rfl, y⟩ := y
      have e := y vs hs
      rw [f1] at e
      cases e
      exact (c2.push (r := .dat d) (f2.mono c2.exA)).sta
    · exact ⟨vs, ex_t c2.exG (ex_t c2.exA e1), by rw [e2.length]; exact hi⟩
/-- lo, lo + 1, .. n of them -/
def rngD (lo : Int) (n : Nat) : List PyData := (List.range n).map fun (i : Nat) => .int (lo + (i : Int))
theorem rngD_len {lo : Int} {n : Nat} : (rngD lo n).length = n := by unfold rngD; rw [List.length_map, List.length_range]
theorem rngD_get {lo : Int} {n i : Nat} {d : PyData} (h : (rngD lo n)[i]? = some d) : i < n ∧ d = .int (lo + (i : Int)) := by
  have hi := (List.getElem?_eq_some_iff.mp h).1
  rw [rngD_len] at hi
  refine ⟨hi, ?_⟩
  unfold rngD at h
  rw [List.getElem?_map, List.getElem?_range hi] at h
  exact (Option.some.inj h).symm
theorem it_rng {lo : Int} {n : Nat} : ItOk K (Itr lo n) A (rngD lo n) := fun B' i ls2 sl2 cl2 τ2 σ2 H2 ⟨G2, c2⟩ => by
  refine ⟨fun d hd => ?_, fun hi => by rw [rngD_len] at hi; exact hi⟩
  obtain ⟨h1, rfl⟩ := rngD_get hd
  refine ⟨h1, fun x H' y => ?_⟩
  obtain ⟨rfl, rfl⟩ := y
  exact (c2.push (r := .dat (.int _)) (.int _)).sta
theorem wi_rng1 (h : WpA K tr sl cl fun rs cl1 => ∃ n : Int, rs = [.dat (.int n)] ∧ -100000 ≤ n ∧ n ≤ 100000 ∧ Φi (rngD 0 n.toNat) cl1) : WpI K (iRng1 tr) sl cl Φi := by
  intro A B ls τ σ H s R k
  refine h A B ls τ σ H s _ fun vs H1 rs cl1 ls1 p f hl s1 => ?_
  obtain ⟨n, rfl, h1, h2, q⟩ := f
  obtain ⟨G, c⟩ := s1
  obtain ⟨v, rfl, hv⟩ := one_of (P := fun p => p ∈ vs.zip [SD.dat (.int n)] ++ τ) hl fun p hp => List.mem_append_left _ hp
  cases c.dat hv
  exact ⟨n, rfl, by omega, by omega, k _ H1 A _ cl1 ls1 p q (Ex.refl A) (c.sta.sub fun p hp => List.mem_append_right _ hp) it_rng⟩
theorem wi_rng2 (h : WpA K tr sl cl fun rs cl1 => ∃ m n : Int, rs = [.dat (.int m), .dat (.int n)] ∧ -100000 ≤ m ∧ m ≤ 100000 ∧ -100000 ≤ n ∧ n ≤ 100000 ∧ Φi (rngD m (n - m).toNat) cl1) : WpI K (iRng2 tr) sl cl Φi := by
  intro A B ls τ σ H s R k
  refine h A B ls τ σ H s _ fun vs H1 rs cl1 ls1 p f hl s1 => ?_
  obtain ⟨m, n, rfl, h1, h2, h3, h4, q⟩ := f
  obtain ⟨G, c⟩ := s1
  obtain ⟨v, w, rfl, hv, hw⟩ := two_of (P := fun p => p ∈ vs.zip [SD.dat (.int m), SD.dat (.int n)] ++ τ) hl fun p hp => List.mem_append_left _ hp
  cases c.dat hv
  cases c.dat hw
  exact ⟨m, n, rfl, ⟨by omega, by omega, by omega, by omega⟩, k _ H1 A _ cl1 ls1 p q (Ex.refl A) (c.sta.sub fun p hp => List.mem_append_right _ hp) it_rng⟩
/-- hi - 1, .., lo -/
def rvD (lo : Int) (n : Nat) : List PyData := (List.range n).map fun (i : Nat) => .int (lo + ((n : Int) - 1 - (i : Int)))
theorem it_rv {lo : Int} {n : Nat} : ItOk K (Itc (lo + (n : Int) - 1) (-1) n) A (rvD lo n) := fun B' i ls2 sl2 cl2 τ2 σ2 H2 ⟨G2, c2⟩ => by
  have hl : (rvD lo n).length = n := by unfold rvD; rw [List.length_map, List.length_range]
  refine ⟨fun d hd => ?_, fun hi => by rw [hl] at hi; exact hi⟩
  have hi := (List.getElem?_eq_some_iff.mp hd).1
  rw [hl] at hi
  unfold rvD at hd
  rw [List.getElem?_map, List.getElem?_range hi] at hd
  cases hd
  refine ⟨hi, fun x H' y => ?_⟩
  obtain ⟨rfl, rfl⟩ := y
  have e : lo + (n : Int) - 1 + (i : Int) * -1 = lo + ((n : Int) - 1 - (i : Int)) := by omega
  rw [e]
  exact (c2.push (r := .dat (.int _)) (.int _)).sta
/-- (0, x), (1, y), .. -/
def enumD (ds : List PyData) : List PyData := ds.mapIdx fun i d => .tuple [.int (i : Int), d]
theorem wi_enum (h : WpA K tr sl cl fun rs cl1 => ∃ ds, rs = [.dat (.list ds)] ∧ Φi (enumD ds) cl1) : WpI K (iEnum K tr) sl cl Φi := by
  intro A B ls τ σ H s R k
  refine h A B ls τ σ H s _ fun vs H1 rs cl1 ls1 p f hl s1 => ?_
  obtain ⟨ds, rfl, q⟩ := f
  obtain ⟨G, c⟩ := s1
  obtain ⟨v, rfl, hv⟩ := one_of (P := fun p => p ∈ vs.zip [SD.dat (.list ds)] ++ τ) hl fun p hp => List.mem_append_left _ hp
  have ok := c.dat hv
  cases ok with
  | @lst a ws _ e1 e2 =>
    have hlen : (enumD ds).length = ds.length := by unfold enumD; rw [List.length_mapIdx]
    refine ⟨a, ws, rfl, SqL.of (c.exG _ _ e1), ?_⟩
    refine k (Ite K a) H1 G _ cl1 ls1 p q c.exA (c.up.sta.sub fun p hp => List.mem_append_right _ hp) fun B' i ls2 sl2 cl2 τ2 σ2 H2 ⟨G2, c2⟩ => ⟨fun d hd => ?_, fun hi => ?_⟩
    · have hi : i < ds.length := by
        have z := (List.getElem?_eq_some_iff.mp hd).1
        omega
      unfold enumD at hd
      rw [List.getElem?_mapIdx, List.getElem?_eq_getElem hi] at hd
      cases hd
      obtain ⟨v, f1, f2⟩ := e2.get (List.getElem?_eq_getElem hi)
      have hs : SqL K H2 a ws := SqL.of (c2.exG _ _ (c2.exA _ _ e1))
      refine ⟨⟨ws, v, hs, f1⟩, fun x H' y => ?_⟩
      obtain ⟨T, x', rfl, hT, rfl, y⟩ := y
      have e := y ws hs
      rw [f1] at e
      cases e
      have c3 := c2.alloc hT (.tup [.int (i : Nat), v])
      have eG : Ex G2 (upd G2 T (.tup [.int (i : Nat), v])) := Ex.new (c2.fresh hT).1
      exact (c3.push (r := .dat (.tuple [.int (i : Int), ds[i]])) (.tup (SqT.of upd_same) (.cons (.int _) (.cons ((f2.mono c2.exA).mono eG) .nil)))).sta
    · exact ⟨ws, SqL.of (c2.exG _ _ (c2.exA _ _ e1)), by rw [e2.length]; omega⟩

/-! ### for -/
/-- slots may be forgotten -/
def Wk (sl sl' : List SD) : Prop := sl'.length = sl.length ∧ ∀ (i : Nat) (sd : SD), sl'[i]? = some sd → sd ≠ .unk → sl[i]? = some sd
def Low (m : Nat) (sl : List SD) : Prop := ∀ r ∈ sl, ∀ k ∈ r.refs, k < m
theorem Wk.refl (sl : List SD) : Wk sl sl := ⟨rfl, fun _ _ h _ => h⟩
theorem Sta.low_tmp (s : Sta K A B ls sl cl τ σ H) : ∀ p ∈ τ, ∀ k ∈ p.2.refs, k < ls.length := by
  obtain ⟨G, c⟩ := s
  exact fun p hp => (c.tmp p hp).refs
theorem Sta.trim {ls0 : List Addr} {sl0 : List SD} (s : Sta K A B ls sl cl τ σ H) (p : ls0 <+: ls) (w : Wk sl sl0) (lo : Low ls0.length sl0) (ht : ∀ p ∈ τ, ∀ k ∈ p.2.refs, k < ls0.length) : Sta K A B ls0 sl0 (cl.take ls0.length) τ σ H := by
  obtain ⟨G, c⟩ := s
  refine ⟨G, c.cut p (w.1.trans c.slen) (fun i sd e hn => ?_) fun q hq => (c.tmp q hq).cut p (ht q hq)⟩
  obtain ⟨v, a, b⟩ := c.slots i sd (w.2 i sd e hn) hn
  exact ⟨v, a, b.cut p (lo sd (List.mem_of_getElem? e))⟩
/-- what a turn is to reach -/
def turnNx (m : Nat) (Inv : Nat → List SD → List Cell → Prop) (i : Nat) : List SD → List Cell → Prop := fun sl3 cl3 => ∃ sl4, Wk sl3 sl4 ∧ Low m sl4 ∧ Inv (i + 1) sl4 (cl3.take m)
theorem ws_for (h : WpI K wi sl cl fun ds cl1 => ∃ Inv : Nat → List SD → List Cell → Prop, Inv 0 sl cl1 ∧ (∀ (i : Nat) d sl' cl', ds[i]? = some d → Inv i sl' cl' → cl'.length = cl1.length →
    WpG K g (.dat d) sl' cl' fun sl2 => WpS K ts sl2 cl' { E with nx := turnNx cl1.length Inv i, ct := turnNx cl1.length Inv i, bk := E.nx }) ∧ ∀ sl' cl', Inv ds.length sl' cl' → cl'.length = cl1.length → E.nx sl' cl') : WpS K (tFor wi g ts) sl cl E := by
  intro A B ls τ σ H D s e
  refine h A B ls τ σ H s _ fun J H1 A' ds cl1 ls1 p f eA s1 it => ?_
  obtain ⟨Inv, h0, hs, hd⟩ := f
  have tlow := s1.low_tmp
  have lm : ls1.length = cl1.length := s1.choose_spec.len
  refine ⟨fun i m σ H => m = ds.length - i ∧ i ≤ ds.length ∧ ∃ sl' cl', Inv i sl' cl' ∧ Sta K A' B ls1 sl' cl' τ σ H, ⟨ds.length, by simp, Nat.zero_le _, sl, cl1, h0, s1⟩, ?_⟩
  rintro i m σ2 H2 ⟨rfl, hi, sl2, cl2, inv, s2⟩
  have cm : cl2.length = cl1.length := by rw [← lm]; exact s2.choose_spec.len.symm
  by_cases hlt : i < ds.length
  · obtain ⟨go, yl⟩ := (it B i ls1 sl2 cl2 τ σ2 H2 s2).1 _ (List.getElem?_eq_getElem hlt)
    refine .inr ⟨go, fun σ3 H3 => ∃ sl' cl', Inv (i + 1) sl' cl' ∧ Sta K A' B ls1 sl' cl' τ σ3 H3, fun σ3 H3 ⟨sl3, cl3, i3, s3⟩ => ⟨ds.length - (i + 1), by omega, rfl, hlt, sl3, cl3, i3, s3⟩, fun x H' y => ?_⟩
    refine hs i _ sl2 cl2 (List.getElem?_eq_getElem hlt) inv cm A' B ls1 _ σ2 H' x (yl x H' y) List.mem_cons_self _ fun σ4 sl4 f4 s4 => ?_
    have s4' : Sta K A' B ls1 sl4 cl2 τ σ4 H' := s4.sub fun q hq => List.mem_cons_of_mem _ hq
    have again : EO K A' B ls1 τ (turnNx cl1.length Inv i) (fun σ3 H3 => ∃ sl' cl', Inv (i + 1) sl' cl' ∧ Sta K A' B ls1 sl' cl' τ σ3 H3) := fun σ5 H5 sl5 cl5 ls5 p5 ⟨sl6, w6, l6, i6⟩ s5 => by
      rw [← lm] at l6 i6
      exact ⟨sl6, _, i6, s5.trim p5 w6 l6 tlow⟩
    refine f4 A' B ls1 τ σ4 H' _ s4' ⟨again, fun v H5 r5 sl5 cl5 σ5 ls5 p5 f5 s5 => e.rt v H5 r5 sl5 cl5 σ5 ls5 (p.trans p5) f5 (s5.low eA), fun σ5 H5 sl5 cl5 ls5 p5 f5 s5 => e.nx σ5 H5 sl5 cl5 ls5 (p.trans p5) f5 (s5.low eA), again⟩
  · have ei : i = ds.length := by omega
    subst ei
    exact .inl ⟨(it B _ ls1 sl2 cl2 τ σ2 H2 s2).2 (Nat.le_refl _), e.nx σ2 H2 sl2 cl2 ls1 p (hd sl2 cl2 inv cm) (s2.low eA)⟩

/-! ### comprehensions -/
theorem Core.hide (c : Core K A B ls sl cl τ σ H G) {p : Addr} (h : H p = none) (o : HO) : Core K A (upd B p o) ls sl cl τ σ (upd H p o) G := by
  obtain ⟨h1, h2, h3⟩ := c.fresh h
  have eH : ∀ {b : Addr} {u : HO}, H b = some u → upd H p o b = some u := fun {b u} e => by
    have hb : b ≠ p := fun z => by rw [z, h] at e; cases e
    rw [upd_ne hb]; exact e
  refine ⟨c.exA, fun b u e => eH (c.exG _ _ e), fun b u e => ?_, fun b u e => ?_, fun i l d e1 e2 hd => ?_, c.inj, c.len, fun i l d e1 e2 => ?_, c.slen, c.slots, c.tmp⟩
  · by_cases hb : b = p
    · subst hb; rw [upd_same] at e ⊢; exact e
    · rw [upd_ne hb] at e; exact eH (c.exB _ _ e)
  · by_cases hb : b = p
    · subst hb; exact h1
    · rw [upd_ne hb] at e; exact c.ban _ _ e
  · have hb : l ≠ p := fun z => h3 i d (z ▸ e1) e2 hd
    rw [upd_ne hb]; exact c.banc i l d e1 e2 hd
  · by_cases hd : d.live
    · have hb : l ≠ p := fun z => h3 i d (z ▸ e1) e2 hd
      exact (c.cells i l d e1 e2).mono (Ex.refl G) (upd_ne hb) rfl
    · exact .of_dead hd
theorem Core.rehide {p : Addr} {o o' : HO} (c : Core K A (upd B p o) ls sl cl τ σ H G) : Core K A (upd B p o') ls sl cl τ σ (upd H p o') G := by
  have hG : G p = none := c.ban p o upd_same
  refine ⟨c.exA, fun b u e => ?_, fun b u e => ?_, fun b u e => ?_, fun i l d e1 e2 hd => ?_, c.inj, c.len, fun i l d e1 e2 => ?_, c.slen, c.slots, c.tmp⟩
  · have hb : b ≠ p := fun z => by rw [z, hG] at e; cases e
    rw [upd_ne hb]; exact c.exG _ _ e
  · by_cases hb : b = p
    · subst hb; rw [upd_same] at e ⊢; exact e
    · rw [upd_ne hb] at e ⊢; exact c.exB b u (by rw [upd_ne hb]; exact e)
  · by_cases hb : b = p
    · subst hb; exact hG
    · exact c.ban b u (by rw [upd_ne hb] at e ⊢; exact e)
  · have z := c.banc i l d e1 e2 hd
    by_cases hb : l = p
    · subst hb; rw [upd_same] at z; cases z
    · rw [upd_ne hb] at z ⊢; exact z
  · by_cases hd : d.live
    · have z := c.banc i l d e1 e2 hd
      have hb : l ≠ p := fun q => by subst q; rw [upd_same] at z; cases z
      exact (c.cells i l d e1 e2).mono (Ex.refl G) (upd_ne hb) rfl
    · exact .of_dead hd
/-- what was hidden is seen -/
theorem Core.show {p : Addr} {vs : List V} {ds : List PyData} (c : Core K A (upd B p (.lst vs)) ls sl cl τ σ H G) (hB : B p = none) (h : RpAll K G vs ds) : ∃ G', Core K A B ls sl cl ((.ref p, .dat (.list ds)) :: τ) σ H G' := by
  have hG : G p = none := c.ban p _ upd_same
  have eG : Ex G (upd G p (.lst vs)) := Ex.new hG
  have up : ∀ {b : Addr} {o : HO}, B b = some o → b ≠ p ∧ upd B p (.lst vs) b = some o := fun {b o} e => by
    have hb : b ≠ p := fun z => by rw [z, hB] at e; cases e
    exact ⟨hb, by rw [upd_ne hb]; exact e⟩
  refine ⟨upd G p (.lst vs), c.exA.trans eG, fun b u e => ?_, fun b u e => c.exB b u (up e).2, fun b u e => ?_, fun i l d e1 e2 hd => ?_, c.inj, c.len, fun i l d e1 e2 => ?_, c.slen, fun i sd e1 e2 => ?_, fun q hq => ?_⟩
  · by_cases hb : b = p
    · subst hb; rw [upd_same] at e; rw [← e]; exact c.exB b _ upd_same
    · rw [upd_ne hb] at e; exact c.exG _ _ e
  · rw [upd_ne (up e).1]; exact c.ban b u (up e).2
  · have z := c.banc i l d e1 e2 hd
    by_cases hb : l = p
    · subst hb; exact hB
    · rw [upd_ne hb] at z; exact z
  · by_cases hd : d.live
    · have z := c.banc i l d e1 e2 hd
      have hb : l ≠ p := fun q => by subst q; rw [upd_same] at z; cases z
      exact (c.cells i l d e1 e2).mono eG rfl (upd_ne hb)
    · exact .of_dead hd
  · obtain ⟨v, a, b⟩ := c.slots i sd e1 e2
    exact ⟨v, a, b.mono eG (List.prefix_refl _)⟩
  · rcases List.mem_cons.mp hq with z | z
    · rw [z]; exact .lst upd_same (h.mono eG)
    · exact (c.tmp q z).mono eG (List.prefix_refl _)
theorem Core.showO {p : Addr} {vs : List V} {ds : List PyData} (c : Core K A (upd B p (.lst vs)) ls sl cl τ σ H G) (hB : B p = none) (h : RpAll K G vs ds) : Core K A B (ls ++ [p]) sl (cl ++ [.lst ds]) ((.ref p, .own cl.length) :: τ) σ H G := by
  have hG : G p = none := c.ban p _ upd_same
  have up : ∀ {b : Addr} {o : HO}, B b = some o → b ≠ p ∧ upd B p (.lst vs) b = some o := fun {b o} e => by
    have hb : b ≠ p := fun z => by rw [z, hB] at e; cases e
    exact ⟨hb, by rw [upd_ne hb]; exact e⟩
  have hH : H p = some (.lst vs) := c.exB p _ upd_same
  have split : ∀ {i : Nat} {l : Addr} {c' : Cell}, (ls ++ [p])[i]? = some l → (cl ++ [.lst ds])[i]? = some c' → (ls[i]? = some l ∧ cl[i]? = some c' ∧ i < ls.length) ∨ (i = ls.length ∧ l = p ∧ c' = .lst ds) := fun {i l c'} e1 e2 => by
    by_cases hi : i < ls.length
    · rw [List.getElem?_append_left hi] at e1
      rw [List.getElem?_append_left (c.len ▸ hi)] at e2
      exact .inl ⟨e1, e2, hi⟩
    · rw [List.getElem?_append_right (by omega)] at e1
      rw [List.getElem?_append_right (by have := c.len; omega)] at e2
      have i0 : i - ls.length = 0 := by
        have z := (List.getElem?_eq_some_iff.mp e1).1
        simp at z
        omega
      rw [i0] at e1
      rw [← c.len, i0] at e2
      cases e1
      cases e2
      exact .inr ⟨by omega, rfl, rfl⟩
  have ne : ∀ {i : Nat} {l : Addr} {d : Cell}, ls[i]? = some l → cl[i]? = some d → d.live → l ≠ p := fun {i l d} e1 e2 hd q => by
    have z := c.banc i l d e1 e2 hd
    subst q; rw [upd_same] at z; cases z
  refine ⟨c.exA, c.exG, fun b u e => c.exB b u (up e).2, fun b u e => c.ban b u (up e).2, fun i l d e1 e2 hd => ?_, fun i j l d d' e1 e2 e3 e4 hd hd' => ?_, by rw [List.length_append, List.length_append, c.len] <;> rfl, fun i l d e1 e2 => ?_, c.slen, fun i sd e1 e2 => ?_, fun q hq => ?_⟩
  · rcases split e1 e2 with ⟨a, b, _⟩ | ⟨_, rfl, _⟩
    · have z := c.banc i l d a b hd
      rw [upd_ne (ne a b hd)] at z; exact z
    · exact hB
  · rcases split e1 e3 with ⟨a, b, hi⟩ | ⟨ei, q1, _⟩ <;> rcases split e2 e4 with ⟨a', b', hj⟩ | ⟨ej, q2, _⟩
    · exact c.inj i j l d d' a a' b b' hd hd'
    · exact absurd q2 (ne a b hd)
    · exact absurd q1 (ne a' b' hd')
    · omega
  · rcases split e1 e2 with ⟨a, b, hi⟩ | ⟨ei, rfl, rfl⟩
    · exact c.cells i l d a b
    · exact ⟨hG, vs, hH, h⟩
  · obtain ⟨v, a, b⟩ := c.slots i sd e1 e2
    exact ⟨v, a, b.mono (Ex.refl G) (List.prefix_append _ _)⟩
  · rcases List.mem_cons.mp hq with z | z
    · rw [z]; exact ⟨p, rfl, own_last c⟩
    · exact (c.tmp q z).mono (Ex.refl G) (List.prefix_append _ _)
def wipeS (sl : List SD) : List Nat → List SD
  | [] => sl
  | v :: vs => (wipeS sl vs).set v .unk
theorem wipeS_len : ∀ vs : List Nat, (wipeS sl vs).length = sl.length
  | [] => rfl
  | v :: vs => by unfold wipeS; rw [List.length_set, wipeS_len vs]
theorem Core.forget (c : Core K A B ls sl cl τ σ H G) (n : Nat) (x : Option V) : Core K A B ls (sl.set n .unk) cl τ (σ.set n x) H G := by
  refine ⟨c.exA, c.exG, c.exB, c.ban, c.banc, c.inj, c.len, c.cells, by rw [List.length_set, List.length_set]; exact c.slen, fun j sd e hn => ?_, c.tmp⟩
  by_cases hj : n = j
  · subst hj
    have hi : n < sl.length := by
      have z := (List.getElem?_eq_some_iff.mp e).1
      rw [List.length_set] at z; exact z
    rw [List.getElem?_set_self hi] at e
    cases e
    exact absurd rfl hn
  · rw [List.getElem?_set_ne hj] at e
    obtain ⟨v, a, b⟩ := c.slots j sd e hn
    exact ⟨v, by rw [List.getElem?_set_ne hj]; exact a, b⟩
theorem Core.wiped (c : Core K A B ls sl cl τ σ H G) : ∀ vs : List Nat, Core K A B ls (wipeS sl vs) cl τ (wipe σ vs) H G
  | [] => c
  | v :: vs => (Core.wiped c vs).forget v none
/-- the target sets the block's own names alone -/
def GK (g : TG) (vs : List Nat) : Prop := ∀ x σ H Q, g x (wipe σ vs) H Q → g x (wipe σ vs) H fun σ2 H2 => wipe σ2 vs = wipe σ vs ∧ Q σ2 H2
/-- the slots around, as temporaries -/
def ride (σ : St) (sl : List SD) : List (V × SD) := (σ.zip sl).filterMap fun p => p.1.map fun v => (v, p.2)
theorem ride_mem {σ : St} {sl : List SD} {i : Nat} {v : V} {sd : SD} (h1 : σ[i]? = some (some v)) (h2 : sl[i]? = some sd) : (v, sd) ∈ ride σ sl := by
  refine List.mem_filterMap.mpr ⟨(some v, sd), ?_, rfl⟩
  refine List.mem_of_getElem? (i := i) ?_
  rw [List.getElem?_zip_eq_some]
  exact ⟨h1, h2⟩
theorem ride_ok (c : Core K A B ls sl cl τ σ H G) : ∀ p ∈ ride σ sl, ValOk K G ls p.1 p.2 := by
  intro p hp
  obtain ⟨q, hq, e⟩ := List.mem_filterMap.mp hp
  obtain ⟨i, hi, ei⟩ := List.getElem_of_mem hq
  have e0 : (σ.zip sl)[i]? = some (q.1, q.2) := by rw [List.getElem?_eq_getElem hi, ei]
  rw [List.getElem?_zip_eq_some] at e0
  obtain ⟨h1, h2⟩ := e0
  cases hv : q.1 with
  | none => rw [hv] at e; cases e
  | some v =>
    rw [hv] at e h1
    cases e
    by_cases hn : q.2 = .unk
    · rw [hn]; trivial
    · obtain ⟨w, a, b⟩ := c.slots i _ h2 hn
      rw [h1] at a
      cases a
      exact b
/-- back from a block -/
theorem Sta.unride {ls0 : List Addr} {sl5 : List SD} {σ5 : St} (hs : sl.length = σ.length) (hn : ∀ (i : Nat) (sd : SD), sl[i]? = some sd → sd ≠ .unk → ∃ v, σ[i]? = some (some v)) (lo : ∀ p ∈ ride σ sl, ∀ k ∈ p.2.refs, k < ls0.length)
    (s : Sta K A B ls sl5 cl τ σ5 H) (p : ls0 <+: ls) (hr : ∀ q ∈ ride σ sl, q ∈ τ) (ht : ∀ q ∈ τ', q ∈ τ) (hlt : ∀ q ∈ τ', ∀ k ∈ q.2.refs, k < ls0.length) : Sta K A B ls0 sl (cl.take ls0.length) τ' σ H := by
  obtain ⟨G, c⟩ := s
  refine ⟨G, c.cut p hs (fun i sd e n => ?_) fun q hq => (c.tmp q (ht q hq)).cut p (hlt q hq)⟩
  obtain ⟨v, hv⟩ := hn i sd e n
  have hm := ride_mem hv e
  exact ⟨v, hv, (c.tmp _ (hr _ hm)).cut p (lo _ hm)⟩
theorem lc_raw {vs : List Nat} (own : Bool) (h : WpI K wi sl cl fun ds cl1 => ds.length ≤ 100000 ∧ GK g vs ∧ ∃ Inv : Nat → List PyData → List Cell → Prop, Inv 0 [] cl1 ∧ (∀ (i : Nat) d acc cl', ds[i]? = some d → Inv i acc cl' → acc.length ≤ i → cl'.length = cl1.length →
    WpG K g (.dat d) (wipeS sl vs) cl' fun sl2 => WpT K tt sl2 cl' fun b cl2 => if b = true then Wp K te sl2 cl2 fun r cl3 => ∃ d', r = .dat d' ∧ Inv (i + 1) (acc ++ [d']) (cl3.take cl1.length) else Inv (i + 1) acc (cl2.take cl1.length)) ∧
    ∀ acc cl', Inv ds.length acc cl' → acc.length ≤ ds.length → cl'.length = cl1.length → if own = true then Φ (.own cl'.length) (cl' ++ [.lst acc]) else Φ (.dat (.list acc)) cl') : Wp K (tLc wi g tt te vs) sl cl Φ := by
  intro A B ls τ σ H s Q k
  refine h A B ls τ σ H s _ fun J H1 A' ds cl1 ls1 p f eA s1 it => ?_
  obtain ⟨hz, hg, Inv, h0, hs, hd⟩ := f
  have tlow := s1.low_tmp
  have lm : ls1.length = cl1.length := s1.choose_spec.len
  intro Dl hDl
  obtain ⟨G1, c1⟩ := s1
  have hBD : B Dl = none := (c1.fresh hDl).2.1
  have hslen := c1.slen
  have hslot : ∀ (i : Nat) (sd : SD), sl[i]? = some sd → sd ≠ .unk → ∃ v, σ[i]? = some (some v) := fun i sd e n => by
    obtain ⟨v, a, _⟩ := c1.slots i sd e n
    exact ⟨v, a⟩
  have rlow : ∀ p ∈ ride σ sl, ∀ k ∈ p.2.refs, k < ls1.length := fun p hp => (ride_ok c1 p hp).refs
  let Wn : Nat → Hp → Prop := fun i H => ∃ acc accV cl', Inv i acc cl' ∧ acc.length ≤ i ∧ accV.length = acc.length ∧ Sta K A' (upd B Dl (.lst accV)) ls1 sl cl' (accV.zip (acc.map .dat) ++ τ) σ H
  have zlow : ∀ (accV : List V) (acc : List PyData), ∀ q ∈ accV.zip (acc.map SD.dat) ++ τ, ∀ k ∈ q.2.refs, k < ls1.length := fun accV acc q hq k e => by
    rcases List.mem_append.mp hq with z | z
    · have z2 := (List.of_mem_zip z).2
      obtain ⟨d, _, e2⟩ := List.mem_map.mp z2
      rw [← e2] at e; cases e
    · exact tlow q z k e
  refine ⟨fun i m H => m = ds.length - i ∧ i ≤ ds.length ∧ Wn i H, ⟨ds.length, by simp, Nat.zero_le _, [], [], cl1, h0, Nat.le_refl _, rfl, (c1.hide hDl (.lst [])).sta⟩, ?_⟩
  rintro i m H2 ⟨rfl, hi, acc, accV, cl2, inv, hai, hav, s2⟩
  have cm : cl2.length = cl1.length := by rw [← lm]; exact s2.choose_spec.len.symm
  by_cases hlt : i < ds.length
  · obtain ⟨go, yl⟩ := (it _ i ls1 sl cl2 _ σ H2 s2).1 _ (List.getElem?_eq_getElem hlt)
    refine .inr ⟨go, Wn (i + 1), fun H3 n3 => ⟨ds.length - (i + 1), by omega, rfl, hlt, n3⟩, fun x H' y => ?_⟩
    obtain ⟨G3, c3⟩ := yl x H' y
    refine hg x σ H' _ ?_
    have c3' := c3.tmps (τ' := (x, .dat ds[i]) :: (ride σ sl ++ (accV.zip (acc.map .dat) ++ τ))) fun q hq => by
      rcases List.mem_cons.mp hq with z | z
      · rw [z]; exact c3.tmp _ List.mem_cons_self
      · rcases List.mem_append.mp z with z | z
        · exact ride_ok c3 q z
        · exact c3.tmp q (List.mem_cons_of_mem _ z)
    refine hs i _ acc cl2 (List.getElem?_eq_getElem hlt) inv hai cm A' _ ls1 _ (wipe σ vs) H' x (c3'.wiped vs).sta List.mem_cons_self _ fun σ4 sl4 f4 s4 => ?_
    refine f4 A' _ ls1 _ σ4 H' s4 _ fun b H5 cl5 ls5 p5 f5 s5 => ?_
    cases b with
    | false =>
      show Wn (i + 1) H5
      have f5 : Inv (i + 1) acc (cl5.take cl1.length) := f5
      rw [← lm] at f5
      exact ⟨acc, accV, _, f5, Nat.le_succ_of_le hai, hav, s5.unride hslen hslot rlow p5 (fun q hq => List.mem_cons_of_mem _ (List.mem_append_left _ hq)) (fun q hq => List.mem_cons_of_mem _ (List.mem_append_right _ hq)) (zlow accV acc)⟩
    | true =>
      show te σ4 H5 fun y H4 => ∃ acc, H4 Dl = some (.lst acc) ∧ acc.length < sizeLine ∧ Wn (i + 1) (upd H4 Dl (.lst (acc ++ [y])))
      have f5 : Wp K te sl4 cl5 fun r cl3 => ∃ d', r = .dat d' ∧ Inv (i + 1) (acc ++ [d']) (cl3.take cl1.length) := f5
      refine f5 A' _ ls5 _ σ4 H5 s5 _ fun y H6 r cl6 ls6 p6 f6 s6 => ?_
      obtain ⟨d', rfl, f6⟩ := f6
      rw [← lm] at f6
      have s7 := s6.unride (τ' := (y, .dat d') :: (accV.zip (acc.map .dat) ++ τ)) hslen hslot rlow (p5.trans p6) (fun q hq => List.mem_cons_of_mem _ (List.mem_cons_of_mem _ (List.mem_append_left _ hq)))
        (fun q hq => by
          rcases List.mem_cons.mp hq with z | z
          · rw [z]; exact List.mem_cons_self
          · exact List.mem_cons_of_mem _ (List.mem_cons_of_mem _ (List.mem_append_right _ z)))
        (fun q hq k e => by
          rcases List.mem_cons.mp hq with z | z
          · rw [z] at e; cases e
          · exact zlow accV acc q z k e)
      obtain ⟨G7, c7⟩ := s7
      refine ⟨accV, c7.exB _ _ upd_same, sz_lt (by omega), acc ++ [d'], accV ++ [y], _, f6, by rw [List.length_append]; simp; omega, by rw [List.length_append, List.length_append, hav] <;> rfl, ?_⟩
      refine (c7.rehide (o' := .lst (accV ++ [y]))).sta.sub fun q hq => ?_
      rw [List.map_append, List.zip_append (by rw [List.length_map]; exact hav)] at hq
      rcases List.mem_append.mp hq with z | z
      · rcases List.mem_append.mp z with z | z
        · exact List.mem_cons_of_mem _ (List.mem_append_left _ z)
        · rw [List.mem_singleton.mp z]; exact List.mem_cons_self
      · exact List.mem_cons_of_mem _ (List.mem_append_right _ z)
  · have ei : i = ds.length := by omega
    subst ei
    refine .inl ⟨(it _ _ ls1 sl cl2 _ σ H2 s2).2 (Nat.le_refl _), ?_⟩
    have fin := hd acc cl2 inv hai cm
    obtain ⟨G3, c3⟩ := s2
    have ra : RpAll K G3 accV acc := by
      have go : ∀ (us : List V) (es : List PyData), us.length = es.length → (∀ q ∈ us.zip (es.map SD.dat), ValOk K G3 ls1 q.1 q.2) → RpAll K G3 us es := by
        intro us
        induction us with
        | nil => intro es hl _; cases es with
          | nil => exact .nil
          | cons _ _ => cases hl
        | cons u us ih => intro es hl hh; cases es with
          | nil => cases hl
          | cons e es => exact .cons (hh (u, .dat e) List.mem_cons_self) (ih es (Nat.succ.inj hl) fun q hq => hh q (List.mem_cons_of_mem _ hq))
      exact go accV acc hav fun q hq => c3.tmp q (List.mem_append_left _ hq)
    cases own with
    | false =>
      obtain ⟨G4, c4⟩ := c3.show hBD ra
      exact k _ H2 _ cl2 ls1 p fin ((Sta.low eA c4.sta).sub fun q hq => by
        rcases List.mem_cons.mp hq with z | z
        · rw [z]; exact List.mem_cons_self
        · exact List.mem_cons_of_mem _ (List.mem_append_right _ z))
    | true =>
      have c4 := c3.showO hBD ra
      exact k _ H2 _ _ _ (p.trans (List.prefix_append _ _)) fin ((Sta.low eA c4.sta).sub fun q hq => by
        rcases List.mem_cons.mp hq with z | z
        · rw [z]; exact List.mem_cons_self
        · exact List.mem_cons_of_mem _ (List.mem_append_right _ z))
theorem wipe_set {σ : St} {i : Nat} {x : Option V} : ∀ {vs : List Nat}, i ∈ vs → wipe ((wipe σ vs).set i x) vs = wipe σ vs := by
  have comm : ∀ (σ : St) (vs : List Nat) (i : Nat) (x : Option V), i ∉ vs → wipe (σ.set i x) vs = (wipe σ vs).set i x := by
    intro σ vs i x h
    induction vs with
    | nil => rfl
    | cons v vs ih =>
      show (wipe (σ.set i x) vs).set v none = ((wipe σ vs).set v none).set i x
      rw [ih fun z => h (List.mem_cons_of_mem _ z), List.set_comm _ _ (fun z => h (by rw [z]; exact List.mem_cons_self))]
  have inn : ∀ (σ : St) (vs : List Nat) (i : Nat) (x : Option V), i ∈ vs → wipe (σ.set i x) vs = wipe σ vs := by
    intro σ vs i x h
    induction vs with
    | nil => cases h
    | cons v vs ih =>
      show (wipe (σ.set i x) vs).set v none = (wipe σ vs).set v none
      by_cases hv : i ∈ vs
      · rw [ih hv]
      · have e : i = v := by
          rcases List.mem_cons.mp h with z | z
          · exact z
          · exact absurd z hv
        subst e
        rw [comm σ vs i x hv, List.set_set]
  have idem : ∀ (σ : St) (vs : List Nat), wipe (wipe σ vs) vs = wipe σ vs := by
    intro σ vs
    have : ∀ us : List Nat, (∀ u ∈ us, u ∈ vs) → wipe (wipe σ us) vs = wipe σ vs := by
      intro us
      induction us with
      | nil => intro _; rfl
      | cons u us ih =>
        intro h
        show wipe ((wipe σ us).set u none) vs = _
        rw [inn _ vs u none (h u List.mem_cons_self)]
        exact ih fun w hw => h w (List.mem_cons_of_mem _ hw)
    exact this vs fun u hu => hu
  intro vs h
  rw [inn _ vs i x h, idem]
theorem gk_name {vs : List Nat} (h : i ∈ vs) : GK (gName i) vs := fun x σ H Q q => ⟨wipe_set h, q⟩
theorem gk_tup2 {n : Nat} {j : Nat} (hi : i ≠ j) : GK (gTup K n (gCons (gName i) (gCons (gName j) gNil))) [i, j] := by
  intro x σ H Q q
  obtain ⟨a, xs, e1, e2, e3, v, r, e4, w, r2, e5, e6, q⟩ := q
  refine ⟨a, xs, e1, e2, e3, v, r, e4, w, r2, e5, e6, ?_, q⟩
  show ((((((σ.set j none).set i none).set i (some v)).set j (some w)).set j none).set i none) = (σ.set j none).set i none
  have cm : ∀ (s : L2.St) (x y : Option V), (s.set i x).set j y = (s.set j y).set i x := fun s x y => List.set_comm _ _ hi
  rw [List.set_set, List.set_set, cm, List.set_set, List.set_set]
end
end Sy
end

section
namespace Sy
open PySem L2 Evl
/-! ### more rules of the machine -/
section
variable {X : Cx}
/-- ** where the power's bits are few -/
def CPowW (i j : Int) : Prop := 0 ≤ j ∧ (Builtin.Int.intBits i : Int) * j ≤ 2 ^ 27
theorem op_powW : OpR X (binaryOp .Pow) (rI CPowW fun i j => .int (i ^ j.toNat)) := opI fun _ _ _ _ _ _ _ hc q => PyProof.Rows.pow_int hc.1 hc.2 q
theorem CPowW.of {i j : Int} {b : Nat} (hb : i.natAbs < 2 ^ b) (h0 : 0 < b) (hj : 0 ≤ j) (hj3 : j ≤ 3) (h : b ≤ 1000000) : CPowW i j := by
  refine ⟨hj, ?_⟩
  have x := PySem.Flt.log2_lt_of h0 hb
  have b2 : Builtin.Int.intBits i ≤ i.natAbs.log2 + 1 := by
    unfold Builtin.Int.intBits
    split <;> omega
  have b3 : (Builtin.Int.intBits i : Int) ≤ 1000000 := by omega
  have : (Builtin.Int.intBits i : Int) * j ≤ 1000000 * 3 := Int.mul_le_mul b3 hj3 hj (by decide)
  exact Int.le_trans this (by decide)
/-- a walk by either of two rules -/
theorem pi_or {tg e : Expr} {w1 w2 : TI} (h1 : PI X tg e w1) (h2 : PI X tg e w2) : PI X tg e (fun σ H R => w1 σ H R ∨ w2 σ H R) :=
  ⟨fun pins s σ H R I h => h.elim (fun z => h1.run pins s σ H R I z) fun z => h2.run pins s σ H R I z⟩
/-- an expression by either of two rules -/
theorem pe_alt {e : Expr} {t1 t2 : TE} (h1 : PE X e t1) (h2 : PE X e t2) : PE X e (fun σ H Q => t1 σ H Q ∨ t2 σ H Q) :=
  ⟨fun pins s σ H Q I h => h.elim (fun z => h1.run pins s σ H Q I z) fun z => h2.run pins s σ H Q I z⟩
end
section
variable {K : PySem.W.Frag} {A B G G' H H' : Hp} {ls ls' : List Addr} {sl sl' : List SD} {cl cl' : List Cell} {τ τ' : List (V × SD)} {σ σ' : L2.St} {v x y : V} {r r1 r2 : SD}
variable {te ta tb tl tx : TE} {t u tt : TT} {tr : TA} {Φ : SD → List Cell → Prop} {E : SE} {ts tu : TS} {g : TG} {i j : Nat} {wi w1 w2 : TI} {Φi : List PyData → List Cell → Prop}
theorem wi_inl (h : WpI K w1 sl cl Φi) : WpI K (fun σ H R => w1 σ H R ∨ w2 σ H R) sl cl Φi := fun A B ls τ σ H s R k => .inl (h A B ls τ σ H s R k)
theorem wi_inr (h : WpI K w2 sl cl Φi) : WpI K (fun σ H R => w1 σ H R ∨ w2 σ H R) sl cl Φi := fun A B ls τ σ H s R k => .inr (h A B ls τ σ H s R k)
theorem wp_inl {t1 t2 : TE} (h : Wp K t1 sl cl Φ) : Wp K (fun σ H Q => t1 σ H Q ∨ t2 σ H Q) sl cl Φ := fun A B ls τ σ H s Q k => .inl (h A B ls τ σ H s Q k)
theorem wp_inr {t1 t2 : TE} (h : Wp K t2 sl cl Φ) : Wp K (fun σ H Q => t1 σ H Q ∨ t2 σ H Q) sl cl Φ := fun A B ls τ σ H s Q k => .inr (h A B ls τ σ H s Q k)
theorem wc_inl {p q : List V → Hp → VK → Prop} {rs : List SD} (h : Wc K p rs sl cl Φ) : Wc K (fun xs H Q => p xs H Q ∨ q xs H Q) rs sl cl Φ := fun A B ls τ σ H vs s hl hm Q k => .inl (h A B ls τ σ H vs s hl hm Q k)
theorem wc_inr {p q : List V → Hp → VK → Prop} {rs : List SD} (h : Wc K q rs sl cl Φ) : Wc K (fun xs H Q => p xs H Q ∨ q xs H Q) rs sl cl Φ := fun A B ls τ σ H vs s hl hm Q k => .inr (h A B ls τ σ H vs s hl hm Q k)
/-- signs of a text -/
def signsD (z : Str) : List PyData := z.cps.toList.map fun c => .str ⟨#[c]⟩
theorem signsD_len {z : Str} : (signsD z).length = z.length := by unfold signsD; rw [List.length_map] <;> rfl
theorem wi_str (h : Wp K tl sl cl fun r cl1 => ∃ z, r = .dat (.str z) ∧ Φi (signsD z) cl1) : WpI K (iStr tl) sl cl Φi := by
  intro A B ls τ σ H s R k
  refine h A B ls τ σ H s _ fun x H1 r cl1 ls1 p f s1 => ?_
  obtain ⟨z, rfl, q⟩ := f
  obtain ⟨G, c⟩ := s1
  cases c.dat (d := .str z) List.mem_cons_self
  refine ⟨z, rfl, ?_⟩
  refine k (Its z) H1 A _ cl1 ls1 p q (Ex.refl A) c.pop.sta fun B' i ls2 sl2 cl2 τ2 σ2 H2 ⟨G2, c2⟩ => ⟨fun d hd => ?_, fun hi => ?_⟩
  · have hi : i < z.length := by
      have q := (List.getElem?_eq_some_iff.mp hd).1
      rw [signsD_len] at q; exact q
    have hi' : i < z.cps.size := hi
    unfold signsD at hd
    rw [List.getElem?_map, List.getElem?_eq_getElem (by simpa using hi')] at hd
    cases hd
    refine ⟨hi', fun x H' y => ?_⟩
    obtain ⟨rfl, c, e1, rfl⟩ := y
    have e2 : z.cps.toList[i]? = some c := by rw [Array.getElem?_toList]; exact e1
    rw [List.getElem?_eq_getElem (by simpa using hi')] at e2
    cases e2
    exact (c2.push (r := .dat (.str ⟨#[_]⟩)) (.str _)).sta
  · rw [signsD_len] at hi; exact hi
/-- what class a value is of -/
def tyS (cl : List Cell) : SD → Option String
  | .dat d => tyD d
  | .own k => (match cl[k]? with
    | some (.lst _) => some "list"
    | some (.dic _) => some "dict"
    | _ => none)
  | _ => none
theorem tyS_ok (c : Core K A B ls sl cl τ σ H G) (h : (x, r) ∈ τ) {T : String} (e : tyS cl r = some T) : TyX K H x (.type T) := by
  cases r with
  | unk => cases e
  | scr ns => cases e
  | adr _ => cases e
  | tup _ => cases e
  | dat d =>
    have ok := c.dat h
    cases ok with
    | non => cases e; exact .base .non
    | bl b => cases e; exact .base (.bl b)
    | int i => cases e; exact .base (.int i)
    | str z => cases e; exact .base (.str z)
    | lst h1 h2 => cases e; exact .base (.lst (c.exG _ _ h1))
    | tup h1 h2 =>
      cases e
      rcases ex_t c.exG h1 with (h | ⟨o, h⟩) | ⟨o, its, n, h, hc, _⟩
      · exact .base (.tup h)
      · exact .fTuple h
      · exact .kTuple h hc
    | obj h1 h2 h3 => cases e
    | xdp h1 h2 => cases e
    | dnil h1 => cases e; exact .base (.dK (c.exG _ _ h1))
  | own k =>
    obtain ⟨l, rfl, e1⟩ := c.tmp _ h
    have e : (match cl[k]? with | some (.lst _) => some "list" | some (.dic _) => some "dict" | _ => none) = some T := e
    cases q : cl[k]? with
    | none => rw [q] at e; cases e
    | some d =>
      rw [q] at e
      have ck := c.cells k l d e1 q
      cases d with
      | lst ds => cases e; obtain ⟨_, vs, h1, _⟩ := ck; exact .base (.lst h1)
      | dic ds => cases e; obtain ⟨_, vs, h1, _⟩ := ck; exact .base (.dK h1)
      | dit _ => cases e
      | ins _ _ => cases e
      | dead => cases e
theorem wp_isi {T : String} (h : Wp K tx sl cl fun r cl1 => ∃ t b, tyS cl1 r = some t ∧ kitB t T = some b ∧ Φ (.dat (.bool b)) cl1) : Wp K (tCB (rIsi K) (tCons tx (tCons (tC (.ty T)) tNil))) sl cl Φ := by
  intro A B ls τ σ H s Q k
  refine h A B ls τ σ H s _ fun x H1 r cl1 ls1 p f s1 => ?_
  obtain ⟨t, b, e1, e2, q⟩ := f
  obtain ⟨G, c⟩ := s1
  exact ⟨x, .ty T, .type t, .type T, b, rfl, .ty T, tyS_ok c List.mem_cons_self e1, kit_ty e2, k _ H1 _ cl1 ls1 p q (c.pop.push (r := .dat (.bool b)) (.bl b)).sta⟩
theorem wp_isi2 {T T' : String} (h : Wp K tx sl cl fun r cl1 => ∃ t b b', tyS cl1 r = some t ∧ kitB t T = some b ∧ kitB t T' = some b' ∧ Φ (.dat (.bool (b || b'))) cl1) :
    Wp K (tCB (rIsiT K) (tCons tx (tCons (tTup (tCons (tC (.ty T)) (tCons (tC (.ty T')) tNil))) tNil))) sl cl Φ := by
  intro A B ls τ σ H s Q k
  refine h A B ls τ σ H s _ fun x H1 r cl1 ls1 p f s1 => ?_
  obtain ⟨t, b, b', e1, e2, e3, q⟩ := f
  obtain ⟨G, c⟩ := s1
  refine ⟨by show 2 ≤ sizeLine; decide, fun p hp => ?_⟩
  have c' := c.alloc hp (.tup [.ty T, .ty T'])
  refine ⟨x, p, [.ty T, .ty T'], .type t, [.type T, .type T'], (b || b'), rfl, upd_same, .cons (.ty T) (.cons (.ty T') .nil), tyS_ok c' List.mem_cons_self e1, ?_, k _ _ _ cl1 ls1 (by assumption) q (c'.pop.push (r := .dat (.bool _)) (.bl _)).sta⟩
  refine kitAny_cons (kit_ty e2) (fun hb => ?_) fun hb => by rw [hb] <;> rfl
  rw [hb]
  refine kitAny_cons (kit_ty e3) (fun hb' => ?_) fun hb' => by rw [hb'] <;> rfl
  rw [hb'] <;> rfl
/-! slices -/
def Wsl (K : PySem.W.Frag) (r : V → Option Int → Option Int → Hp → VK → Prop) (r1 : SD) (lo hi : Option Int) (sl : List SD) (cl : List Cell) (Φ : SD → List Cell → Prop) : Prop :=
  ∀ A B ls τ σ H x, Sta K A B ls sl cl τ σ H → (x, r1) ∈ τ → ∀ Q : VK, (∀ v H' r cl' ls', ls <+: ls' → Φ r cl' → Sta K A B ls' sl cl' ((v, r) :: τ) σ H' → Q v H') → r x lo hi H Q
def WpO (K : PySem.W.Frag) (to : TO) (sl : List SD) (cl : List Cell) (Φ : Option Int → List Cell → Prop) : Prop :=
  ∀ A B ls τ σ H, Sta K A B ls sl cl τ σ H → ∀ Q : Option Int → Hp → Prop, (∀ o H' cl' ls', ls <+: ls' → Φ o cl' → Sta K A B ls' sl cl' τ σ H' → Q o H') → to σ H Q
theorem wo_none {Φo : Option Int → List Cell → Prop} (q : Φo none cl) : WpO K tNoPart sl cl Φo := fun A B ls τ σ H s Q k => k none H cl ls (List.prefix_refl _) q s
theorem wo_some {Φo : Option Int → List Cell → Prop} (h : Wp K te sl cl fun r cl1 => ∃ i, r = .dat (.int i) ∧ Φo (some i) cl1) : WpO K (tPart te) sl cl Φo := by
  intro A B ls τ σ H s Q k
  refine h A B ls τ σ H s _ fun x H1 r cl1 ls1 p f s1 => ?_
  obtain ⟨i, rfl, q⟩ := f
  obtain ⟨G, c⟩ := s1
  cases c.dat (d := .int i) List.mem_cons_self
  exact ⟨i, rfl, k (some i) H1 cl1 ls1 p q c.pop.sta⟩
theorem wp_sl {rr : V → Option Int → Option Int → Hp → VK → Prop} {tlo thi : TO} (h : Wp K te sl cl fun r1 cl1 => WpO K tlo sl cl1 fun lo cl2 => WpO K thi sl cl2 fun hi cl3 => Wsl K rr r1 lo hi sl cl3 Φ) : Wp K (tSl rr te tlo thi) sl cl Φ := by
  intro A B ls τ σ H s Q k
  refine h A B ls τ σ H s _ fun x H1 r1 cl1 ls1 p1 f1 s1 => ?_
  refine f1 A B ls1 _ σ H1 s1 _ fun lo H2 cl2 ls2 p2 f2 s2 => ?_
  refine f2 A B ls2 _ σ H2 s2 _ fun hi H3 cl3 ls3 p3 f3 s3 => ?_
  refine f3 A B ls3 _ σ H3 x s3 List.mem_cons_self _ fun v H4 r4 cl4 ls4 p4 f4 s4 => ?_
  exact k v H4 r4 cl4 ls4 (((p1.trans p2).trans p3).trans p4) f4 (s4.sub fun p hp => by
    rcases List.mem_cons.mp hp with z | z
    · rw [z]; exact List.mem_cons_self
    · exact List.mem_cons_of_mem _ (List.mem_cons_of_mem _ z))
theorem wsl_inl {p q : V → Option Int → Option Int → Hp → VK → Prop} {lo hi} (h : Wsl K p r lo hi sl cl Φ) : Wsl K (fun x lo hi H Q => p x lo hi H Q ∨ q x lo hi H Q) r lo hi sl cl Φ := fun A B ls τ σ H x s hx Q k => .inl (h A B ls τ σ H x s hx Q k)
theorem wsl_inr {p q : V → Option Int → Option Int → Hp → VK → Prop} {lo hi} (h : Wsl K q r lo hi sl cl Φ) : Wsl K (fun x lo hi H Q => p x lo hi H Q ∨ q x lo hi H Q) r lo hi sl cl Φ := fun A B ls τ σ H x s hx Q k => .inr (h A B ls τ σ H x s hx Q k)
def cutD {α : Type} (xs : List α) (lo hi : Option Int) : List α := (xs.drop (HT.sIx xs.length 0 lo)).take (HT.sIx xs.length xs.length hi - HT.sIx xs.length 0 lo)
theorem wsl_list {ds : List PyData} {lo hi : Option Int} (h : seeL cl r = some ds) (q : Φ (.dat (.list (cutD ds lo hi))) cl) : Wsl K (rSlL K) r lo hi sl cl Φ := by
  intro A B ls τ σ H x ⟨G, c⟩ hx Q k
  obtain ⟨a, vs, rfl, e2, e3⟩ := c.seeL hx h
  refine ⟨a, vs, rfl, e2, fun p hp => ?_⟩
  have c' := c.alloc hp (.lst (cutV vs lo hi))
  have eG : Ex G (upd G p (.lst (cutV vs lo hi))) := Ex.new (c.fresh hp).1
  refine k _ _ _ cl ls (List.prefix_refl _) q (c'.push (r := .dat (.list _)) (.lst upd_same ?_)).sta
  show RpAll K _ ((vs.drop _).take _) ((ds.drop _).take _)
  rw [e3.length]
  exact (((e3.drop _).take _).mono eG)
theorem wsl_str {z : Str} {lo hi : Option Int} (h : r = .dat (.str z)) (hz : z.length ≤ 100000) (q : Φ (.dat (.str (cutS z lo hi))) cl) : Wsl K rSlS r lo hi sl cl Φ := by
  intro A B ls τ σ H x ⟨G, c⟩ hx Q k
  subst h
  cases c.dat hx
  exact ⟨z, rfl, sz_of hz, k _ H _ cl ls (List.prefix_refl _) q (c.push (r := .dat (.str _)) (.str _)).sta⟩
theorem wp_rev (h : Wp K te sl cl fun r cl1 => ∃ ds, seeL cl1 r = some ds ∧ Φ (.dat (.list ds.reverse)) cl1) : Wp K (tRevL K te) sl cl Φ := by
  intro A B ls τ σ H s Q k
  refine h A B ls τ σ H s _ fun x H1 r cl1 ls1 p f s1 => ?_
  obtain ⟨ds, e, q⟩ := f
  obtain ⟨G, c⟩ := s1
  obtain ⟨a, vs, rfl, e2, e3⟩ := c.seeL List.mem_cons_self e
  refine ⟨a, vs, rfl, e2, fun p hp => ?_⟩
  have c' := c.alloc hp (.lst vs.reverse)
  have eG : Ex G (upd G p (.lst vs.reverse)) := Ex.new (c.fresh hp).1
  exact k _ _ _ cl1 ls1 (by assumption) q (c'.pop.push (r := .dat (.list _)) (.lst upd_same (e3.reverse.mono eG))).sta
/-! -x -/
theorem wp_neg {gi : Int → V} (h : Wp K te sl cl fun r cl1 => ∃ i d, r = .dat (.int i) ∧ sv (gi i) = some d ∧ Φ (.dat d) cl1) : Wp K (tUn (rU gi) te) sl cl Φ := by
  intro A B ls τ σ H s Q k
  refine h A B ls τ σ H s _ fun x H1 r cl1 ls1 p f s1 => ?_
  obtain ⟨i, d, rfl, hs, q⟩ := f
  obtain ⟨G, c⟩ := s1
  cases c.dat (d := .int i) List.mem_cons_self
  exact ⟨i, rfl, k _ H1 _ cl1 ls1 p q (c.pop.push (r := .dat d) (sv_rp hs)).sta⟩
/-! sign in text -/
theorem wo_sign {ch : Nat} {z : Str} (h1 : r1 = .dat (.str ⟨#[ch]⟩)) (h2 : r2 = .dat (.str z)) (q : Φ (.dat (.bool (decide (ch ∈ z.cps.toList)))) cl) : Wo K (fun x y H Q => ∃ (c : Nat) (z : Str), x = .str ⟨#[c]⟩ ∧ y = .str z ∧ Q (.bl (decide (c ∈ z.cps.toList))) H) r1 r2 sl cl Φ := by
  intro A B ls τ σ H x y ⟨G, c⟩ hx hy Q k
  subst h1 h2
  cases c.dat hx
  cases c.dat hy
  exact ⟨ch, z, rfl, rfl, k _ H _ cl ls (List.prefix_refl _) q (c.push (r := .dat (.bool _)) (.bl _)).sta⟩
/-! sep.join(texts) -/
theorem wp_join (h : Wp K ta sl cl fun ro cl1 => ∃ z, ro = .dat (.str z) ∧ Wp K te sl cl1 fun r cl2 => ∃ zs : List Str, seeL cl2 r = some (zs.map .str) ∧ (zs.map (·.length)).sum + zs.length * z.length ≤ 100000 ∧ Φ (.dat (.str (Txt.join z zs))) cl2) :
    Wp K (tM1 (fun x xs H Q => ∃ a p, ∃ ys : List Str, x = .str a ∧ xs = [.ref p] ∧ (SqL K H p (ys.map V.str) ∨ SqT K H p (ys.map V.str)) ∧ (ys.map (·.length)).sum + ys.length * a.length ≤ 16777216 ∧ Q (.str (Txt.join a ys)) H) ta te) sl cl Φ := by
  intro A B ls τ σ H s Q k
  refine h A B ls τ σ H s _ fun x H1 ro cl1 ls1 p1 f1 s1 => ?_
  obtain ⟨z, rfl, f1⟩ := f1
  obtain ⟨G1, c1⟩ := s1
  cases c1.dat (d := .str z) List.mem_cons_self
  refine ⟨⟨z, rfl⟩, ?_⟩
  refine f1 A B ls1 _ σ H1 c1.sta _ fun y H2 r cl2 ls2 p2 f2 s2 => ?_
  obtain ⟨zs, e, hz, q⟩ := f2
  obtain ⟨G2, c2⟩ := s2
  obtain ⟨a, vs, rfl, e2, e3⟩ := c2.seeL List.mem_cons_self e
  rw [e3.strs] at e2
  exact ⟨z, a, zs, rfl, rfl, .inl e2, Nat.le_trans hz (by decide), k _ H2 _ cl2 ls2 (p1.trans p2) q (c2.pop.pop.push (r := .dat (.str _)) (.str _)).sta⟩
/-! a keyword call -/
theorem wp_callK {P : Pr} {gV : List V → List V → List V} {Ex0 : XK} {tk : TA} (gS : List SD → List SD → List SD) (sel : List Nat)
    (hg : ∀ (vs zs : List V) (rs qs : List SD), vs.length = rs.length → zs.length = qs.length → (gV vs zs).length = (gS rs qs).length ∧ ∀ p ∈ (gV vs zs).zip (gS rs qs), p ∈ vs.zip rs ∨ p ∈ zs.zip qs)
    (h : WpA K tr sl cl fun rs cl1 => WpA K tk sl cl1 fun qs cl2 => CallOk P (gS rs qs) sl cl2 sel Φ) : Wp K (tCallK (spS K P) gV Ex0 tr tk) sl cl Φ := by
  intro A B ls τ σ H s Q k
  refine h A B ls τ σ H s _ fun vs H1 rs cl1 ls1 e1 h1 hl s1 => ?_
  refine h1 A B ls1 _ σ H1 s1 _ fun zs H2 qs cl2 ls2 e2 h2 hl2 s2 => ?_
  obtain ⟨g1, g2⟩ := hg vs zs rs qs hl hl2
  exact run_call s2 g1 (fun p hp => (g2 p hp).elim (fun z => List.mem_append_right _ (List.mem_append_left _ z)) fun z => List.mem_append_left _ z) h2 fun v H' r cl' ls' e3 f s3 => k v H' r cl' ls' ((e1.trans e2).trans e3) f (s3.sub fun p hp => by
    rcases List.mem_cons.mp hp with z | z
    · rw [z]; exact List.mem_cons_self
    · exact List.mem_cons_of_mem _ (List.mem_append_right _ (List.mem_append_right _ z)))
end
end Sy
end

section
namespace Sy
open PySem L2 Evl
inductive Ty | non | bool | int | str | list | tuple | dict
def Ty.name : Ty → String
  | .non => "NoneType" | .bool => "bool" | .int => "int" | .str => "str" | .list => "list" | .tuple => "tuple" | .dict => "dict"
def tyY (cl : List Cell) : SD → Option Ty
  | .dat .none => some .non | .dat (.bool _) => some .bool | .dat (.int _) => some .int | .dat (.str _) => some .str | .dat (.list _) => some .list | .dat (.tuple _) => some .tuple | .dat (.dict []) => some .dict
  | .own k => (match cl[k]? with
    | some (.lst _) => some .list
    | some (.dic _) => some .dict
    | _ => none)
  | _ => none
theorem tyY_S {cl : List Cell} {r : SD} {t : Ty} (h : tyY cl r = some t) : tyS cl r = some t.name := by
  cases r with
  | unk => cases h
  | scr ns => cases h
  | adr _ => cases h
  | tup _ => cases h
  | dat d => cases d with
    | dict ks => cases ks with
      | nil => cases h; rfl
      | cons _ _ => cases h
    | _ => cases h <;> rfl
  | own k =>
    have h : (match cl[k]? with | some (.lst _) => some Ty.list | some (.dic _) => some .dict | _ => none) = some t := h
    show (match cl[k]? with | some (.lst _) => some "list" | some (.dic _) => some "dict" | _ => none) = some t.name
    cases q : cl[k]? with
    | none => rw [q] at h; cases h
    | some c => rw [q] at h; cases c <;> cases h <;> rfl
def Ty.isInt : Ty → Bool | .int => true | .bool => true | _ => false
def Ty.isBool : Ty → Bool | .bool => true | _ => false
def Ty.isStr : Ty → Bool | .str => true | _ => false
def Ty.isList : Ty → Bool | .list => true | _ => false
def Ty.isTuple : Ty → Bool | .tuple => true | _ => false
def Ty.isSeq : Ty → Bool | .list => true | .tuple => true | _ => false
section
variable {K : PySem.W.Frag} {sl : List SD} {cl : List Cell} {tx : TE} {Φ : SD → List Cell → Prop}
theorem isi_of {T : String} {f : Ty → Bool} (hf : ∀ t : Ty, kitB t.name T = some (f t)) (h : Wp K tx sl cl fun r cl1 => ∃ t, tyY cl1 r = some t ∧ Φ (.dat (.bool (f t))) cl1) : Wp K (tCB (rIsi K) (tCons tx (tCons (tC (.ty T)) tNil))) sl cl Φ :=
  wp_isi (h.mono fun r cl1 ⟨t, e, q⟩ => ⟨t.name, f t, tyY_S e, hf t, q⟩)
theorem isi_int (h : Wp K tx sl cl fun r cl1 => ∃ t, tyY cl1 r = some t ∧ Φ (.dat (.bool t.isInt)) cl1) : Wp K (tCB (rIsi K) (tCons tx (tCons (tC (.ty "int")) tNil))) sl cl Φ := isi_of (fun t => by cases t <;> decide +kernel) h
theorem isi_bool (h : Wp K tx sl cl fun r cl1 => ∃ t, tyY cl1 r = some t ∧ Φ (.dat (.bool t.isBool)) cl1) : Wp K (tCB (rIsi K) (tCons tx (tCons (tC (.ty "bool")) tNil))) sl cl Φ := isi_of (fun t => by cases t <;> decide +kernel) h
theorem isi_str (h : Wp K tx sl cl fun r cl1 => ∃ t, tyY cl1 r = some t ∧ Φ (.dat (.bool t.isStr)) cl1) : Wp K (tCB (rIsi K) (tCons tx (tCons (tC (.ty "str")) tNil))) sl cl Φ := isi_of (fun t => by cases t <;> decide +kernel) h
theorem isi_list (h : Wp K tx sl cl fun r cl1 => ∃ t, tyY cl1 r = some t ∧ Φ (.dat (.bool t.isList)) cl1) : Wp K (tCB (rIsi K) (tCons tx (tCons (tC (.ty "list")) tNil))) sl cl Φ := isi_of (fun t => by cases t <;> decide +kernel) h
theorem isi_tuple (h : Wp K tx sl cl fun r cl1 => ∃ t, tyY cl1 r = some t ∧ Φ (.dat (.bool t.isTuple)) cl1) : Wp K (tCB (rIsi K) (tCons tx (tCons (tC (.ty "tuple")) tNil))) sl cl Φ := isi_of (fun t => by cases t <;> decide +kernel) h
theorem isi_seq (h : Wp K tx sl cl fun r cl1 => ∃ t, tyY cl1 r = some t ∧ Φ (.dat (.bool t.isSeq)) cl1) : Wp K (tCB (rIsiT K) (tCons tx (tCons (tTup (tCons (tC (.ty "list")) (tCons (tC (.ty "tuple")) tNil))) tNil))) sl cl Φ :=
  wp_isi2 (h.mono fun r cl1 ⟨t, e, q⟩ => ⟨t.name, t.isList, t.isTuple, tyY_S e, by cases t <;> decide +kernel, by cases t <;> decide +kernel, by cases t <;> exact q⟩)
end
theorem iteT0 {A B : Prop} {_i : Decidable (true = true)} (h : A) : @ite Prop (true = true) _i A B := by rw [if_pos rfl]; exact h
theorem iteF0 {A B : Prop} {_i : Decidable (false = true)} (h : B) : @ite Prop (false = true) _i A B := by rw [if_neg Bool.false_ne_true]; exact h
theorem iteNT {A B : Prop} {_i : Decidable ((!true) = true)} (h : B) : @ite Prop ((!true) = true) _i A B := by rw [if_neg (show ¬ ((!true) = true) from fun z => nomatch z)]; exact h
theorem iteNF {A B : Prop} {_i : Decidable ((!false) = true)} (h : A) : @ite Prop ((!false) = true) _i A B := by rw [if_pos (show (!false) = true from rfl)]; exact h
theorem iteB {b : Bool} {P Q : Prop} {_i : Decidable (b = true)} (h1 : b = true → P) (h2 : b = false → Q) : @ite Prop (b = true) _i P Q := by
  cases b with
  | true => exact iteT0 (h1 rfl)
  | false => exact iteF0 (h2 rfl)
/-! calls whose promises hang on no cell -/
section
variable {K : PySem.W.Frag} {sl : List SD} {cl : List Cell} {Φ : SD → List Cell → Prop} {rs : List SD} {ds es : List PyData} {d : PyData}
theorem remaps_dats : ∀ {rs : List SD} {ds : List PyData}, dats rs = some ds → remaps [] rs = some (ds.map .dat)
  | [], _, e => by cases e; rfl
  | r :: rs, ds, e => by
    cases r with
    | dat d =>
      unfold dats at e
      cases q : dats rs with
      | none => rw [q] at e; cases e
      | some es =>
        rw [q] at e
        cases e
        unfold remaps
        rw [remaps_dats q] <;> rfl
    | _ => cases e
/-- on data ds the value is d -/
def prD (R : List PyData → PyData → Prop) : Pr := fun as cl Φ => ∃ ds d, as = ds.map .dat ∧ cl = [] ∧ R ds d ∧ Φ (.dat d) []
theorem call_dat {R : List PyData → PyData → Prop} (e : dats rs = some ds) (h : R ds d) (q : Φ (.dat d) cl) : CallOk (prD R) rs sl cl [] Φ :=
  ⟨List.nodup_nil, fun k hk => absurd hk (by simp), _, remaps_dats e, ds, d, rfl, rfl, h, Nat.zero_le _, by
    show Φ (.dat d) (cl ++ [])
    rw [List.append_nil]
    exact q⟩
/-- a new list of its own -/
def prO (R : List PyData → List PyData → Prop) : Pr := fun as cl Φ => ∃ ds es, as = ds.map .dat ∧ cl = [] ∧ R ds es ∧ Φ (.own 0) [.lst es]
theorem call_own {R : List PyData → List PyData → Prop} (e : dats rs = some ds) (h : R ds es) (q : Φ (.own cl.length) (cl ++ [.lst es])) : CallOk (prO R) rs sl cl [] Φ :=
  ⟨List.nodup_nil, fun k hk => absurd hk (by simp), _, remaps_dats e, ds, es, rfl, rfl, h, Nat.zero_le _, q⟩
/-- the crate: some ints, the third of them at most n -/
def Crate (n : Nat) (c : Cell) : Prop := ∃ a b k : Int, c = .lst [.int a, .int b, .int k] ∧ 0 ≤ a ∧ b.natAbs < 2 ^ 200 ∧ 0 ≤ k ∧ k ≤ n
theorem Crate.mono {n m : Nat} {c : Cell} (h : Crate n c) (l : n ≤ m) : Crate m c := by
  obtain ⟨a, b, k, e, h1, h2, h3, h4⟩ := h
  exact ⟨a, b, k, e, h1, h2, h3, by omega⟩
/-- a def that draws: its first argument the crate; at most w draws; the value is one of R -/
def prC (w : List PyData → Nat) (R : List PyData → PyData → Prop) : Pr := fun as cl Φ => ∃ ds n c, as = .own 0 :: ds.map .dat ∧ cl = [c] ∧ Crate n c ∧ n + w ds ≤ 1000000 ∧ (∃ d, R ds d) ∧ ∀ d c', R ds d → Crate (n + w ds) c' → Φ (.dat d) [c']
theorem remap1 : ∀ {k : Nat} {rs : List SD} {ds : List PyData}, dats rs = some ds → remaps [k] rs = some (ds.map .dat)
  | _, [], _, e => by cases e; rfl
  | k, r :: rs, ds, e => by
    cases r with
    | dat d =>
      unfold dats at e
      cases q : dats rs with
      | none => rw [q] at e; cases e
      | some es =>
        rw [q] at e
        cases e
        unfold remaps
        rw [remap1 q] <;> rfl
    | _ => cases e
theorem call_draw {k n : Nat} {w : List PyData → Nat} {c : Cell} {R : List PyData → PyData → Prop} (e : dats rs = some ds) (hk : cl[k]? = some c) (hc : Crate n c) (hn : n + w ds ≤ 1000000) (hx : ∃ d, R ds d) (q : ∀ d c', R ds d → Crate (n + w ds) c' → Φ (.dat d) (cl.set k c')) : CallOk (prC w R) (.own k :: rs) sl cl [k] Φ := by
  refine ⟨by simp, fun j hj => ?_, .own 0 :: ds.map .dat, ?_, ds, n, c, rfl, ?_, hc, hn, hx, fun d c' hd hc' => ⟨Nat.le_refl _, ?_⟩⟩
  · rw [List.mem_singleton.mp hj]; exact (List.getElem?_eq_some_iff.mp hk).1
  · unfold remaps
    rw [remap1 e]
    have : remap [k] (.own k) = some (.own 0) := by
      show ([k].idxOf? k).map SD.own = _
      rw [show [k].idxOf? k = some 0 by simp [List.idxOf?]] <;> rfl
    rw [this]
  · show [(cl[k]?).getD .dead] = [c]
    rw [hk] <;> rfl
  · show Φ (.dat d) ((cl.set k c') ++ [])
    rw [List.append_nil]
    exact q d c' hd hc'
theorem wp_callE {P : Pr} {E : XK} {tr : TA} (h : WpA K tr sl cl fun rs cl1 => ∃ sel, CallOk P rs sl cl1 sel Φ) : Wp K (tCall (spS K P) [] E tr) sl cl Φ := by
  intro A B ls τ σ H s Q k
  refine h A B ls τ σ H s _ fun vs H1 rs cl1 ls1 e1 h1 hl s1 => ?_
  obtain ⟨sel, h1⟩ := h1
  show spS K P (vs ++ []) H1 Q E
  rw [List.append_nil]
  exact run_call s1 hl (fun p hp => List.mem_append_left _ hp) h1 fun v H' r cl' ls' e2 f s2 => k v H' r cl' ls' (e1.trans e2) f (s2.sub fun p hp => by
    rcases List.mem_cons.mp hp with z | z
    · rw [z]; exact List.mem_cons_self
    · exact List.mem_cons_of_mem _ (List.mem_append_right _ z))
theorem hlenD {R : List PyData → PyData → Prop} {n : Nat} (h : ∀ ds d, R ds d → ds.length = n) : ∀ as cl Φ, prD R as cl Φ → as.length = n := fun as cl Φ ⟨ds, d, e, _, r, _⟩ => by rw [e, List.length_map]; exact h _ _ r
theorem hlenO {R : List PyData → List PyData → Prop} {n : Nat} (h : ∀ ds d, R ds d → ds.length = n) : ∀ as cl Φ, prO R as cl Φ → as.length = n := fun as cl Φ ⟨ds, d, e, _, r, _⟩ => by rw [e, List.length_map]; exact h _ _ r
theorem hlenC {w : List PyData → Nat} {n : Nat} {R : List PyData → PyData → Prop} (h : ∀ ds d, R ds d → ds.length = n) : ∀ as cl Φ, prC w R as cl Φ → as.length = n + 1 := fun as cl Φ ⟨ds, _, _, e, _, _, _, ⟨d, r⟩, _⟩ => by rw [e, List.length_cons, List.length_map, h _ _ r]
end

theorem iteDT {c : Prop} {_i : Decidable c} {A B : Prop} {_j : Decidable (decide c = true)} (hc : c) (h : A) : @ite Prop (decide c = true) _j A B := by rw [if_pos (decide_eq_true hc)]; exact h
theorem iteDF {c : Prop} {_i : Decidable c} {A B : Prop} {_j : Decidable (decide c = true)} (hc : ¬ c) (h : B) : @ite Prop (decide c = true) _j A B := by rw [if_neg (by rw [decide_eq_false hc]; exact Bool.false_ne_true)]; exact h
theorem iteND {c : Prop} {_i : Decidable c} {A B : Prop} {_j : Decidable ((!decide c) = true)} (hc : c) (h : B) : @ite Prop ((!decide c) = true) _j A B := by rw [if_neg (by rw [decide_eq_true hc]; exact Bool.false_ne_true)]; exact h
theorem iteNDF {c : Prop} {_i : Decidable c} {A B : Prop} {_j : Decidable ((!decide c) = true)} (hc : ¬ c) (h : A) : @ite Prop ((!decide c) = true) _j A B := by rw [if_pos (by rw [decide_eq_false hc] <;> rfl)]; exact h
/-- a decided test, both ways -/
theorem iteD {c : Prop} {_i : Decidable c} {A B : Prop} {_j : Decidable (decide c = true)} (h1 : c → A) (h2 : ¬ c → B) : @ite Prop (decide c = true) _j A B := by
  by_cases hc : c
  · exact iteDT hc (h1 hc)
  · exact iteDF hc (h2 hc)
theorem iteNDD {c : Prop} {_i : Decidable c} {A B : Prop} {_j : Decidable ((!decide c) = true)} (h1 : ¬ c → A) (h2 : c → B) : @ite Prop ((!decide c) = true) _j A B := by
  by_cases hc : c
  · exact iteND hc (h2 hc)
  · exact iteNDF hc (h1 hc)
section
variable {K : PySem.W.Frag} {sl : List SD} {cl : List Cell} {Φ : SD → List Cell → Prop} {r : SD}
theorem wc_lenS {z : Str} (h : r = .dat (.str z)) (hz : z.length ≤ 100000) (q : Φ (.dat (.int z.length)) cl) : Wc K (fun xs H Q => ∃ x n, xs = [x] ∧ LenV K x H n ∧ Q (.int n) H) [r] sl cl Φ := by
  subst h
  exact wc_len (show (if z.length ≤ 100000 then some z.length else none) = some z.length from if_pos hz) q
theorem bools_true : ∀ {ds : List PyData}, (∀ d ∈ ds, d = .bool true) → ds = (List.replicate ds.length true).map .bool
  | [], _ => rfl
  | d :: ds, h => by
    show d :: ds = .bool true :: (List.replicate ds.length true).map .bool
    rw [h d List.mem_cons_self, ← bools_true fun e he => h e (List.mem_cons_of_mem _ he)]
theorem wc_allT {ds : List PyData} (h : seeL cl r = some ds) (ht : ∀ d ∈ ds, d = .bool true) (q : Φ (.dat (.bool true)) cl) : Wc K (rAll K) [r] sl cl Φ := by
  refine wc_all (bs := List.replicate ds.length true) (by rw [h]; exact congrArg some (bools_true ht)) ?_
  have : (List.replicate ds.length true).all id = true := by rw [List.all_eq_true]; intro x hx; exact (List.mem_replicate.mp hx).2
  rw [this]
  exact q
theorem filterMap_snoc {α β : Type} {f : α → Option β} {ds : List α} {i : Nat} {d : α} (h : ds[i]? = some d) : (ds.take (i + 1)).filterMap f = (ds.take i).filterMap f ++ (f d).toList := by
  rw [List.take_add_one, h, List.filterMap_append]
  congr 1
/-- a comprehension that touches no cell: what it makes of each item -/
theorem lc_map {wi : TI} {g : TG} {tt : TT} {te : TE} {vs : List Nat} (f : PyData → Option PyData) (h : WpI K wi sl cl fun ds cl1 => ds.length ≤ 100000 ∧ GK g vs ∧ (∀ (i : Nat) d, ds[i]? = some d →
    WpG K g (.dat d) (wipeS sl vs) cl1 fun sl2 => WpT K tt sl2 cl1 fun b cl2 => cl2 = cl1 ∧ if b = true then Wp K te sl2 cl1 fun r cl3 => ∃ d', r = .dat d' ∧ cl3 = cl1 ∧ f d = some d' else f d = none) ∧ Φ (.dat (.list (ds.filterMap f))) cl1) : Wp K (tLc wi g tt te vs) sl cl Φ := by
  refine lc_raw (own := false) (fun A B ls τ σ H s R k => h A B ls τ σ H s R fun J H' A' ds cl' ls' p q eA s' it => k J H' A' ds cl' ls' p ?_ eA s' it)
  obtain ⟨hz, hg, hs, hd⟩ := q
  refine ⟨hz, hg, fun i acc cl2 => acc = (ds.take i).filterMap f ∧ cl2 = cl', ⟨by simp, rfl⟩, fun i d acc cl2 hi ⟨ea, ec⟩ _ _ => ?_, fun acc cl2 ⟨ea, ec⟩ _ _ => ?_⟩
  · subst ec
    have h1 := hs i d hi
    intro A B ls τ σ H x s hm Q k
    refine h1 A B ls τ σ H x s hm Q fun σ' sl' f1 s1 => k σ' sl' (f1.mono fun b cl3 ⟨e, w⟩ => ?_) s1
    subst e
    cases b with
    | true =>
      show Wp _ _ _ _ _
      have w : Wp K te sl' cl3 fun r cl4 => ∃ d', r = .dat d' ∧ cl4 = cl3 ∧ f d = some d' := w
      refine w.mono fun r cl4 ⟨d', e1, e2, e3⟩ => ⟨d', e1, ?_, by rw [e2, List.take_length]⟩
      rw [ea, filterMap_snoc hi, e3] <;> rfl
    | false =>
      have w : f d = none := w
      refine ⟨?_, by rw [List.take_length]⟩
      rw [ea, filterMap_snoc hi, w]
      exact (List.append_nil _).symm
  · show Φ (.dat (.list acc)) cl2
    rw [ea, ec, List.take_length]
    exact hd
end
end Sy
end

section
namespace Sy
/-! a conditional whose way is known, whatever its instance -/
theorem iteYes {c : Prop} {i : Decidable c} {A B : Prop} (hc : c) (h : A) : @ite Prop c i A B := by rw [if_pos hc]; exact h
theorem iteNo {c : Prop} {i : Decidable c} {A B : Prop} (hc : ¬ c) (h : B) : @ite Prop c i A B := by rw [if_neg hc]; exact h
end Sy
end

section
namespace Sy
open PySem L2 Evl
/-! dicts with int and text keys, owned -/
def valD (kvs : List (Key × PyData)) (k : Key) : Option PyData := (kvs.find? fun kv => decide (kv.1 = k)).map (·.2)
def putD (kvs : List (Key × PyData)) (k : Key) (d : PyData) : List (Key × PyData) :=
  if (kvs.any fun kv => decide (kv.1 = k)) = true then kvs.map (fun kv => if kv.1 = k then (kv.1, d) else kv) else kvs ++ [(k, d)]
theorem rpkv_any {G : Hp} : ∀ {a : List (Key × V)} {b : List (Key × PyData)}, RpKV K G a b → ∀ k : Key, (a.any fun kv => decide (kv.1 = k)) = (b.any fun kv => decide (kv.1 = k))
  | _, _, .nil, _ => rfl
  | _, _, .cons h r, k => by rw [List.any_cons, List.any_cons, h.1, rpkv_any r k]
theorem rpkv_val {G : Hp} : ∀ {a : List (Key × V)} {b : List (Key × PyData)}, RpKV K G a b → ∀ k : Key, (valV a k = none ∧ valD b k = none) ∨ ∃ v d, valV a k = some v ∧ valD b k = some d ∧ Rp K G v d
  | _, _, .nil, _ => .inl ⟨rfl, rfl⟩
  | p :: a, q :: b, .cons h r, k => by
    by_cases e : p.1 = k
    · refine .inr ⟨p.2, q.2, valV_pos e, ?_, h.2⟩
      have e2 : q.1 = k := h.1 ▸ e
      unfold valD
      rw [List.find?_cons_of_pos (by simpa using e2)] <;> rfl
    · have e2 : ¬ q.1 = k := h.1 ▸ e
      have z1 := valV_neg (r := a) e
      have z2 : valD (q :: b) k = valD b k := by
        unfold valD
        rw [List.find?_cons_of_neg (by simpa using e2)]
      rw [z1, z2]
      exact rpkv_val r k
theorem rpkv_len {G : Hp} : ∀ {a : List (Key × V)} {b : List (Key × PyData)}, RpKV K G a b → a.length = b.length
  | _, _, .nil => rfl
  | _, _, .cons _ r => congrArg (· + 1) (rpkv_len r)
theorem rpkv_map {G : Hp} {k : Key} {v : V} {d : PyData} (hd : Rp K G v d) : ∀ {a : List (Key × V)} {b : List (Key × PyData)}, RpKV K G a b → RpKV K G (a.map fun kv => if kv.1 = k then (kv.1, v) else kv) (b.map fun kv => if kv.1 = k then (kv.1, d) else kv)
  | _, _, .nil => .nil
  | p :: a, q :: b, .cons h r => by
    refine .cons ?_ (rpkv_map hd r)
    dsimp only
    by_cases e : p.1 = k
    · have e2 : q.1 = k := h.1 ▸ e
      rw [if_pos e, if_pos e2]
      exact ⟨h.1, hd⟩
    · have e2 : ¬ q.1 = k := h.1 ▸ e
      rw [if_neg e, if_neg e2]
      exact h
theorem rpkv_app {G : Hp} {k : Key} {v : V} {d : PyData} (hd : Rp K G v d) : ∀ {a : List (Key × V)} {b : List (Key × PyData)}, RpKV K G a b → RpKV K G (a ++ [(k, v)]) (b ++ [(k, d)])
  | _, _, .nil => .cons ⟨rfl, hd⟩ .nil
  | _, _, .cons h r => .cons h (rpkv_app hd r)
theorem rpkv_put {G : Hp} {k : Key} {v : V} {d : PyData} (hd : Rp K G v d) {a : List (Key × V)} {b : List (Key × PyData)} (h : RpKV K G a b) : RpKV K G (putK a k v) (putD b k d) := by
  unfold putK putD
  rw [rpkv_any h k]
  by_cases c : (b.any fun kv => decide (kv.1 = k)) = true
  · rw [if_pos c, if_pos c]; exact rpkv_map hd h
  · rw [if_neg c, if_neg c]; exact rpkv_app hd h
theorem valD_put {kvs : List (Key × PyData)} {k j : Key} {d : PyData} : valD (putD kvs k d) j = if j = k then some d else valD kvs j := by
  unfold putD
  by_cases c : (kvs.any fun kv => decide (kv.1 = k)) = true
  · rw [if_pos c]
    induction kvs with
    | nil => cases c
    | cons p r ih =>
      rw [List.map_cons]
      by_cases e : p.1 = k
      · rw [if_pos e]
        by_cases ej : j = k
        · rw [if_pos ej]
          unfold valD
          rw [List.find?_cons_of_pos (by simp [e, ej])] <;> rfl
        · rw [if_neg ej]
          have n1 : ¬ p.1 = j := fun z => ej (z.symm.trans e)
          unfold valD
          rw [List.find?_cons_of_neg (by simpa using n1), List.find?_cons_of_neg (by simpa using n1)]
          by_cases c' : (r.any fun kv => decide (kv.1 = k)) = true
          · have := ih c'
            rw [if_neg ej] at this
            exact this
          · have nk : ∀ q ∈ r, ¬ q.1 = k := fun q hq z => c' (List.any_eq_true.mpr ⟨q, hq, by simpa using z⟩)
            have : (r.map fun kv => if kv.1 = k then (kv.1, d) else kv) = r := by
              rw [List.map_congr_left (g := id) fun q hq => by rw [if_neg (nk q hq)] <;> rfl, List.map_id]
            rw [this]
      · rw [if_neg e]
        have c' : (r.any fun kv => decide (kv.1 = k)) = true := by
          rw [List.any_cons, Bool.or_eq_true] at c
          rcases c with z | z
          · exact absurd (of_decide_eq_true z) e
          · exact z
        have := ih c'
        by_cases ej : p.1 = j
        · have nj : ¬ j = k := fun z => e (ej.trans z)
          rw [if_neg nj]
          unfold valD
          rw [List.find?_cons_of_pos (by simpa using ej), List.find?_cons_of_pos (by simpa using ej)]
        · unfold valD at this ⊢
          rw [List.find?_cons_of_neg (by simpa using ej), List.find?_cons_of_neg (by simpa using ej)]
          exact this
  · rw [if_neg c]
    have nk : ∀ q ∈ kvs, ¬ q.1 = k := fun q hq z => c (List.any_eq_true.mpr ⟨q, hq, by simpa using z⟩)
    unfold valD
    rw [List.find?_append]
    by_cases ej : j = k
    · rw [if_pos ej]
      have : kvs.find? (fun kv => decide (kv.1 = j)) = none := List.find?_eq_none.mpr fun q hq => by rw [ej]; simpa using nk q hq
      rw [this]
      simp [ej]
    · rw [if_neg ej]
      have : ([(k, d)] : List (Key × PyData)).find? (fun kv => decide (kv.1 = j)) = none := by
        rw [List.find?_cons_of_neg (by simpa using fun z => ej z.symm)] <;> rfl
      rw [this]
      simp
theorem putD_len {kvs : List (Key × PyData)} {k : Key} {d : PyData} : (putD kvs k d).length ≤ kvs.length + 1 := by
  unfold putD
  split
  · rw [List.length_map]; omega
  · rw [List.length_append] <;> simp
section
variable {K : PySem.W.Frag} {sl : List SD} {cl : List Cell} {Φ : SD → List Cell → Prop} {td ty tv : TE} {E : SE}
theorem wp_dget1 (h : Wp K td sl cl fun rd cl1 => ∃ k, rd = .own k ∧ (∃ kvs, cl1[k]? = some (.dic kvs)) ∧ Wp K ty sl cl1 fun r cl2 => ∃ z kvs, r = .dat (.str z) ∧ cl2[k]? = some (.dic kvs) ∧ Φ (.dat ((valD kvs (Sum.inr z)).getD .none)) cl2) : Wp K (tDGet1 td ty) sl cl Φ := by
  intro A B ls τ σ H s Q q
  refine h A B ls τ σ H s _ fun vo H1 ro cl1 ls1 p1 f1 s1 => ?_
  obtain ⟨k, rfl, ⟨kv0, h0⟩, f1⟩ := f1
  obtain ⟨G1, c1⟩ := s1
  obtain ⟨l, rfl, e1⟩ := c1.tmp _ List.mem_cons_self
  obtain ⟨_, xs0, e2, _⟩ := c1.cells k l _ e1 h0
  refine ⟨l, rfl, .inl ⟨xs0, .inl e2⟩, ?_⟩
  refine f1 A B ls1 _ σ H1 c1.sta _ fun v H2 r cl2 ls2 p2 f2 s2 => ?_
  obtain ⟨z, kvs, rfl, h3, f2⟩ := f2
  obtain ⟨G2, c2⟩ := s2
  cases c2.dat (d := .str z) List.mem_cons_self
  have e3 : ls2[k]? = some l := by
    obtain ⟨t, rfl⟩ := p2
    rw [List.getElem?_append_left (List.getElem?_eq_some_iff.mp e1).1]; exact e1
  obtain ⟨g, xs, e4, rv⟩ := c2.cells k l _ e3 h3
  refine ⟨valV xs (Sum.inr z), DGet.k (k := Sum.inr z) e4, ?_⟩
  rcases rpkv_val rv (Sum.inr z) with ⟨a, b⟩ | ⟨w, d, a, b, rw'⟩
  · rw [b] at f2
    rw [a]
    exact q _ H2 _ cl2 ls2 (p1.trans p2) f2 (c2.pop.pop.push (r := .dat .none) .non).sta
  · rw [b] at f2
    rw [a]
    exact q _ H2 _ cl2 ls2 (p1.trans p2) f2 (c2.pop.pop.push (r := .dat d) rw').sta
theorem wp_dnotin (h : Wp K ty sl cl fun r cl1 => Wp K td sl cl1 fun rd cl2 => ∃ z k kvs, r = .dat (.str z) ∧ rd = .own k ∧ cl2[k]? = some (.dic kvs) ∧ Φ (.dat (.bool (!(valD kvs (Sum.inr z)).isSome))) cl2) : Wp K (tDNotIn ty td) sl cl Φ := by
  intro A B ls τ σ H s Q q
  refine h A B ls τ σ H s _ fun v H1 r cl1 ls1 p1 f1 s1 => ?_
  refine f1 A B ls1 _ σ H1 s1 _ fun vo H2 rd cl2 ls2 p2 f2 s2 => ?_
  obtain ⟨z, k, kvs, rfl, rfl, h3, f2⟩ := f2
  obtain ⟨G2, c2⟩ := s2
  obtain ⟨l, rfl, e3⟩ := c2.tmp _ List.mem_cons_self
  cases c2.dat (d := .str z) (List.mem_cons_of_mem _ List.mem_cons_self)
  obtain ⟨g, xs, e4, rv⟩ := c2.cells k l _ e3 h3
  refine ⟨l, valV xs (Sum.inr z), rfl, DGet.k (k := Sum.inr z) e4, ?_⟩
  have e : (valV xs (Sum.inr z)).isSome = (valD kvs (Sum.inr z)).isSome := by
    rcases rpkv_val rv (Sum.inr z) with ⟨a, b⟩ | ⟨w, d, a, b, _⟩
    · rw [a, b] <;> rfl
    · rw [a, b] <;> rfl
  rw [e]
  exact q _ H2 _ cl2 ls2 (p1.trans p2) f2 (c2.pop.pop.push (r := .dat (.bool _)) (.bl _)).sta
theorem ws_dput (h : Wp K tv sl cl fun r cl1 => Wp K td sl cl1 fun rd cl2 => Wp K ty sl cl2 fun rk cl3 => ∃ d k z kvs, r = .dat d ∧ rd = .own k ∧ rk = .dat (.str z) ∧ cl3[k]? = some (.dic kvs) ∧ kvs.length < 100000 ∧ E.nx sl (cl3.set k (.dic (putD kvs (Sum.inr z) d)))) : WpS K (sDPut td ty tv) sl cl E := by
  intro A B ls τ σ H D s e
  refine h A B ls τ σ H s _ fun v H1 r cl1 ls1 p1 f1 s1 => ?_
  refine f1 A B ls1 _ σ H1 s1 _ fun vo H2 ro cl2 ls2 p2 f2 s2 => ?_
  refine f2 A B ls2 _ σ H2 s2 _ fun vk H3 rk cl3 ls3 p3 f3 s3 => ?_
  obtain ⟨d, k, z, kvs, rfl, rfl, rfl, h3, hz, f3⟩ := f3
  obtain ⟨G, c⟩ := s3
  cases c.dat (d := .str z) List.mem_cons_self
  obtain ⟨l, rfl, e1⟩ := c.tmp (vo, .own k) (List.mem_cons_of_mem _ List.mem_cons_self)
  have rd : Rp K G v d := c.dat (List.mem_cons_of_mem _ (List.mem_cons_of_mem _ List.mem_cons_self))
  obtain ⟨g, xs, e4, rv⟩ := c.cells k l _ e1 h3
  refine ⟨l, _, rfl, DPut.k (k := Sum.inr z) e4 (sz_lt (by rw [rpkv_len rv]; exact hz)), ?_⟩
  have c3 := c.mut e1 h3 trivial (.dK (putK xs (Sum.inr z) v)) (.dic (putD kvs (Sum.inr z) d)) ⟨g, _, upd_same, rpkv_put rd rv⟩
  exact e.nx _ _ sl _ ls3 ((p1.trans p2).trans p3) f3 (c3.sta.sub fun p hp => List.mem_cons_of_mem _ (List.mem_cons_of_mem _ (List.mem_cons_of_mem _ hp)))
theorem wi_revR {te : TE} {Φi : List PyData → List Cell → Prop} (h : Wp K te sl cl fun r cl1 => ∃ n : Int, r = .dat (.int n) ∧ -100000 ≤ n ∧ n ≤ 100000 ∧ Φi (rvD 0 n.toNat) cl1) : WpI K (iRevR (tRg1 te)) sl cl Φi := by
  intro A B ls τ σ H s R k
  refine h A B ls τ σ H s _ fun v H1 r cl1 ls1 p f s1 => ?_
  obtain ⟨n, rfl, h1, h2, q⟩ := f
  obtain ⟨G, c⟩ := s1
  cases c.dat (d := .int n) List.mem_cons_self
  refine ⟨n, rfl, by omega, by omega, by omega, by omega, ?_⟩
  have e : (n - 0).toNat = n.toNat := by rw [Int.sub_zero]
  rw [e]
  exact k _ H1 A _ cl1 ls1 p q (Ex.refl A) c.pop.sta it_rv
end
end Sy
namespace Sy
open PySem L2 Evl
/-! slots forgotten, by their places -/
def WkL : List SD → List SD → Prop
  | [], [] => True
  | a :: s, b :: t => (b = a ∨ b = .unk) ∧ WkL s t
  | _, _ => False
theorem WkL.wk : ∀ {s t : List SD}, WkL s t → Wk s t
  | [], [], _ => ⟨rfl, fun i sd h _ => by simp at h⟩
  | a :: s, b :: t, ⟨h, r⟩ => by
    obtain ⟨l, w⟩ := WkL.wk r
    refine ⟨congrArg (· + 1) l, fun i sd e n => ?_⟩
    cases i with
    | zero =>
      have e' : b = sd := Option.some.inj e
      subst e'
      rcases h with h | h
      · rw [h] <;> rfl
      · exact absurd h n
    | succ i => exact w i sd e n
  | [], _ :: _, h => h.elim
  | _ :: _, [], h => h.elim
def LowL (m : Nat) : List SD → Prop
  | [] => True
  | .own k :: t => k < m ∧ LowL m t
  | .tup is :: t => (∀ k ∈ is.flatMap TI1.refs, k < m) ∧ LowL m t
  | _ :: t => LowL m t
theorem LowL.low {m : Nat} : ∀ {t : List SD}, LowL m t → Low m t
  | [], _, r, hr, _, _ => by cases hr
  | .own j :: t, ⟨h, r⟩, x, hx, k, hk => by
    rcases List.mem_cons.mp hx with z | z
    · subst z
      cases List.mem_singleton.mp (show k ∈ [j] from hk)
      exact h
    · exact LowL.low r x z k hk
  | .tup is :: t, ⟨h, r⟩, x, hx, k, hk => by
    rcases List.mem_cons.mp hx with z | z
    · subst z; exact h k hk
    · exact LowL.low r x z k hk
  | .unk :: t, r, x, hx, k, hk => by
    rcases List.mem_cons.mp hx with z | z
    · subst z; cases hk
    · exact LowL.low (t := t) r x z k hk
  | .dat d :: t, r, x, hx, k, hk => by
    rcases List.mem_cons.mp hx with z | z
    · subst z; cases hk
    · exact LowL.low (t := t) r x z k hk
  | .adr d :: t, r, x, hx, k, hk => by
    rcases List.mem_cons.mp hx with z | z
    · subst z; cases hk
    · exact LowL.low (t := t) r x z k hk
  | .scr d :: t, r, x, hx, k, hk => by
    rcases List.mem_cons.mp hx with z | z
    · subst z; cases hk
    · exact LowL.low (t := t) r x z k hk
theorem turn_of {m i : Nat} {Inv : Nat → List SD → List Cell → Prop} {sl3 : List SD} {cl3 : List Cell} (sl4 : List SD) (w : WkL sl3 sl4) (l : LowL m sl4) (q : Inv (i + 1) sl4 (cl3.take m)) : turnNx m Inv i sl3 cl3 := ⟨sl4, w.wk, l.low, q⟩
theorem rvD_get {n i : Nat} {d : PyData} (h : (rvD 0 n)[i]? = some d) : i < n ∧ d = .int ((n - 1 - i : Nat) : Int) := by
  have hl : (rvD 0 n).length = n := by unfold rvD; rw [List.length_map, List.length_range]
  have hi := (List.getElem?_eq_some_iff.mp h).1
  rw [hl] at hi
  refine ⟨hi, ?_⟩
  unfold rvD at h
  rw [List.getElem?_map, List.getElem?_range hi] at h
  have e := (Option.some.inj h).symm
  rw [e]
  show PyData.int (0 + ((n : Int) - 1 - (i : Int))) = _
  rw [show (0 : Int) + ((n : Int) - 1 - (i : Int)) = ((n - 1 - i : Nat) : Int) by omega]
theorem rvD_len {n : Nat} : (rvD 0 n).length = n := by unfold rvD; rw [List.length_map, List.length_range]
theorem rep1 {α : Type} {x : α} : ∀ k : Nat, (List.replicate k [x]).flatten = List.replicate k x
  | 0 => rfl
  | k + 1 => by rw [List.replicate_succ, List.flatten_cons, rep1 k] <;> rfl
theorem atI_of {α : Type} {xs : List α} {i : Nat} (h : i < xs.length) : atI xs (i : Int) = some xs[i] := atI_nat (List.getElem?_eq_getElem h)
end Sy
namespace Sy
open PySem L2 Evl
section
variable {K : PySem.W.Frag} {sl : List SD} {cl : List Cell} {Φ : SD → List Cell → Prop} {r : SD}
/-- .. the new list its own -/
theorem lc_mapO {wi : TI} {g : TG} {tt : TT} {te : TE} {vs : List Nat} (f : PyData → Option PyData) (h : WpI K wi sl cl fun ds cl1 => ds.length ≤ 100000 ∧ GK g vs ∧ (∀ (i : Nat) d, ds[i]? = some d →
    WpG K g (.dat d) (wipeS sl vs) cl1 fun sl2 => WpT K tt sl2 cl1 fun b cl2 => cl2 = cl1 ∧ if b = true then Wp K te sl2 cl1 fun r cl3 => ∃ d', r = .dat d' ∧ cl3 = cl1 ∧ f d = some d' else f d = none) ∧ Φ (.own cl1.length) (cl1 ++ [.lst (ds.filterMap f)])) : Wp K (tLc wi g tt te vs) sl cl Φ := by
  refine lc_raw (own := true) (fun A B ls τ σ H s R k => h A B ls τ σ H s R fun J H' A' ds cl' ls' p q eA s' it => k J H' A' ds cl' ls' p ?_ eA s' it)
  obtain ⟨hz, hg, hs, hd⟩ := q
  refine ⟨hz, hg, fun i acc cl2 => acc = (ds.take i).filterMap f ∧ cl2 = cl', ⟨by simp, rfl⟩, fun i d acc cl2 hi ⟨ea, ec⟩ _ _ => ?_, fun acc cl2 ⟨ea, ec⟩ _ _ => ?_⟩
  · subst ec
    have h1 := hs i d hi
    intro A B ls τ σ H x s hm Q k
    refine h1 A B ls τ σ H x s hm Q fun σ' sl' f1 s1 => k σ' sl' (f1.mono fun b cl3 ⟨e, w⟩ => ?_) s1
    subst e
    cases b with
    | true =>
      show Wp _ _ _ _ _
      have w : Wp K te sl' cl3 fun r cl4 => ∃ d', r = .dat d' ∧ cl4 = cl3 ∧ f d = some d' := w
      refine w.mono fun r cl4 ⟨d', e1, e2, e3⟩ => ⟨d', e1, ?_, by rw [e2, List.take_length]⟩
      rw [ea, filterMap_snoc hi, e3] <;> rfl
    | false =>
      have w : f d = none := w
      refine ⟨?_, by rw [List.take_length]⟩
      rw [ea, filterMap_snoc hi, w]
      exact (List.append_nil _).symm
  · show Φ (.own cl2.length) (cl2 ++ [.lst acc])
    rw [ea, ec, List.take_length]
    exact hd
end
end Sy
end

section
namespace Sy
open PySem L2 Evl
theorem ok_ofD {K : PySem.W.Frag} {Pg : Program} {w : World} {mg : Str → Option Value} {base : Heap} {x qual : Str} {params : Arguments} {body : List Stmt} {scope : Scope} {dvs : List V} {kws : List (Str × V)} {f : Addr} {fd : FuncData} {N ps : List Str} {k : Nat} (P : Pr) (F : FunD K x qual params body scope dvs kws f fd) (S : FnScope N ps scope)
    (hP : ∀ as cl Φ, P as cl Φ → as.length = ps.length)
    (hbody : ∀ (cdv : Value) (A : Around) (outer : List Env) (s : Shared) (H : Hp) (E : XK), Room k (A.deeper (PyProof.Rows.envOfC qual scope s.heap.objs.size f cdv)) →
      ∃ t, PSs (cxOf CX0 Pg w K mg base N qual scope f cdv A outer s H E).nox body t ∧ ∀ as cl Φ, P as cl Φ → WpS K t (as ++ List.replicate (N.length - ps.length) .unk) cl (endsF cl.length Φ)) : FnOk Pg w K mg base CX0 (k + 1) f fd ps (spS K P) := by
  refine F.ok S (fun vs H Q E h => ?_) (fun cdv A outer s H vs Q E hr h => ?_)
  · obtain ⟨A, B, ls, as, cl, Φ, hp, ⟨G, c⟩, _⟩ := h
    have := c.slen
    rw [List.length_map] at this
    rw [← this]
    exact hP _ _ _ hp
  · obtain ⟨t, h1, h2⟩ := hbody cdv A outer s H E hr
    exact ⟨t, h1.nox, body_ok hP h h2⟩
section
variable {X : Cx} {CX : CXT} {k n : Nat} {f : Addr} {fd : FuncData} {ps ks : List Str} {sp : Sp} {E : XK} {x : Str} {p pos : Pos} {kws : List Keyword} {tk : TA} {g : List Value → List Value → List Value} {gV : List V → List V → List V}
/-- f(k = v, ..) -/
theorem pe_callN0 (F : FnOk X.prog X.w X.K X.mg X.base CX k f fd ps sp) (hr : Room k X.A) (hg : Gl X x) (hm : X.mg x = some (.ref f)) (hk : PySem.W.keepIn X.K (.ref f) = true) (hb : KBn X.K fd ps 0 ks g gV) (hx : Passes CX X E) (hkw : PK X kws tk)
    (hall : (backToKw pos (keywordEach kws X.env)).all (·.1.isSome) = true := by rfl) (hks : (backToKw pos (keywordEach kws X.env)).filterMap (·.1) = ks := by rfl) (hdb : (x == ("__debug__" : Str)) = false := by decide)
    (hpl : ((backTo pos (starEach [] X.env)).any (·.1) || (backToKw pos (keywordEach kws X.env)).any (·.1.isNone)) = false := by rfl) :
    PE X (.Call (.Name x p) [] kws pos) (tCallN 0 ks.length sp gV E tNil tk) := by
  refine ⟨fun pins s σ H Q I h => ?_⟩
  refine wpAny_Call_Name_kw (ld_glob I hg hm ?_ hdb)
  refine PySem.W.callWith_KW0 (h₀ := X.base) I.ok.mod.kin hk hall ?_ hpl
  refine thn (hkw.run pos pins s σ H _ I h) fun ws s2 ⟨zs, H2, I2, rz, l1, l2, q2⟩ => ⟨I2.kIn, ?_⟩
  rw [hks]
  exact run_fnN (us := []) (vs := []) F hr hb hx I2 .nil rz rfl l2 q2
end
section
variable {K : PySem.W.Frag} {sl : List SD} {cl : List Cell} {Φ : SD → List Cell → Prop} {tr tk : TA}
theorem wp_callN {P : Pr} {n m : Nat} {gV : List V → List V → List V} {E : XK} (gS : List SD → List SD → List SD)
    (hg : ∀ (vs zs : List V) (rs qs : List SD), vs.length = rs.length → zs.length = qs.length → rs.length = n → qs.length = m → (gV vs zs).length = (gS rs qs).length ∧ ∀ p ∈ (gV vs zs).zip (gS rs qs), p ∈ vs.zip rs ∨ p ∈ zs.zip qs ∨ ∃ d, p.2 = .dat d ∧ sv p.1 = some d)
    (h : WpA K tr sl cl fun rs cl1 => WpA K tk sl cl1 fun qs cl2 => rs.length = n ∧ qs.length = m ∧ ∃ sel, CallOk P (gS rs qs) sl cl2 sel Φ) : Wp K (tCallN n m (spS K P) gV E tr tk) sl cl Φ := by
  intro A B ls τ σ H s Q k
  refine h A B ls τ σ H s _ fun vs H1 rs cl1 ls1 e1 h1 hl s1 => ?_
  refine h1 A B ls1 _ σ H1 s1 _ fun zs H2 qs cl2 ls2 e2 h2 hl2 s2 => ?_
  obtain ⟨n1, n2, sel, h2⟩ := h2
  obtain ⟨g1, g2⟩ := hg vs zs rs qs hl hl2 n1 n2
  refine ⟨hl.trans n1, hl2.trans n2, ?_⟩
  obtain ⟨G, c⟩ := s2
  have s3 : Sta K A B ls2 sl cl2 ((gV vs zs).zip (gS rs qs) ++ τ) σ H2 := ⟨G, c.tmps fun p hp => by
    rcases List.mem_append.mp hp with z | z
    · rcases g2 p z with z | z | ⟨d, z1, z2⟩
      · exact c.tmp p (List.mem_append_right _ (List.mem_append_left _ z))
      · exact c.tmp p (List.mem_append_left _ z)
      · rw [z1]; exact sv_rp z2
    · exact c.tmp p (List.mem_append_right _ (List.mem_append_right _ z))⟩
  exact run_call s3 g1 (fun p hp => List.mem_append_left _ hp) h2 fun v H' r cl' ls' e3 f s4 => k v H' r cl' ls' ((e1.trans e2).trans e3) f (s4.sub fun p hp => by
    rcases List.mem_cons.mp hp with z | z
    · rw [z]; exact List.mem_cons_self
    · exact List.mem_cons_of_mem _ (List.mem_append_right _ z))
theorem len2 {α : Type} {l : List α} (h : l.length = 2) : ∃ a b, l = [a, b] := by
  cases l with
  | nil => cases h
  | cons a r => cases r with
    | nil => cases h
    | cons b r2 => cases r2 with
      | nil => exact ⟨a, b, rfl⟩
      | cons _ _ => cases h
/-- one keyword, a def of one parameter -/
theorem wp_callN1 {P : Pr} {E : XK} (h : WpA K tk sl cl fun qs cl2 => qs.length = 1 ∧ ∃ sel, CallOk P qs sl cl2 sel Φ) : Wp K (tCallN 0 1 (spS K P) (fun _ zs => zs) E tNil tk) sl cl Φ :=
  wp_callN (fun _ qs => qs) (fun vs zs rs qs _ h2 _ _ => ⟨h2, fun p hp => .inr (.inl hp)⟩) (wa_nil fun A B ls τ σ H s Q k => h A B ls τ σ H s Q fun vs H' rs cl' ls' p ⟨n, q⟩ hl s' => k vs H' rs cl' ls' p ⟨rfl, n, q⟩ hl s')
/-- two keywords, in the other order -/
theorem wp_callN2 {P : Pr} {E : XK} (h : WpA K tk sl cl fun qs cl2 => ∃ a b, qs = [a, b] ∧ ∃ sel, CallOk P [b, a] sl cl2 sel Φ) : Wp K (tCallN 0 2 (spS K P) (fun _ zs => [zs.getD 1 .non, zs.getD 0 .non]) E tNil tk) sl cl Φ :=
  wp_callN (fun _ qs => [qs.getD 1 .unk, qs.getD 0 .unk]) (fun vs zs rs qs _ h2 _ h3 => ⟨rfl, fun p hp => .inr (.inl (by
    obtain ⟨a, b, rfl⟩ := len2 h3
    obtain ⟨x, y, rfl⟩ := len2 (h2.trans h3)
    rcases List.mem_cons.mp hp with z | z
    · rw [z]; exact List.mem_cons_of_mem _ List.mem_cons_self
    · rw [List.mem_singleton.mp z]; exact List.mem_cons_self))⟩)
    (wa_nil fun A B ls τ σ H s Q k => h A B ls τ σ H s Q fun vs H' rs cl' ls' p ⟨a, b, e, q⟩ hl s' => k vs H' rs cl' ls' p ⟨rfl, by rw [e] <;> rfl, by rw [e]; exact q⟩ hl s')
end
theorem pow18 : (10 : Int) ^ (18 : Int).toNat = 1000000000000000000 := by decide +kernel
theorem pow38 : (10 : Int) ^ (38 : Int).toNat = 100000000000000000000000000000000000000 := by decide +kernel
theorem pow39 : (10 : Int) ^ (39 : Int).toNat = 1000000000000000000000000000000000000000 := by decide +kernel
theorem pow40 : (10 : Int) ^ (40 : Int).toNat = 10000000000000000000000000000000000000000 := by decide +kernel
theorem pow12 : (10 : Int) ^ (12 : Int).toNat = 1000000000000 := by decide +kernel
theorem pow29 : (10 : Int) ^ (29 : Int).toNat = 100000000000000000000000000000 := by decide +kernel
theorem cpow {k : Int} (h : 0 ≤ k) (h2 : k ≤ 1000) : CPowW 10 k := by
  refine ⟨h, ?_⟩
  have e : (Builtin.Int.intBits 10 : Int) = 4 := by decide +kernel
  rw [e]
  have : (2 : Int) ^ 27 = 134217728 := by decide +kernel
  omega
theorem mul_l {i j : Int} (h1 : -1000000 ≤ i) (h2 : i ≤ 1000000) : CMul i j := .inl ⟨by omega, by omega⟩
theorem mul_r {i j : Int} (h1 : -1000000 ≤ j) (h2 : j ≤ 1000000) : CMul i j := .inr ⟨by omega, by omega⟩
theorem fdiv_ok {i j : Int} (h : 0 < j) (h2 : j ≤ 1000000000000) : CDivW i j := wide_div (b := 50) h (by
  have : (2 : Nat) ^ 50 = 1125899906842624 := by decide +kernel
  rw [this]; omega) (by decide) (by decide)
section
variable {K : PySem.W.Frag} {A B G G' H H' : Hp} {ls ls' : List Addr} {sl sl' : List SD} {cl cl' : List Cell} {τ τ' : List (V × SD)} {σ σ' : L2.St} {E : SE} {ta : TA} {g1 g2 : TG}
theorem Core.junk (c : Core K A B ls sl cl τ σ H G) {p : Addr} (h : H p = none) (o : HO) : Core K A B ls sl cl τ σ (upd H p o) G := by
  obtain ⟨h1, h2, h3⟩ := c.fresh h
  have eH : ∀ {b : Addr} {u : HO}, H b = some u → upd H p o b = some u := fun {b u} e => by
    have hb : b ≠ p := fun z => by rw [z, h] at e; cases e
    rw [upd_ne hb]; exact e
  refine ⟨c.exA, fun b u e => eH (c.exG _ _ e), fun b u e => eH (c.exB _ _ e), c.ban, c.banc, c.inj, c.len, fun i l d e1 e2 => ?_, c.slen, c.slots, c.tmp⟩
  by_cases hd : d.live
  · have hb : l ≠ p := fun z => h3 i d (z ▸ e1) e2 hd
    exact (c.cells i l d e1 e2).mono (Ex.refl G) (upd_ne hb) rfl
  · exact .of_dead hd
/-- a, b = (x, y), by a tuple that is thrown away -/
theorem ws_par2 {n : Nat} (hn : n = 2) (h : WpA K ta sl cl fun rs cl1 => ∃ r1 r2, rs = [r1, r2] ∧ WpG K g1 r1 sl cl1 fun sl1 => WpG K g2 r2 sl1 cl1 fun sl2 => E.nx sl2 cl1) : WpS K (tAsg (tTup ta) (gTup K n (gCons g1 (gCons g2 gNil)))) sl cl E := by
  intro A B ls τ σ H D s e
  refine h A B ls τ σ H s _ fun vs H1 rs cl1 ls1 p f hl s1 => ?_
  obtain ⟨r1, r2, rfl, q⟩ := f
  obtain ⟨v, w, rfl⟩ := len2 hl
  refine ⟨by show 2 ≤ sizeLine; decide, fun t ht => ?_⟩
  obtain ⟨G, c⟩ := s1
  have c' := c.junk ht (.tup [v, w])
  refine ⟨t, [v, w], rfl, SqT.of upd_same, hn.symm, v, [w], rfl, ?_⟩
  refine q A B ls1 _ σ _ v c'.sta List.mem_cons_self _ fun σ1 sl1 q1 s2 => ?_
  refine ⟨w, [], rfl, ?_⟩
  refine q1 A B ls1 _ σ1 _ w s2 (List.mem_cons_of_mem _ List.mem_cons_self) _ fun σ2 sl2 q2 s3 => ⟨rfl, ?_⟩
  exact e.nx σ2 _ sl2 cl1 ls1 p q2 (s3.sub fun p hp => List.mem_append_right _ hp)
end
theorem atI_mem {α : Type} {ds : List α} {x : Nat} (h : x < ds.length) : ∃ d, d ∈ ds ∧ atI ds (x : Int) = some d := ⟨ds[x], List.getElem_mem h, atI_of h⟩
end Sy
end

section
/-! sets of ints made of a list or a tuple, and sorted of them: any length below a thousand -/
namespace Sy
open PySem PySem.Spec PyProof.Rows L2
section
variable {A : Around} {P : Program} {w : World} {s : Shared} {E : Value → Shared → Prop}
/-- sorted of a set of ints, however many -/
theorem srt_set {a : Addr} {S : Int → Bool} {n : Nat} {Q : Value → Shared → Prop} (R : SetR w s.heap a S n) (hh : A.handled = none) (hz : n ≤ sizeLine)
    (hQ : ∀ s' p (out : List Value) (c : Nat) (ns : List Int), (∀ b o, s.heap.get? b = some o → s'.heap.get? b = some o) → s'.gens = s.gens → s'.os = s.os → s.heap.objs.size ≤ p →
      s'.heap.get? p = some (seqObj "list" out.toArray c) → IntsAre out ns → ns.Pairwise (· < ·) → (∀ k, k ∈ ns ↔ S k = true) → ns.length = n → Q (.ref p) s') :
    wpAny (model P w) A (call (.builtin "sorted") [.ref a]) Q E s := by -- all of them
  obtain ⟨o, es, ep, t, ho, hex, hd, gd, nd, hm, hb, hf, hn, hr, hl⟩ := R
  apply Calls.call_function_entry kind_sorted plain_sorted entry_sorted (args_sorted1 _)
  unfold Builtin.«sorted»
  apply wpAny_bind (m := checkCount "sorted" 1 1 _)
  apply wpAny_pure
  apply wpAny_bind
  refine collect_set (A := A.in1) hh ⟨o, ho, hex.1, hd⟩ hf hb hr hl fun s1 vs k1 lz g1 o1 pm => ?_
  have vl : vs.length = n := (pm.length_eq.trans ((List.length_map _).trans Array.length_toList)).trans hn
  have hI : IntsAre vs (vs.map Builtin.Re.reRawOf) := by
    apply ints_of vs
    intro v hv
    have hv2 := pm.mem_iff.mp hv
    obtain ⟨e, he, q⟩ := List.mem_map.mp hv2
    obtain ⟨k, tk, h1, _⟩ := gd e he
    exact ⟨k, tk, q.symm.trans h1⟩
  have pk : List.Perm (vs.map Builtin.Re.reRawOf) (es.toList.map keyOf) := by
    have z := List.Perm.map Builtin.Re.reRawOf pm
    rwa [List.map_map] at z
  have vz : vs.length ≤ sizeLine := vl ▸ hz
  apply wpAny_bind
  refine wpAny_newList ?_ vz
  have hoL : Heap.get? (s1.heap.push (seqObj "list" vs.toArray 0)) s1.heap.objs.size = some (seqObj "list" vs.toArray 0) :=
    Heap.get?_push_size _ rfl
  apply wpAny_bind
  apply wpAny_holding
  refine wpAny_call_entry slot_list_sort ⟨_, hoL, rfl⟩ entry_list_sort ?_ (args_list_sort _)
  refine SrtO.list_sort_ord SrtO.swo_int hoL vz (fun h2 => SrtO.ints_sortable hI h2) fun out hs hst => ⟨_, rfl, ?_⟩
  obtain ⟨q1, q2, q3⟩ := SrtO.ints_out hI hs hst
  obtain ⟨c, hc⟩ := sortedHeap_at (vs := vs) (out := out.toArray) hoL
  have pn := q2.trans pk
  apply wpAny_pure
  refine ⟨_, rfl, hQ _ s1.heap.objs.size out c (out.map SrtO.iv) (fun b u e => ?_) g1 o1 lz hc q1 (lt_of_le_nodup _ q3 (pn.nodup_iff.mpr nd)) (fun k => ?_) ?_⟩
  · have q := k1 b u e
    have lt := Heap.lt_size q
    have sz : b < (s1.heap.push (seqObj "list" vs.toArray 0)).objs.size := by
      rw [size_push']
      exact Nat.lt_succ_of_lt lt
    exact (sortedHeap_old (Nat.ne_of_lt lt) sz).trans (Heap.get?_push_of_some _ q)
  · exact pn.mem_iff.trans (hm k).symm
  · exact pn.length_eq.trans ((List.length_map _).trans (Array.length_toList.trans hn))

/-- a set, as it is laid empty -/
abbrev oNew (w : World) : Obj := { cls := .type "set", dict := none, data := .set #[] 0 (.fresh 0 0 (!w.params.followText "set-order")) }
abbrev hNew (w : World) (h : Heap) : Heap := h.push (oNew w)
/-- set(xs), xs a list of ints -/
theorem set_of_list {l : Addr} {items : Array Value} (ns : List Int) {Q : Value → Shared → Prop} (hh : A.handled = none) (hl : s.heap.IsList l items) (hit : IntsAre items.toList ns) (hb : ns.length + 1 < scanBound)
    (h : ∀ (h2 : Heap) (tk c : Nat), SetR w h2 s.heap.objs.size (fun j => decide (j ∈ ns)) c → c ≤ ns.length → (∀ b o, s.heap.get? b = some o → h2.get? b = some o) → Q (.ref s.heap.objs.size) { s with heap := h2, toks := tk }) : wpAny (model P w) A (call (.type "set") [.ref l]) Q E s := by
  have isz : items.size = ns.length := Array.length_toList.symm.trans (IntsAre.length hit)
  obtain ⟨c0, tl, hmro⟩ := F.called_set.mro
  have f1 := F.called_set.made
  have f2 := F.called_set.sub
  have f3 := F.called_set.notType
  have f4 := F.called_set.canCreate
  have f5 := F.typeCall_set_1 (.ref l)
  apply wpAny_call
  apply codeAny_of_tree
  show wpAny (model P w) _ (callAny (.type "set") _) _ _ _
  apply wpAny_pure
  refine ⟨Code.quiet_builtin _ (by decide +kernel), ?_⟩
  apply codeAny_builtin F.entry_type_call
  have wt := weight_type_call_type "set" [.ref l] []
  rw [Around.under_plain wt rfl]
  repeat any_goals first | assumption | wp_step
  refine codeAny_mono (code_set_led1 (.ref l) (E := E) (Q₁ := fun obj s₁ => obj = .ref s.heap.objs.size ∧ s₁ = { s with heap := hNew w s.heap }) ⟨rfl, rfl⟩) ?_
  intro r s₁ hr
  cases r with
  | error e => exact hr
  | ok fl =>
  cases fl with
  | ret obj =>
    obtain ⟨rfl, rfl⟩ := hr
    have nS : (hNew w s.heap).get? s.heap.objs.size = some (oNew w) := Heap.get?_push_size _ rfl
    have nT : Shared.TypeIs { s with heap := hNew w s.heap } (.ref s.heap.objs.size) "set" := ⟨_, nS, rfl⟩
    have f6 := F.called_set.init.lookup
    have f7 := F.called_set.init.bind (.ref s.heap.objs.size)
    repeat any_goals first | assumption | wp_step
    refine codeAny_mono (codeAny_call_builtin (R := wants (fun r s₂ => r = .none ∧ ∃ h' tk c, s₂ = { s with heap := h', toks := tk } ∧ SetR w h' s.heap.objs.size (fun j => decide (j ∈ ns)) c ∧ c ≤ ns.length ∧ ∀ b o, s.heap.get? b = some o → h'.get? b = some o) E)
      F.called_set.init.plain F.entry_set_init (check_set_init_1 nT ?_)) ?_
    · obtain ⟨⟨k0, k1, k2, k3⟩, at0, rfl, n0, rfl⟩ := hl
      have at1 : (hNew w s.heap).get? l = some { cls := .type "list", dict := k1, data := .seq items n0, slots := k3 } := Heap.get?_push_of_some _ at0
      have g1 := F.sub_list_set
      have g2 := F.sub_list_frozenset
      have g3 : (Value.type "list" == Value.type "dict") = false := by decide
      have l1 : (hNew w s.heap).IsList l items := ⟨_, at1, rfl, n0, rfl⟩
      unfold Builtin.«set.__init__» Builtin.Frozenset.updateFrom noKeywords
      generalize hPI : pyIter = PI
      wp_walk
      subst hPI
      refine wpAny_pyIter_list l1 (wpAny_bind (wpAny_runValue ?_))
      have lt0 : l < s.heap.objs.size := Heap.lt_size at0
      have z1 : (hNew w s.heap).objs.size = s.heap.objs.size + 1 := Heap.size_push ..
      have none3 : A.in1.in1.in1.handled = none := by simp [hh]
      have ne1 : l ≠ (hNew w s.heap).objs.size := by
        rw [z1]
        exact Nat.ne_of_lt (Nat.lt_succ_of_lt lt0)
      have out1 : s.heap.objs.size ∉ [(hNew w s.heap).objs.size, l] := by
        rw [z1]
        intro z
        rcases List.mem_cons.mp z with z1 | z1
        · exact Nat.ne_of_lt (Nat.lt_succ_self _) z1
        · exact Nat.ne_of_gt lt0 (List.mem_singleton.mp z1)
      refine set_update_ints ((Walks.list none3 _ l ne1 items).toS) s.heap.objs.size out1 ns isz hb (fun i v hv => ?_) (items.size - 0) 0 _ (by omega) (Nat.zero_le _) ⟨⟨_, Heap.get?_push_size _ rfl, rfl, rfl⟩, l1.push _⟩ ⟨0, Nat.le_refl 0, ?_⟩ fun s' c' hm hc' hS' => ?_
      · have hi : i < ns.length := isz ▸ (Array.getElem?_eq_some_iff.mp hv).1
        obtain ⟨t, e⟩ := IntsAre.int_at hit i v (Array.getElem?_toList.trans hv)
        refine ⟨ns[i], t, List.getElem?_eq_getElem hi, e.trans ?_⟩
        rw [List.getD_eq_getElem?_getD, List.getElem?_eq_getElem hi] <;> rfl
      · exact setR_new_at (Heap.get?_push_of_some _ nS)
      · obtain ⟨h', g', d2, tk', os'⟩ := s'
        obtain rfl : g' = s.gens := hm.gens
        obtain rfl : d2 = s.drawn := hm.drawn
        obtain rfl : os' = s.os := hm.os
        apply wpAny_pure
        show wpAny (model P w) _ (ret Value.none) _ _ _
        refine wpAny_pure ⟨rfl, h', tk', c', rfl, hS', isz ▸ hc', fun b o e => ?_⟩
        have b0 : b < s.heap.objs.size := Heap.lt_size e
        refine hm.heap b o ?_ (Heap.get?_push_of_some _ (Heap.get?_push_of_some _ e))
        rw [z1]
        intro z
        rcases List.mem_cons.mp z with z1 | z1
        · exact Nat.ne_of_lt b0 z1
        · exact Nat.ne_of_lt (Nat.lt_succ_of_lt b0) (List.mem_singleton.mp z1)
    · intro r₂ s₂ hr₂
      cases r₂ with
      | error e => exact hr₂
      | ok fl₂ =>
      cases fl₂ with
      | ret r =>
        obtain ⟨rfl, h', tk, c', rfl, a1, a2, a3⟩ := hr₂
        repeat any_goals first | assumption | wp_step
        exact h _ _ _ a1 a2 a3
      | _ => exact hr₂.elim
  | _ => exact hr.elim
end
section
variable {X : Cx}
/-- set(xs), xs a list or a tuple of ints -/
def rSetI (K : PySem.W.Frag) (w : World) : List V → Hp → VK → Prop := fun vs H Q => ∃ (p : Addr) (ns : List Int), vs = [.ref p] ∧ (SqL K H p (ns.map V.int) ∨ SqT K H p (ns.map V.int)) ∧ ns.length ≤ 1000 ∧
  ∀ (a : Addr) (c : Nat), c ≤ ns.length → H a = none → Q (.ref a) (upd H a (SetO w a (fun j => decide (j ∈ ns)) c))
theorem cr_setI (hc : X.calm = true) : CallR X (.type "set") (rSetI X.K X.w) := by
  intro pins s σ H vs us Q I rv0 h
  obtain ⟨p, ns, rfl, hq, hz, q⟩ := h
  rw [Vals.ref1 rv0]
  have fin : ∀ (h' : Heap) (tk c : Nat), SetR X.w h' s.heap.objs.size (fun j => decide (j ∈ ns)) c → c ≤ ns.length → (∀ b o, s.heap.get? b = some o → h'.get? b = some o) → EP X pins σ Q (.ref s.heap.objs.size) { s with heap := h', toks := tk } :=
    fun h' tk c R cl k => ⟨.ref _, upd H s.heap.objs.size (SetO X.w s.heap.objs.size _ c), I.laid (t' := tk) k (Nat.le_refl _) (setO_new R), rfl, q _ _ cl (I.hok.fresh (Nat.le_refl _))⟩
  rcases hq with hq | hq
  · obtain ⟨its, rv, pl, _⟩ := I.list hq
    exact set_of_list ns (I.ok.hd hc) pl.isList (by simpa using ints_of_vals rv) (by unfold scanBound; omega) fin
  · obtain ⟨its, rv, pl, _⟩ := I.tuple hq
    exact call_set_tupI ns (I.ok.hd hc) pl (by simpa using ints_of_vals rv) (by unfold scanBound; omega) fin
/-- sorted of a set of ints -/
def rSrtI (w : World) : List V → Hp → VK → Prop := fun vs H Q => ∃ (a : Addr) (S : Int → Bool) (n : Nat), vs = [V.ref a] ∧ H a = some (SetO w a S n) ∧ n ≤ 1000 ∧
  ∀ (ns : List Int) (p : Addr), ns.Pairwise (· < ·) → (∀ k, k ∈ ns ↔ S k = true) → ns.length = n → H p = none → Q (.ref p) (upd H p (.lst (ns.map V.int)))
theorem cr_srtI (hc : X.calm = true) : CallR X (.builtin "sorted") (rSrtI X.w) := by
  intro pins s σ H vs us Q I rv0 h
  obtain ⟨a, S, n, rfl, ha, hn, q⟩ := h
  rw [Vals.ref1 rv0]
  have nz : n ≤ sizeLine := by
    rw [sizeLine_eq]
    omega
  refine srt_set (setO_get I ha) (I.ok.hd hc) nz fun s' p out c ns k g o hp hg hi hs hm hl => ?_
  have hlen : (ns.map V.int).length ≤ sizeLine := by rw [List.length_map, hl]; exact nz
  have no : H p = none := I.hok.fresh hp
  obtain ⟨s1, s2, s3, s4, s5⟩ := s'
  obtain rfl : s5 = s.os := o
  obtain rfl : s2 = s.gens := g
  exact ⟨.ref p, upd H p (.lst (ns.map V.int)), I.call (ch := []) (Un.laid k hp no) (I.hok.laid k hp ⟨hlen, out, c, vals_of_ints hi, hg⟩) I.bare (fun _ z => nomatch z), rfl, q ns p hs hm hl no⟩
end
end Sy
end

section
namespace Sy
open PySem L2 Evl
section
variable {K : PySem.W.Frag} {A B G G' H H' : Hp} {ls ls' : List Addr} {sl sl' : List SD} {cl cl' : List Cell} {τ τ' : List (V × SD)} {σ σ' : St} {v x y : V} {r r1 r2 : SD}
variable {te ta tb : TE} {t u : TT} {tr : TA} {Φ : SD → List Cell → Prop} {E : SE} {i j m : Nat}
theorem pi_listK {X : Cx} {K : PySem.W.Frag} {tg l : Expr} {tl : TE} (h : X.K = K) (hl : PE X l tl) : PI X tg l (iList K tl) := h ▸ pi_list hl
/-- a, b, c = x, y, z -/
theorem ws_par3 (h : WpA K tr sl cl fun rs cl1 => ∃ r1 r2 r3, rs = [r1, r2, r3] ∧ E.nx (((sl.set i r1).set j r2).set m r3) cl1) : WpS K (tPar3 i j m tr) sl cl E := by
  intro A B ls τ σ H D s e
  refine h A B ls τ σ H s _ fun vs H1 rs cl1 ls1 p f hl s1 => ?_
  obtain ⟨r1, r2, r3, rfl, q⟩ := f
  match vs, hl with
  | [v, w, u], _ =>
    refine ⟨v, w, u, rfl, ?_⟩
    obtain ⟨G, c⟩ := s1
    have c1 := c.setSlot (i := i) (x := v) (r := r1) List.mem_cons_self
    have c2 := c1.setSlot (i := j) (x := w) (r := r2) (List.mem_cons_of_mem _ List.mem_cons_self)
    have c3 := c2.setSlot (i := m) (x := u) (r := r3) (List.mem_cons_of_mem _ (List.mem_cons_of_mem _ List.mem_cons_self))
    exact e.nx _ H1 _ cl1 ls1 p q (c3.sta.sub fun q hq => List.mem_cons_of_mem _ (List.mem_cons_of_mem _ (List.mem_cons_of_mem _ hq)))
theorem RpAll.ofInts : ∀ ns : List Int, RpAll K G (ns.map V.int) (ns.map .int)
  | [] => .nil
  | n :: ns => .cons (.int n) (RpAll.ofInts ns)
/-- sorted(set(e)) -/
theorem wp_srtSet {w : World} (h : Wp K te sl cl fun r cl1 => ∃ ns : List Int, (seeL cl1 r = some (ns.map .int) ∨ r = .dat (.tuple (ns.map .int))) ∧ ns.length ≤ 1000 ∧ ∀ ns' : List Int, ns'.Pairwise (· < ·) → (∀ k, k ∈ ns' ↔ k ∈ ns) → Φ (.dat (.list (ns'.map .int))) cl1) :
    Wp K (tCB (rSrtI w) (tCons (tCB (rSetI K w) (tCons te tNil)) tNil)) sl cl Φ := by
  intro A B ls τ σ H s Q k
  refine h A B ls τ σ H s _ fun v H1 r cl1 ls1 e1 h1 s1 => ?_
  obtain ⟨ns, hr, hz, q⟩ := h1
  obtain ⟨G, c⟩ := s1
  have see : ∃ p, v = .ref p ∧ (SqL K H1 p (ns.map V.int) ∨ SqT K H1 p (ns.map V.int)) := by
    rcases hr with hr | rfl
    · obtain ⟨a, ws, rfl, e2, e3⟩ := c.seeL List.mem_cons_self hr
      rw [e3.ints] at e2
      exact ⟨a, rfl, .inl e2⟩
    · have ok := c.dat List.mem_cons_self
      cases ok with
      | @tup a ws _ e2 e3 =>
        rw [e3.ints] at e2
        exact ⟨a, rfl, .inr (ex_t c.exG e2)⟩
  obtain ⟨p, rfl, hp⟩ := see
  refine ⟨p, ns, rfl, hp, hz, fun a n hn ha => ?_⟩
  refine ⟨a, _, n, rfl, upd_same, by omega, fun ns' b hs hm hl hb => ?_⟩
  have c' := ((c.pop.junk ha (SetO w a (fun j => decide (j ∈ ns)) n)).alloc hb (.lst (ns'.map V.int)))
  have ra : RpAll K (upd G b (.lst (ns'.map V.int))) (ns'.map V.int) (ns'.map .int) := RpAll.ofInts ns'
  exact k _ _ _ cl1 ls1 e1 (q ns' hs fun k => (hm k).trans decide_eq_true_iff) (c'.push (r := .dat (.list (ns'.map .int))) (.lst upd_same ra)).sta
/-- sorted(e), e a list of ints -/
theorem wc_sortI {ns : List Int} (h : seeL cl r = some (ns.map .int)) (q : ∀ ns' : List Int, ns'.Perm ns → ns'.Pairwise (· ≤ ·) → Φ (.dat (.list (ns'.map .int))) cl) : Wc K (rSortedI K) [r] sl cl Φ := by
  intro A B ls τ σ H vs ⟨G, c⟩ hl hm Q k
  obtain ⟨v, rfl, hv⟩ := one_of hl hm
  obtain ⟨a, ws, rfl, e2, e3⟩ := c.seeL hv h
  rw [e3.ints] at e2
  refine ⟨a, ns, rfl, e2, fun ns' p hp hs hn => ?_⟩
  have c' := c.alloc hn (.lst (ns'.map V.int))
  exact k _ _ _ cl ls (List.prefix_refl _) (q ns' hp hs) (c'.push (r := .dat (.list (ns'.map .int))) (.lst upd_same (RpAll.ofInts ns'))).sta
/-- own lists lent to a def that only looks: rs as they are, as as the def sees them -/
inductive LentI (cl : List Cell) : List TI1 → List PyData → Prop
  | nil : LentI cl [] []
  | d {x : PyData} {is : List TI1} {ds : List PyData} : LentI cl is ds → LentI cl (.d x :: is) (x :: ds)
  | o {k : Nat} {xs : List PyData} {is : List TI1} {ds : List PyData} : cl[k]? = some (.lst xs) → LentI cl is ds → LentI cl (.o k :: is) (.list xs :: ds)
theorem LentI.rp (c : Core K A B ls sl cl τ σ H G) {G1 : Hp} (up : Ex G G1) (in1 : ∀ (i : Nat) (l : Addr) (d : Cell), ls[i]? = some l → cl[i]? = some d → d.live → G1 l = H l) {is : List TI1} {ds : List PyData} (h : LentI cl is ds) : ∀ {vs : List V}, Paired (ItmOk K G ls) vs is → RpAll K G1 vs ds := by
  induction h with
  | nil =>
    intro vs hp
    cases hp
    exact .nil
  | d _ ih =>
    intro vs hp
    cases hp with
    | cons h0 r => exact .cons (Rp.mono up h0) (ih r)
  | @o k xs is ds e0 _ ih =>
    intro vs hp
    cases hp with
    | cons h0 r =>
      obtain ⟨l, rfl, e1⟩ := h0
      obtain ⟨_, ws, f1, f2⟩ := c.cells k l _ e1 e0
      exact .cons (.lst ((in1 _ _ _ e1 e0 trivial).trans f1) (f2.mono up)) (ih r)
inductive Lent (cl : List Cell) : List SD → List SD → Prop
  | nil : Lent cl [] []
  | dat {d : PyData} {rs as : List SD} : Lent cl rs as → Lent cl (.dat d :: rs) (.dat d :: as)
  | own {k : Nat} {ds : List PyData} {rs as : List SD} : cl[k]? = some (.lst ds) → Lent cl rs as → Lent cl (.own k :: rs) (.dat (.list ds) :: as)
  | tup {is : List TI1} {ds : List PyData} {rs as : List SD} : LentI cl is ds → Lent cl rs as → Lent cl (.tup is :: rs) (.dat (.tuple ds) :: as)
theorem Lent.length {rs as : List SD} (h : Lent cl rs as) : rs.length = as.length := by
  induction h with
  | nil => rfl
  | dat _ ih => exact congrArg (· + 1) ih
  | own _ _ ih => exact congrArg (· + 1) ih
  | tup _ _ ih => exact congrArg (· + 1) ih
theorem flat_rp {d : PyData} (f : flatD d = true) (h : Rp K G v d) : Rp K G' v d := by
  cases h with
  | non => exact .non
  | bl b => exact .bl b
  | int i => exact .int i
  | str x => exact .str x
  | lst _ _ => cases f
  | tup _ _ => cases f
  | obj _ _ _ => cases f
  | xdp _ _ => cases f
  | dnil _ => cases f
theorem run_lent {P : Pr} {vs : List V} {rs as : List SD} {Q : VK} {X : XK} (s : Sta K A B ls sl cl τ σ H) (hl : vs.length = rs.length) (hm : ∀ p ∈ vs.zip rs, p ∈ τ) (hL : Lent cl rs as) (h : P as [] fun r _ => ∃ d, r = .dat d ∧ flatD d = true ∧ Φ (.dat d) cl)
    (k : ∀ v H' r cl' ls', ls <+: ls' → Φ r cl' → Sta K A B ls' sl cl' ((v, r) :: τ) σ H' → Q v H') : spS K P vs H Q X := by
  obtain ⟨G, c⟩ := s
  -- what is lent joins what is seen
  let G1 : Hp := fun b => open Classical in if ∃ (i : Nat) (d : Cell), ls[i]? = some b ∧ cl[i]? = some d ∧ d.live then H b else G b
  let B1 : Hp := fun b => open Classical in if ∃ (i : Nat) (d : Cell), ls[i]? = some b ∧ cl[i]? = some d ∧ d.live then none else B b
  have up : Ex G G1 := fun b o e => by
    by_cases hc : ∃ (i : Nat) (d : Cell), ls[i]? = some b ∧ cl[i]? = some d ∧ d.live
    · obtain ⟨i, d, e1, e2, e3⟩ := hc
      rw [((c.cells i b d e1 e2).there e3).1] at e
      cases e
    · exact (if_neg hc).trans e
  have in1 : ∀ {i : Nat} {l : Addr} {d : Cell}, ls[i]? = some l → cl[i]? = some d → d.live → G1 l = H l := fun {i l d} e1 e2 e3 => if_pos ⟨i, d, e1, e2, e3⟩
  have toH : Ex G1 H := fun b o e => by
    by_cases hc : ∃ (i : Nat) (d : Cell), ls[i]? = some b ∧ cl[i]? = some d ∧ d.live
    · have z : G1 b = H b := if_pos hc
      rw [← z]; exact e
    · have z : G1 b = G b := if_neg hc
      rw [z] at e; exact c.exG _ _ e
  have ban1 : ∀ b o, B1 b = some o → B b = some o ∧ G1 b = none := fun b o e => by
    by_cases hc : ∃ (i : Nat) (d : Cell), ls[i]? = some b ∧ cl[i]? = some d ∧ d.live
    · have z : B1 b = none := if_pos hc
      rw [z] at e; cases e
    · have z : B1 b = B b := if_neg hc
      rw [z] at e
      exact ⟨e, (if_neg hc).trans (c.ban _ _ e)⟩
  have okA : ∀ {rs as : List SD} {vs : List V}, Lent cl rs as → vs.length = rs.length → (∀ p ∈ vs.zip rs, p ∈ τ) → ∀ (i : Nat) (sd : SD), as[i]? = some sd → ∃ v, (vs.map some)[i]? = some (some v) ∧ ValOk K G1 [] v sd := by
    intro rs as vs hL
    induction hL generalizing vs with
    | nil => intro _ _ i sd e; simp at e
    | @dat d rs as _ ih =>
      intro hl hm i sd e
      match vs, hl with
      | v :: vs, hl =>
        cases i with
        | zero =>
          cases e
          exact ⟨v, rfl, (c.dat (hm _ List.mem_cons_self)).mono up⟩
        | succ i => exact ih (Nat.succ.inj hl) (fun p hp => hm p (List.mem_cons_of_mem _ hp)) i sd e
    | @own k ds rs as e0 _ ih =>
      intro hl hm i sd e
      match vs, hl with
      | v :: vs, hl =>
        cases i with
        | zero =>
          cases e
          obtain ⟨l, rfl, e1⟩ := c.tmp _ (hm _ List.mem_cons_self)
          obtain ⟨_, ws, f1, f2⟩ := c.cells k l _ e1 e0
          exact ⟨_, rfl, .lst ((in1 e1 e0 trivial).trans f1) (f2.mono up)⟩
        | succ i => exact ih (Nat.succ.inj hl) (fun p hp => hm p (List.mem_cons_of_mem _ hp)) i sd e
    | @tup is ds rs as hI _ ih =>
      intro hl hm i sd e
      match vs, hl with
      | v :: vs, hl =>
        cases i with
        | zero =>
          cases e
          obtain ⟨a, ws, rfl, e1, e2⟩ := c.tmp _ (hm _ List.mem_cons_self)
          exact ⟨_, rfl, .tup (ex_t up e1) (hI.rp c up (fun i l d e1 e2 e3 => in1 e1 e2 e3) e2)⟩
        | succ i => exact ih (Nat.succ.inj hl) (fun p hp => hm p (List.mem_cons_of_mem _ hp)) i sd e
  have c1 : Core K G1 B1 [] as [] [] (vs.map some) H G1 :=
    ⟨Ex.refl G1, toH, fun b o e => c.exB _ _ (ban1 b o e).1, fun b o e => (ban1 b o e).2, fun i l d e1 _ _ => by simp at e1, fun i j l d d' e1 _ _ _ _ _ => by simp at e1, rfl, fun i l d e1 _ => by simp at e1, by rw [List.length_map, hl]; exact hL.length.symm, fun i sd e _ => okA hL hl hm i sd e, fun p hp => by cases hp⟩
  refine ⟨G1, B1, [], as, [], _, h, c1.sta, fun v H' r cl' ls' pre hΦ s' => ?_⟩
  obtain ⟨d, rfl, fd, hΦ⟩ := hΦ
  obtain ⟨G2, c2⟩ := s'
  have keep : ∀ b o, G1 b = some o → H' b = some o := fun b o e => c2.exG _ _ (c2.exA _ _ e)
  have c3 : Core K A B ls sl cl ((v, .dat d) :: τ) σ H' G := by
    refine ⟨c.exA, fun b o e => keep _ _ (up _ _ e), fun b o e => ?_, c.ban, c.banc, c.inj, c.len, fun i l d e1 e2 => ?_, c.slen, c.slots, fun p hp => ?_⟩
    · have hc : ¬ ∃ (i : Nat) (d : Cell), ls[i]? = some b ∧ cl[i]? = some d ∧ d.live := fun ⟨i, d, e1, e2, e3⟩ => by
        rw [c.banc i b d e1 e2 e3] at e
        cases e
      exact c2.exB _ _ ((if_neg hc).trans e)
    · by_cases hd : d.live
      · obtain ⟨_, o, ho⟩ := (c.cells i l d e1 e2).there hd
        exact (c.cells i l d e1 e2).mono (Ex.refl G) ((keep _ _ ((in1 e1 e2 hd).trans ho)).trans ho.symm) rfl
      · exact .of_dead hd
    · rcases List.mem_cons.mp hp with z | z
      · rw [z]
        exact flat_rp fd (c2.dat List.mem_cons_self)
      · exact c.tmp p z
  exact k v H' _ cl ls (List.prefix_refl _) hΦ c3.sta
/-- a call that only looks at own lists: its value is flat data -/
theorem wp_callL {P : Pr} {X : XK} {tr : TA} (h : WpA K tr sl cl fun rs cl1 => ∃ as, Lent cl1 rs as ∧ P as [] fun r _ => ∃ d, r = .dat d ∧ flatD d = true ∧ Φ (.dat d) cl1) : Wp K (tCall (spS K P) [] X tr) sl cl Φ := by
  intro A B ls τ σ H s Q k
  refine h A B ls τ σ H s _ fun vs H1 rs cl1 ls1 e1 h1 hl s1 => ?_
  obtain ⟨as, hL, h1⟩ := h1
  show spS K P (vs ++ []) H1 Q X
  rw [List.append_nil]
  exact run_lent s1 hl (fun p hp => List.mem_append_left _ hp) hL h1 fun v H' r cl' ls' e2 f s2 => k v H' r cl' ls' (e1.trans e2) f (s2.sub fun p hp => by
    rcases List.mem_cons.mp hp with z | z
    · rw [z]; exact List.mem_cons_self
    · exact List.mem_cons_of_mem _ (List.mem_append_right _ z))
end
end Sy
end

section
/-! objects of a class of one's own: made, their attributes stored and read -/
namespace Sy
open PySem L2 Evl
/-- an object that changes no more, as data -/
abbrev objD (C : Addr) (fs : List (Str × PyData)) : PyData := .dict ((.none, .int (Int.ofNat C)) :: fs.map fun p => (.str p.1, p.2))
section
variable {K : PySem.W.Frag} {A B G G' H H' : Hp} {ls ls' : List Addr} {sl sl' : List SD} {cl cl' : List Cell} {τ τ' : List (V × SD)} {σ σ' : St} {v x y : V} {r r1 r2 : SD}
variable {te ta tb tv : TE} {t u : TT} {tr tk : TA} {Φ : SD → List Cell → Prop} {E : SE} {i j m : Nat}
theorem RpF.fs : ∀ {vs : List (Str × V)} {fs : List (Str × PyData)}, RpF K G vs fs → RpFs K G vs (fs.map fun p => (.str p.1, p.2))
  | _, _, .nil => .nil
  | _, _, .cons (a := (f, v)) (b := (g, d)) ⟨e, h⟩ r => by
    have e : f = g := e
    subst e
    exact .cons h (RpF.fs r)
def fldK (f : Str) : List (PyData × PyData) → Option PyData
  | [] => none
  | (.str g, d) :: ks => if f == g then some d else fldK f ks
  | _ :: ks => fldK f ks
theorem RpFs.get {f : Str} {d : PyData} : ∀ {fs : List (Str × V)} {ks : List (PyData × PyData)}, RpFs K G fs ks → fldK f ks = some d → ∃ v, fs.lookup f = some v ∧ Rp K G v d
  | _, _, .nil, e => by cases e
  | _, _, .cons (f := g) (v := v) h r, e => by
    unfold fldK at e
    cases hb : f == g with
    | true =>
      rw [hb] at e
      cases e
      exact ⟨v, by rw [List.lookup_cons, hb], h⟩
    | false =>
      rw [hb] at e
      obtain ⟨w, a, b⟩ := RpFs.get r e
      exact ⟨w, by rw [List.lookup_cons, hb]; exact a, b⟩
theorem RpF.get {f : Str} {d : PyData} : ∀ {vs : List (Str × V)} {fs : List (Str × PyData)}, RpF K G vs fs → fs.lookup f = some d → ∃ v, vs.lookup f = some v ∧ Rp K G v d
  | _, _, .nil, e => by cases e
  | _, _, .cons (a := (g, v)) (b := (g', d')) ⟨e1, h⟩ r, e => by
    have e1 : g = g' := e1
    subst e1
    rw [List.lookup_cons] at e ⊢
    cases hb : f == g with
    | true =>
      rw [hb] at e
      cases e
      exact ⟨v, rfl, h⟩
    | false =>
      rw [hb] at e
      exact RpF.get r e
/-- an attribute of what stands for an object: the class, the attribute -/
def fldS (cl : List Cell) (f : Str) : SD → Option (Addr × PyData)
  | .dat (.dict ((.none, .int (.ofNat C)) :: ks)) => (fldK f ks).map fun d => (C, d)
  | .own k => match cl[k]? with
    | some (.ins C fs) => (fs.lookup f).map fun d => (C, d)
    | _ => none
  | _ => none
theorem Core.fld (c : Core K A B ls sl cl τ σ H G) (h : (x, r) ∈ τ) {f : Str} {C : Addr} {d : PyData} (e : fldS cl f r = some (C, d)) : ∃ a dx fs v, x = .ref a ∧ H a = some (.ins C dx fs) ∧ fs.lookup f = some v ∧ Rp K G v d := by
  cases r with
  | unk => cases e
  | scr ns => cases e
  | adr _ => cases e
  | tup _ => cases e
  | own k =>
    obtain ⟨l, rfl, e1⟩ := c.tmp _ h
    have e : (match cl[k]? with | some (.ins C fs) => (fs.lookup f).map fun d => (C, d) | _ => none) = some (C, d) := e
    cases q : cl[k]? with
    | none => rw [q] at e; cases e
    | some cell =>
      rw [q] at e
      have ck := c.cells k l _ e1 q
      cases cell with
      | lst _ => cases e
      | dic _ => cases e
      | dit _ => cases e
      | dead => cases e
      | ins C' fs =>
        have e : (fs.lookup f).map (fun d => (C', d)) = some (C, d) := e
        cases q2 : fs.lookup f with
        | none => rw [q2] at e; cases e
        | some d' =>
          rw [q2] at e
          cases e
          obtain ⟨_, dx, vs, _, h2, h3⟩ := ck
          obtain ⟨v, a, b⟩ := h3.get q2
          exact ⟨l, dx, vs, v, rfl, h2, a, b⟩
  | dat d' =>
    have ok := c.dat h
    cases ok with
    | non => cases e
    | bl b => cases e
    | int i => cases e
    | str z => cases e
    | lst _ _ => cases e
    | tup _ _ => cases e
    | xdp _ _ => cases e
    | dnil _ => cases e
    | @obj a dx C' fs ks h1 h2 h3 =>
      have e : (fldK f ks).map (fun d => (C', d)) = some (C, d) := e
      cases q2 : fldK f ks with
      | none => rw [q2] at e; cases e
      | some d' =>
        rw [q2] at e
        cases e
        obtain ⟨v, a', b⟩ := h3.get q2
        exact ⟨a, dx, fs, v, rfl, c.exG _ _ h1, a', b⟩
/-- e.f -/
theorem wp_fld {f : Str} (h : Wp K te sl cl fun r cl1 => ∃ C d, fldS cl1 f r = some (C, d) ∧ Cls K C ∧ NoAttr K C f ∧ Φ (.dat d) cl1) : Wp K (tFld K te f) sl cl Φ := by
  intro A B ls τ σ H s Q k
  refine h A B ls τ σ H s _ fun x H1 r cl1 ls1 p f s1 => ?_
  obtain ⟨C, d, e, hc, hn, q⟩ := f
  obtain ⟨G, c⟩ := s1
  obtain ⟨a, dx, fs, v, rfl, h1, h2, h3⟩ := c.fld List.mem_cons_self e
  exact ⟨a, C, dx, fs, v, rfl, h1, hc, hn, h2, k v H1 _ cl1 ls1 p q (c.pop.push (r := .dat d) h3).sta⟩
def putP (f : Str) (d : PyData) : List (Str × PyData) → List (Str × PyData)
  | [] => [(f, d)]
  | (g, x) :: r => if g = f then (g, d) :: r else (g, x) :: putP f d r
theorem RpF.put {f : Str} {d : PyData} (hv : Rp K G v d) : ∀ {vs : List (Str × V)} {fs : List (Str × PyData)}, RpF K G vs fs → RpF K G (putF f v vs) (putP f d fs)
  | _, _, .nil => .cons ⟨rfl, hv⟩ .nil
  | _, _, .cons (a := (g, w)) (b := (g', d')) ⟨e1, h⟩ r => by
    have e1 : g = g' := e1
    subst e1
    unfold putF putP
    by_cases hg : g = f
    · rw [if_pos hg, if_pos hg]
      exact .cons ⟨rfl, hv⟩ r
    · rw [if_neg hg, if_neg hg]
      exact .cons ⟨rfl, h⟩ (RpF.put hv r)
theorem RpF.length {vs : List (Str × V)} {fs : List (Str × PyData)} (h : RpF K G vs fs) : vs.length = fs.length := by
  induction h with
  | nil => rfl
  | cons _ _ ih => exact congrArg (· + 1) ih
/-- e.f = value, e an object in the making -/
theorem ws_fld {f : Str} (h : Wp K tv sl cl fun r cl1 => ∃ d, r = .dat d ∧ Wp K ta sl cl1 fun r2 cl2 => ∃ k C fs, r2 = .own k ∧ cl2[k]? = some (.ins C fs) ∧ Cls K C ∧ NoAttr K C f ∧ fs.length < 1000 ∧ E.nx sl (cl2.set k (.ins C (putP f d fs)))) : WpS K (sFld K ta tv f) sl cl E := by
  intro A B ls τ σ H D s e
  refine h A B ls τ σ H s _ fun y H1 r cl1 ls1 p1 f1 s1 => ?_
  obtain ⟨d, rfl, f1⟩ := f1
  refine f1 A B ls1 _ σ H1 s1 _ fun x H2 r2 cl2 ls2 p2 f2 s2 => ?_
  obtain ⟨k, C, fs, rfl, e2, hc, hn, hz, q⟩ := f2
  obtain ⟨G, c⟩ := s2
  obtain ⟨l, rfl, e1⟩ := c.tmp _ List.mem_cons_self
  obtain ⟨g, dx, vs, h1, h2, h3⟩ := c.cells k l _ e1 e2
  have rd : Rp K G y d := c.tmp _ (List.mem_cons_of_mem _ List.mem_cons_self)
  refine ⟨l, C, dx, vs, rfl, h2, hc, hn, by rw [h3.length]; exact hz, ?_⟩
  have c3 := c.mut e1 e2 trivial (.ins C dx (putF f y vs)) (.ins C (putP f d fs)) ⟨g, dx, _, h1, upd_same, h3.put rd⟩
  exact e.nx _ _ sl _ ls2 (p1.trans p2) q (c3.sta.sub fun p hp => List.mem_cons_of_mem _ (List.mem_cons_of_mem _ hp))
end
end Sy
end

section
/-! len of an own object; objects made, their methods and properties called -/
namespace Sy
open PySem PySem.Spec L2 Evl
section
open PyProof.Rows
variable {X : Cx} {CX : CXT} {k : Nat} {f C : Addr} {fd : FuncData} {sp : Sp} {E : XK}
/-- len(o), o an object whose class has a __len__ of its own -/
def rLenI (C : Addr) (sp : Sp) (E : XK) : List V → Hp → VK → Prop := fun vs H Q => ∃ (a dx : Addr) (fs : List (Str × V)), vs = [V.ref a] ∧ H a = some (.ins C dx fs) ∧ sp [.ref a] H (fun v H' => ∃ n : Nat, v = .int (n : Int) ∧ n ≤ 1000000 ∧ Q (.int (n : Int)) H') E
theorem call_lenI (hm : Meth X.K C "__len__" f) (F : FnOk X.prog X.w X.K X.mg X.base CX k f fd ["self"] sp) (hr : Room (k + 1) X.A) (hb : Binds X.K fd ["self"] []) (hx : Passes CX X E) : CallR X (.builtin "len") (rLenI C sp E) := by
  intro pins s σ H vs us Q I r0 h
  obtain ⟨a, dx, fs, rfl, ea, hq⟩ := h
  rw [Vals.ref1 r0]
  obtain ⟨mA, O, _⟩ := ins_get I.hok ea
  obtain ⟨od, J, _⟩ := O.look
  apply Calls.call_function_entry kind_len plain_len entry_len (args_len1 _)
  unfold Builtin.«len»
  apply wpAny_bind (m := oneArg "len" _)
  apply wpAny_pure
  refine wpAny_bind (m := callSpecial? (.ref a) (Str.ofString "__len__")) (PySem.W.special_fn I.kIn J hm.at_ (beq_iff_eq.mp hm.fn) (wpAny_call ?_))
  have bs := hb s [.ref a] I.kIn rfl
  refine codeAny_mono (F.run X.A.in1 X.stack s H ⟨[.ref a], []⟩ [.ref a] [.ref a] _ E hr.in1 I.env0.in1 bs (.cons rfl .nil) hq) fun r s' hq' => ?_
  cases r with
  | error e => exact hx pins σ H s e s' I hq'
  | ok fl =>
    cases fl with
    | ret u =>
      obtain ⟨v, H', I3, rv, n, rfl, hn, q3⟩ := I.after hq'
      obtain ⟨tk, rfl⟩ := rv
      refine wpAny_bind (wpAny_holding (wpAny_pure ?_))
      refine wpAny_bind (wpAny_letGo ?_)
      show wpAny _ _ (if ((n : Nat) : Int) < 0 then _ else _) _ _ _
      rw [if_neg (by omega)]
      show wpAny _ _ (if ((n : Nat) : Int) ≥ 2 ^ 63 then _ else _) _ _ _
      rw [if_neg (by omega)]
      apply wpAny_bind
      apply wpAny_mkInt
      apply wpAny_pure
      exact ⟨_, rfl, .int (n : Int), H', I3.tok _, ⟨_, rfl⟩, q3⟩
    | next => exact False.elim hq'
    | brk => exact False.elim hq'
    | cont => exact False.elim hq'
end
section
variable {K : PySem.W.Frag} {A B G G' H H' : Hp} {ls ls' : List Addr} {sl sl' : List SD} {cl cl' : List Cell} {τ τ' : List (V × SD)} {σ σ' : L2.St} {v x y : V} {r r1 r2 : SD}
variable {te ta tb tv : TE} {t u : TT} {tr tk : TA} {Φ : SD → List Cell → Prop} {E : SE} {i j m : Nat}
/-- a cell becomes what is seen -/
theorem Core.frz1 (c : Core K A B ls sl cl τ σ H G) {k : Nat} {l : Addr} {cell : Cell} {o : HO} (e1 : ls[k]? = some l) (e2 : cl[k]? = some cell) (hv : cell.live) (h1 : H l = some o) : Core K A B ls sl (cl.set k .dead) τ σ H (upd G l o) := by
  obtain ⟨g, _⟩ := (c.cells k l _ e1 e2).there hv
  have eG : Ex G (upd G l o) := Ex.new g
  have hk : k < cl.length := (List.getElem?_eq_some_iff.mp e2).1
  have old : ∀ {i : Nat} {d : Cell}, (cl.set k .dead)[i]? = some d → d.live → i ≠ k ∧ cl[i]? = some d := fun {i d} e hd => by
    by_cases hi : i = k
    · subst hi
      rw [List.getElem?_set_self hk] at e
      cases e
      exact hd.elim
    · rw [List.getElem?_set_ne (fun z => hi z.symm)] at e
      exact ⟨hi, e⟩
  refine ⟨c.exA.trans eG, fun b u e => ?_, c.exB, fun b u e => ?_, fun i m d a1 a2 hd => ?_, fun i j m d d' a1 a2 a3 a4 hd hd' => ?_, by rw [List.length_set]; exact c.len, fun i m d a1 a2 => ?_, c.slen, fun i sd a1 a2 => ?_, fun p hp => (c.tmp p hp).mono eG (List.prefix_refl _)⟩
  · by_cases hb : b = l
    · subst hb; rw [upd_same] at e; rw [← e]; exact h1
    · rw [upd_ne hb] at e; exact c.exG _ _ e
  · have hb : b ≠ l := fun z => by
      have q := c.banc k l _ e1 e2 hv
      rw [z, q] at e; cases e
    rw [upd_ne hb]; exact c.ban _ _ e
  · obtain ⟨_, q⟩ := old a2 hd
    exact c.banc i m d a1 q hd
  · obtain ⟨_, q1⟩ := old a3 hd
    obtain ⟨_, q2⟩ := old a4 hd'
    exact c.inj i j m d d' a1 a2 q1 q2 hd hd'
  · by_cases hd : d.live
    · obtain ⟨n, q⟩ := old a2 hd
      have hb : m ≠ l := fun z => by
        subst z
        exact n (c.inj i k m d _ a1 e1 q e2 hd hv)
      exact (c.cells i m d a1 q).mono eG rfl (upd_ne hb)
    · exact .of_dead hd
  · obtain ⟨v, a, b⟩ := c.slots i sd a1 a2
    exact ⟨v, a, b.mono eG (List.prefix_refl _)⟩
theorem Core.frzI (c : Core K A B ls sl cl τ σ H G) {k : Nat} {l C : Addr} {fs : List (Str × PyData)} (e1 : ls[k]? = some l) (e2 : cl[k]? = some (.ins C fs)) : ∃ G', Core K A B ls sl (cl.set k .dead) τ σ H G' ∧ Rp K G' (.ref l) (objD C fs) := by
  obtain ⟨g, dx, vs, h1, h2, h3⟩ := c.cells k l _ e1 e2
  have eG : Ex G (upd G l (.ins C dx vs)) := Ex.new g
  exact ⟨_, c.frz1 e1 e2 trivial h2, .obj upd_same (eG _ _ h1) (h3.mono eG).fs⟩
/-- a new object, its attributes still to come -/
theorem Core.newI (c : Core K A B ls sl cl τ σ H G) {p dx : Addr} (hp : H p = none) (hd : H dx = none) (n : dx ≠ p) (C : Addr) : ∃ G', Core K A B (ls ++ [p]) sl (cl ++ [.ins C []]) τ σ (upd (upd H dx (.own p)) p (.ins C dx [])) G' := by
  have c1 := c.alloc hd (.own p)
  have hp1 : upd H dx (.own p) p = none := (upd_ne n.symm).trans hp
  exact ⟨_, c1.allocOwn hp1 (.ins C dx []) (.ins C []) ⟨(c1.fresh hp1).1, dx, [], upd_same, upd_same, .nil⟩⟩
/-- a value that is what it is in every heap -/
def Cst (K : PySem.W.Frag) (p : V × SD) : Prop := ∃ d, p.2 = .dat d ∧ ∀ G, Rp K G p.1 d
theorem Cst.flat {v : V} {d : PyData} (h : sv v = some d) : Cst K (v, .dat d) := ⟨d, rfl, fun _ => sv_rp h⟩
theorem RpFs.none {f : Str} : ∀ {fs : List (Str × V)} {ks : List (PyData × PyData)}, RpFs K G fs ks → fldK f ks = none → fs.lookup f = none
  | _, _, .nil, _ => rfl
  | _, _, .cons (f := g) (v := v) h r, e => by
    unfold fldK at e
    rw [List.lookup_cons]
    cases hb : f == g with
    | true => rw [hb] at e; cases e
    | false =>
      rw [hb] at e
      exact RpFs.none r e
/-- C(..), the way its values are put together gV, and so what stands for them gS -/
theorem wp_makeN {P : Pr} {C : Addr} {vals : List V} {rs : List SD} {Q : VK} {Ek : XK} {sel : List Nat} {Φ : SD → List Cell → Prop} (s : Sta K A B ls sl cl τ σ H) {p dx : Addr} (hp : H p = none) (hd : H dx = none) (n : dx ≠ p)
    (hl : vals.length = rs.length) (hm : ∀ q ∈ vals.zip rs, q = (.ref p, .own cl.length) ∨ q ∈ τ ∨ Cst K q)
    (h : CallOk P rs sl (cl ++ [.ins C []]) sel fun r cl3 => r = .dat .none ∧ ∃ fs, cl3[cl.length]? = some (.ins C fs) ∧ Φ (.dat (objD C fs)) (cl3.set cl.length .dead))
    (k : ∀ v H' r cl' ls', ls <+: ls' → Φ r cl' → Sta K A B ls' sl cl' ((v, r) :: τ) σ H' → Q v H') : spS K P vals (upd (upd H dx (.own p)) p (.ins C dx [])) (fun v H3 => v = .non ∧ Q (.ref p) H3) Ek := by
  obtain ⟨G, c⟩ := s
  obtain ⟨G1, c1⟩ := c.newI hp hd n C
  have hpl : (ls ++ [p])[cl.length]? = some p := own_last c
  have s1 : Sta K A B (ls ++ [p]) sl (cl ++ [.ins C []]) (vals.zip rs ++ τ) σ (upd (upd H dx (.own p)) p (.ins C dx [])) := ⟨G1, c1.tmps fun q hq => by
    rcases List.mem_append.mp hq with z | z
    · rcases hm q z with e | e | ⟨d, e1, e2⟩
      · rw [e]
        exact ⟨p, rfl, hpl⟩
      · exact c1.tmp q e
      · rw [e1]
        exact e2 G1
    · exact c1.tmp q z⟩
  refine run_call s1 hl (fun q hq => List.mem_append_left _ hq) h fun v H' r cl' ls' pre f s2 => ?_
  obtain ⟨rfl, fs, e2, q⟩ := f
  obtain ⟨G2, c2⟩ := s2
  have ok : Rp K G2 v .none := c2.dat List.mem_cons_self
  cases ok
  have e1 : ls'[cl.length]? = some p := by
    obtain ⟨ext, rfl⟩ := pre
    rw [List.getElem?_append_left (by have := c.len; simp; omega)]
    exact hpl
  obtain ⟨G3, c3, rp⟩ := c2.frzI e1 e2
  exact ⟨rfl, k _ H' _ _ ls' ((List.prefix_append _ _).trans pre) q (c3.tmps (τ' := (V.ref p, .dat (objD C fs)) :: τ) fun q hq => by
    rcases List.mem_cons.mp hq with z | z
    · rw [z]; exact rp
    · exact c3.tmp q (List.mem_cons_of_mem _ (List.mem_append_right _ z))).sta⟩
/-- C(e, .., k = v, ..) -/
theorem wp_makeK {P : Pr} {n m : Nat} {C : Addr} {gV : List V → List V → List V} {X : XK} (gS : List SD → List SD → List SD)
    (hg : ∀ (a : Addr) (k : Nat) (vs zs : List V) (rs qs : List SD), vs.length = rs.length → zs.length = qs.length → rs.length = n → qs.length = m → (gV (.ref a :: vs) zs).length = (gS (.own k :: rs) qs).length ∧ ∀ p ∈ (gV (.ref a :: vs) zs).zip (gS (.own k :: rs) qs), p = (.ref a, .own k) ∨ (p ∈ vs.zip rs ∨ p ∈ zs.zip qs) ∨ Cst K p)
    (h : WpA K tr sl cl fun rs cl1 => WpA K tk sl cl1 fun qs cl2 => rs.length = n ∧ qs.length = m ∧ ∃ sel, CallOk P (gS (.own cl2.length :: rs) qs) sl (cl2 ++ [.ins C []]) sel fun r cl3 => r = .dat .none ∧ ∃ fs, cl3[cl2.length]? = some (.ins C fs) ∧ Φ (.dat (objD C fs)) (cl3.set cl2.length .dead)) :
    Wp K (tMakeK C n m (spS K P) gV X tr tk) sl cl Φ := by
  intro A B ls τ σ H s Q k
  refine h A B ls τ σ H s _ fun vs H1 rs cl1 ls1 e1 h1 hl s1 => ?_
  refine h1 A B ls1 _ σ H1 s1 _ fun zs H2 qs cl2 ls2 e2 h2 hl2 s2 => ?_
  obtain ⟨n1, n2, sel, h2⟩ := h2
  refine ⟨hl.trans n1, hl2.trans n2, fun p dx hp hd ne => ?_⟩
  obtain ⟨g1, g2⟩ := hg p cl2.length vs zs rs qs hl hl2 n1 n2
  refine wp_makeN s2 hp hd ne g1 (fun q hq => (g2 q hq).imp id (Or.imp (fun z => ?_) id)) h2 fun v H' r cl' ls' e3 f s4 => k v H' r cl' ls' ((e1.trans e2).trans e3) f (s4.sub fun p hp => ?_)
  · rcases z with z | z
    · exact List.mem_append_right _ (List.mem_append_left _ z)
    · exact List.mem_append_left _ z
  · rcases List.mem_cons.mp hp with z | z
    · rw [z]; exact List.mem_cons_self
    · exact List.mem_cons_of_mem _ (List.mem_append_right _ (List.mem_append_right _ z))
/-- C(e, ..), the defaults behind -/
theorem wp_make {P : Pr} {C : Addr} {dvs : List V} {dds : List SD} {X : XK} (hdl : dvs.length = dds.length) (hd : ∀ p ∈ dvs.zip dds, Cst K p)
    (h : WpA K tr sl cl fun rs cl1 => ∃ sel, CallOk P (.own cl1.length :: (rs ++ dds)) sl (cl1 ++ [.ins C []]) sel fun r cl3 => r = .dat .none ∧ ∃ fs, cl3[cl1.length]? = some (.ins C fs) ∧ Φ (.dat (objD C fs)) (cl3.set cl1.length .dead)) :
    Wp K (tMake C (spS K P) dvs X tr) sl cl Φ := by
  intro A B ls τ σ H s Q k
  refine h A B ls τ σ H s _ fun vs H1 rs cl1 ls1 e1 h1 hl s1 => fun p dx hp hd' ne => ?_
  obtain ⟨sel, h1⟩ := h1
  refine wp_makeN s1 hp hd' ne (by simp [hl, hdl]) (fun q hq => ?_) h1 fun v H' r cl' ls' e3 f s4 => k v H' r cl' ls' (e1.trans e3) f (s4.sub fun p hp => ?_)
  · rw [List.zip_cons_cons, List.zip_append hl] at hq
    rcases List.mem_cons.mp hq with z | z
    · exact .inl z
    · rcases List.mem_append.mp z with z | z
      · exact .inr (.inl (List.mem_append_left _ z))
      · exact .inr (.inr (hd q z))
  · rcases List.mem_cons.mp hp with z | z
    · rw [z]; exact List.mem_cons_self
    · exact List.mem_cons_of_mem _ (List.mem_append_right _ z)
/-- len(o) -/
theorem wc_lenI {P : Pr} {C : Addr} {X : XK} {ks : List (PyData × PyData)} {sel : List Nat} (hr : r = .dat (.dict ((.none, .int (Int.ofNat C)) :: ks)))
    (h : CallOk P [r] sl cl sel fun r' cl' => ∃ n : Nat, r' = .dat (.int (n : Int)) ∧ n ≤ 1000000 ∧ Φ (.dat (.int (n : Int))) cl') : Wc K (rLenI C (spS K P) X) [r] sl cl Φ := by
  intro A B ls τ σ H vs s hl hm Q k
  subst hr
  obtain ⟨v, rfl, hv⟩ := one_of (P := fun p => p ∈ τ) hl hm
  have s0 := s
  obtain ⟨G, c⟩ := s0
  have ok := c.dat hv
  cases ok with
  | @obj a dx _ fs _ h1 h2 h3 =>
    refine ⟨a, dx, fs, rfl, c.exG _ _ h1, ?_⟩
    refine run_call s rfl (fun p hp => by rw [List.mem_singleton.mp hp]; exact hv) h fun v' H' r' cl' ls' pre f s2 => ?_
    obtain ⟨n, rfl, hn, q⟩ := f
    obtain ⟨G2, c2⟩ := s2
    have ok2 := c2.dat List.mem_cons_self
    cases ok2
    exact ⟨n, rfl, hn, k _ H' _ _ ls' pre q c2.sta⟩
/-- o.m(..) -/
theorem wp_meth {P : Pr} {C : Addr} {f : Str} {X : XK} {dvs : List V} {dds : List SD} (hdl : dvs.length = dds.length) (hd : ∀ p ∈ dvs.zip dds, Cst K p)
    (h : Wp K ta sl cl fun r cl1 => ∃ ks, r = .dat (.dict ((.none, .int (Int.ofNat C)) :: ks)) ∧ fldK f ks = none ∧ WpA K tr sl cl1 fun rs cl2 => ∃ sel, CallOk P (r :: (rs ++ dds)) sl cl2 sel Φ) : Wp K (tMeth C f (spS K P) dvs X ta tr) sl cl Φ := by
  intro A B ls τ σ H s Q k
  refine h A B ls τ σ H s _ fun x H1 r cl1 ls1 e1 h1 s1 => ?_
  obtain ⟨ks, rfl, hn, h1⟩ := h1
  have s0 := s1
  obtain ⟨G, c⟩ := s0
  have ok := c.dat List.mem_cons_self
  cases ok with
  | @obj a dx _ fs _ o1 o2 o3 =>
    refine ⟨a, dx, fs, rfl, c.exG _ _ o1, o3.none hn, ?_⟩
    refine h1 A B ls1 _ σ H1 s1 _ fun vs H2 rs cl2 ls2 e2 h2 hl s2 => ?_
    obtain ⟨sel, h2⟩ := h2
    obtain ⟨G2, c2⟩ := s2
    have hx : ValOk K G2 ls2 (.ref a) (.dat (.dict ((.none, .int (Int.ofNat C)) :: ks))) := c2.tmp _ (List.mem_append_right _ List.mem_cons_self)
    have s3 : Sta K A B ls2 sl cl2 ((V.ref a :: (vs ++ dvs)).zip (SD.dat (.dict ((.none, .int (Int.ofNat C)) :: ks)) :: (rs ++ dds)) ++ τ) σ H2 := ⟨G2, c2.tmps fun p hp => by
      rcases List.mem_append.mp hp with z | z
      · rw [List.zip_cons_cons, List.zip_append hl] at z
        rcases List.mem_cons.mp z with z | z
        · rw [z]; exact hx
        · rcases List.mem_append.mp z with z | z
          · exact c2.tmp p (List.mem_append_left _ z)
          · obtain ⟨d, e1, e2⟩ := hd p z
            rw [e1]; exact e2 G2
      · exact c2.tmp p (List.mem_append_right _ (List.mem_cons_of_mem _ z))⟩
    exact run_call s3 (by simp [hl, hdl]) (fun p hp => List.mem_append_left _ hp) h2 fun v H' r cl' ls' e3 f s4 => k v H' r cl' ls' ((e1.trans e2).trans e3) f (s4.sub fun p hp => by
      rcases List.mem_cons.mp hp with z | z
      · rw [z]; exact List.mem_cons_self
      · exact List.mem_cons_of_mem _ (List.mem_append_right _ z))
/-- o.f, a property -/
theorem wp_prop {P : Pr} {C : Addr} {X : XK} {sel : List Nat} (h : Wp K ta sl cl fun r cl1 => ∃ ks, r = .dat (.dict ((.none, .int (Int.ofNat C)) :: ks)) ∧ CallOk P [r] sl cl1 sel Φ) : Wp K (tProp C (spS K P) [] X ta) sl cl Φ := by
  intro A B ls τ σ H s Q k
  refine h A B ls τ σ H s _ fun x H1 r cl1 ls1 e1 h1 s1 => ?_
  obtain ⟨ks, rfl, h1⟩ := h1
  have s0 := s1
  obtain ⟨G, c⟩ := s0
  have ok := c.dat List.mem_cons_self
  cases ok with
  | @obj a dx _ fs _ o1 o2 o3 =>
    refine ⟨a, dx, fs, rfl, c.exG _ _ o1, ?_⟩
    exact run_call s1 rfl (fun p hp => by rw [List.mem_singleton.mp hp]; exact List.mem_cons_self) h1 fun v H' r cl' ls' e3 f s4 => k v H' r cl' ls' (e1.trans e3) f (s4.sub fun p hp => by
      rcases List.mem_cons.mp hp with z | z
      · rw [z]; exact List.mem_cons_self
      · exact List.mem_cons_of_mem _ (List.mem_cons_of_mem _ z))
end
end Sy
end

section
/-! zip of two lists that change no more; calls with three keywords -/
namespace Sy
open PySem L2 Evl
section
variable {K : PySem.W.Frag} {A B G G' H H' : Hp} {ls ls' : List Addr} {sl sl' : List SD} {cl cl' : List Cell} {τ τ' : List (V × SD)} {σ σ' : St} {v x y : V} {r r1 r2 : SD}
variable {tr tk : TA} {Φi : List PyData → List Cell → Prop} {Φ : SD → List Cell → Prop}
def zipD (ds es : List PyData) : List PyData := (ds.zip es).map fun p => .tuple [p.1, p.2]
theorem zipD_len {ds es : List PyData} : (zipD ds es).length = min ds.length es.length := by
  unfold zipD
  rw [List.length_map, List.length_zip]
theorem zipD_get {ds es : List PyData} {i : Nat} {d : PyData} (h : (zipD ds es)[i]? = some d) : ∃ x y, ds[i]? = some x ∧ es[i]? = some y ∧ d = .tuple [x, y] := by
  unfold zipD at h
  rw [List.getElem?_map] at h
  cases q : (ds.zip es)[i]? with
  | none => rw [q] at h; cases h
  | some p =>
    rw [q] at h
    obtain ⟨a, b⟩ := p
    rw [List.getElem?_zip_eq_some] at q
    exact ⟨a, b, q.1, q.2, (Option.some.inj h).symm⟩
theorem wi_zip (h : WpA K tr sl cl fun rs cl1 => ∃ ds es, rs = [.dat (.list ds), .dat (.list es)] ∧ Φi (zipD ds es) cl1) : WpI K (iZip K tr) sl cl Φi := by
  intro A B ls τ σ H s R k
  refine h A B ls τ σ H s _ fun vs H1 rs cl1 ls1 p f hl s1 => ?_
  obtain ⟨ds, es, rfl, q⟩ := f
  obtain ⟨G, c⟩ := s1
  obtain ⟨v, w, rfl, hv, hw⟩ := two_of (P := fun p => p ∈ vs.zip [SD.dat (.list ds), SD.dat (.list es)] ++ τ) hl fun p hp => List.mem_append_left _ hp
  have ok := c.dat hv
  have ok2 := c.dat hw
  cases ok with
  | @lst a xs _ e1 e2 =>
    cases ok2 with
    | @lst b ys _ f1 f2 =>
      refine ⟨a, b, xs, ys, rfl, SqL.of (c.exG _ _ e1), SqL.of (c.exG _ _ f1), ?_⟩
      refine k (Itz K a b) H1 G _ cl1 ls1 p q c.exA (c.up.sta.sub fun p hp => List.mem_append_right _ hp) fun B' i ls2 sl2 cl2 τ2 σ2 H2 ⟨G2, c2⟩ => ⟨fun d hd => ?_, fun hi => ?_⟩
      · obtain ⟨x, y, g1, g2, rfl⟩ := zipD_get hd
        obtain ⟨u1, u2, u3⟩ := e2.get g1
        obtain ⟨w1, w2, w3⟩ := f2.get g2
        have hs : SqL K H2 a xs := SqL.of (c2.exG _ _ (c2.exA _ _ e1))
        have ht : SqL K H2 b ys := SqL.of (c2.exG _ _ (c2.exA _ _ f1))
        refine ⟨⟨xs, ys, u1, w1, hs, ht, u2, w2⟩, fun z H' hz => ?_⟩
        obtain ⟨T, x', y', rfl, hT, rfl, k1, k2⟩ := hz
        have q1 := k1 xs hs
        have q2 := k2 ys ht
        rw [u2] at q1
        rw [w2] at q2
        cases q1
        cases q2
        have c3 := c2.alloc hT (.tup [u1, w1])
        have eG : Ex G2 (upd G2 T (.tup [u1, w1])) := Ex.new (c2.fresh hT).1
        exact (c3.push (r := .dat (.tuple [x, y])) (.tup (SqT.of upd_same) (.cons ((u3.mono c2.exA).mono eG) (.cons ((w3.mono c2.exA).mono eG) .nil)))).sta
      · rw [zipD_len] at hi
        refine ⟨xs, ys, SqL.of (c2.exG _ _ (c2.exA _ _ e1)), SqL.of (c2.exG _ _ (c2.exA _ _ f1)), ?_⟩
        rw [e2.length, f2.length]
        omega
end
end Sy
end

section
namespace Sy
open PySem PySem.Spec L2
variable {K : PySem.W.Frag} {sl : List SD} {cl : List Cell} {Φ : SD → List Cell → Prop} {ta te : TE}
/-- xs.index(y) of flat data -/
theorem wp_index (h : Wp K ta sl cl fun ro cl1 => (∃ ds0, seeL cl1 ro = some ds0) ∧ Wp K te sl cl1 fun r cl2 => ∃ d ds j z, r = .dat d ∧ seeL cl2 ro = some ds ∧ flatD d = true ∧ ds.all flatD = true ∧ ds[j]? = some z ∧ eqG z d = true ∧ (∀ (m : Nat) z', m < j → ds[m]? = some z' → eqG z' d = false) ∧ Φ (.dat (.int (j : Int))) cl2) :
    Wp K (tBM K "list" (rIndex K) ta (tCons te tNil)) sl cl Φ := by
  intro A B ls τ σ H s Q k
  refine h A B ls τ σ H s _ fun vo H1 ro cl1 ls1 p1 f1 s1 => ?_
  obtain ⟨⟨ds0, hd0⟩, f1⟩ := f1
  obtain ⟨G1, c1⟩ := s1
  obtain ⟨a0, vs0, e0, e1, _⟩ := c1.seeL List.mem_cons_self hd0
  refine ⟨?_, ?_⟩
  · rw [e0]
    exact .inl ⟨rfl, vs0, e1⟩
  refine f1 A B ls1 _ σ H1 c1.sta _ fun v H2 r cl2 ls2 p2 f2 s2 => ?_
  obtain ⟨d, ds, j, z, rfl, hd, fd, fds, hj, hz, hlt, q⟩ := f2
  obtain ⟨G2, c2⟩ := s2
  obtain ⟨a, vs, e2, e3, rv⟩ := c2.seeL (List.mem_cons_of_mem _ List.mem_cons_self) hd
  have rd : Rp K G2 v d := c2.tmp _ List.mem_cons_self
  obtain ⟨zv, h1, h2⟩ := rv.get hj
  have fz : flatD z = true := List.all_eq_true.mp fds z (List.mem_of_getElem? hj)
  refine ⟨a, vs, v, j, zv, e2, rfl, e3, flat_v rd fd, (inD_ok rd fd rv fds).1, h1, ?_, fun m z' hm hz' => ?_, ?_⟩
  · rw [eqG_ok h2 rd fz fd]; exact hz
  · obtain ⟨d', hd', rd'⟩ := rv.get' hz'
    rw [eqG_ok rd' rd (List.all_eq_true.mp fds d' (List.mem_of_getElem? hd')) fd]
    exact hlt m d' hm hd'
  · exact k _ _ _ _ ls2 (p1.trans p2) q ((c2.push (v := .int (j : Int)) (r := .dat (.int (j : Int))) (.int _)).sta.sub fun p hp => by
      rcases List.mem_cons.mp hp with z | z
      · rw [z]; exact List.mem_cons_self
      · exact List.mem_cons_of_mem _ (List.mem_cons_of_mem _ (List.mem_cons_of_mem _ z)))
end Sy
end

section
/-! range of three numbers, downwards -/
namespace Sy
open PySem L2 Evl
section
variable {K : PySem.W.Frag} {sl : List SD} {cl : List Cell} {Φi : List PyData → List Cell → Prop} {tr : TA} {r1 r2 r3 : SD}
theorem three_of {vs : List V} {P : V × SD → Prop} (hl : vs.length = [r1, r2, r3].length) (h : ∀ p ∈ vs.zip [r1, r2, r3], P p) : ∃ u v w, vs = [u, v, w] ∧ P (u, r1) ∧ P (v, r2) ∧ P (w, r3) := by
  match vs, hl with
  | [u, v, w], _ => exact ⟨u, v, w, rfl, h _ List.mem_cons_self, h _ (List.mem_cons_of_mem _ List.mem_cons_self), h _ (List.mem_cons_of_mem _ (List.mem_cons_of_mem _ List.mem_cons_self))⟩
theorem wi_rng3 (h : WpA K tr sl cl fun rs cl1 => ∃ m n : Int, rs = [.dat (.int m), .dat (.int n), .dat (.int (-1))] ∧ -100000 ≤ n ∧ n ≤ m ∧ m ≤ 100000 ∧ Φi (rvD (n + 1) (m - n).toNat) cl1) : WpI K (iRng3 tr) sl cl Φi := by
  intro A B ls τ σ H s R k
  refine h A B ls τ σ H s _ fun vs H1 rs cl1 ls1 p f hl s1 => ?_
  obtain ⟨m, n, rfl, h1, h2, h3, q⟩ := f
  obtain ⟨G, c⟩ := s1
  obtain ⟨u, v, w, rfl, hu, hv, hw⟩ := three_of (P := fun p => p ∈ vs.zip [SD.dat (.int m), SD.dat (.int n), SD.dat (.int (-1))] ++ τ) hl fun p hp => List.mem_append_left _ hp
  cases c.dat hu
  cases c.dat hv
  cases c.dat hw
  refine ⟨m, n, -1, (m - n).toNat, rfl, RgC.neg (by omega) (by omega) (by omega) (by omega), ?_⟩
  have e : m = n + 1 + ((m - n).toNat : Int) - 1 := by omega
  have := k _ H1 A _ cl1 ls1 p q (Ex.refl A) (c.sta.sub fun p hp => List.mem_append_right _ hp) (it_rv (lo := n + 1) (n := (m - n).toNat))
  rw [← e] at this
  exact this
end
end Sy
end

section
/-! is not of bools; a def with two promises -/
namespace Sy
open PySem L2 Evl
section
variable {K : PySem.W.Frag} {sl : List SD} {cl : List Cell} {Φ : SD → List Cell → Prop} {r1 r2 : SD} {P R : Pr} {rs : List SD} {sel : List Nat}
theorem wo_notBl {a b : Bool} (h1 : r1 = .dat (.bool a)) (h2 : r2 = .dat (.bool b)) (q : Φ (.dat (.bool (!decide (a = b)))) cl) : Wo K rNotB r1 r2 sl cl Φ := by
  intro A B ls τ σ H x y ⟨G, c⟩ hx hy Q k
  subst h1 h2
  cases c.dat hx
  cases c.dat hy
  exact ⟨a, b, rfl, rfl, k _ H _ cl ls (List.prefix_refl _) q (c.push (r := .dat (.bool (!decide (a = b)))) (.bl _)).sta⟩
def prOr (P R : Pr) : Pr := fun as cl Φ => P as cl Φ ∨ R as cl Φ
theorem CallOk.inl (h : CallOk P rs sl cl sel Φ) : CallOk (prOr P R) rs sl cl sel Φ := by
  obtain ⟨h1, h2, as, e, p⟩ := h
  exact ⟨h1, h2, as, e, .inl p⟩
theorem CallOk.inr (h : CallOk R rs sl cl sel Φ) : CallOk (prOr P R) rs sl cl sel Φ := by
  obtain ⟨h1, h2, as, e, p⟩ := h
  exact ⟨h1, h2, as, e, .inr p⟩
theorem fn_or {Pg : Program} {w : World} {mg : Str → Option Value} {base : Heap} {CX : CXT} {k : Nat} {f : Addr} {fd : FuncData} {ps : List Str} (F : FnOk Pg w K mg base CX k f fd ps (spS K P)) (G : FnOk Pg w K mg base CX k f fd ps (spS K R)) : FnOk Pg w K mg base CX k f fd ps (spS K (prOr P R)) := by
  constructor
  · rintro vs H Q E ⟨A, B, ls, as, cl, Φ, p | p, s, k⟩
    · exact F.len vs H Q E ⟨A, B, ls, as, cl, Φ, p, s, k⟩
    · exact G.len vs H Q E ⟨A, B, ls, as, cl, Φ, p, s, k⟩
  · rintro A outer s H args us vs Q E hr he hb hv ⟨A', B, ls, as, cl, Φ, p | p, s', k⟩
    · exact F.run A outer s H args us vs Q E hr he hb hv ⟨A', B, ls, as, cl, Φ, p, s', k⟩
    · exact G.run A outer s H args us vs Q E hr he hb hv ⟨A', B, ls, as, cl, Φ, p, s', k⟩
end
end Sy
end

section
/-! sorted of pairs of ints, fewer than 64 -/
namespace Sy
open PySem L2 Evl
section
variable {K : PySem.W.Frag} {G H : Hp} {sl : List SD} {cl : List Cell} {Φ : SD → List Cell → Prop} {r : SD}
abbrev prD2 (s : Int × Int) : PyData := .tuple [.int s.1, .int s.2]
theorem RpAll.perm {ss : List (Int × Int)} {xs ys : List V} (p : ys.Perm xs) (h : RpAll K G xs (ss.map prD2)) : ∃ ss' : List (Int × Int), ss'.Perm ss ∧ RpAll K G ys (ss'.map prD2) := by
  induction p generalizing ss with
  | nil =>
    cases ss with
    | nil => exact ⟨[], .refl _, .nil⟩
    | cons s t => cases h
  | @cons x l1 l2 p ih =>
    cases ss with
    | nil => cases h
    | cons s t =>
      cases h with
      | cons a b =>
        obtain ⟨t', p', h'⟩ := ih b
        exact ⟨s :: t', p'.cons s, .cons a h'⟩
  | swap x y l =>
    cases ss with
    | nil => cases h
    | cons s t =>
      cases h with
      | cons a b =>
        cases t with
        | nil => cases b
        | cons s2 t =>
          cases b with
          | cons a2 b => exact ⟨s2 :: s :: t, .swap s s2 t, .cons a2 (.cons a b)⟩
  | trans p1 p2 ih1 ih2 =>
    obtain ⟨s2, q2, h2⟩ := ih2 h
    obtain ⟨s1, q1, h1⟩ := ih1 h2
    exact ⟨s1, q1.trans q2, h1⟩
theorem Rp.pair {s : Int × Int} {v : V} (e : Ex G H) (h : Rp K G v (prD2 s)) : TupI K H v [s.1, s.2] := by
  cases h with
  | @tup a ws _ e2 e3 =>
    have : ws = [s.1, s.2].map V.int := RpAll.ints (ns := [s.1, s.2]) e3
    rw [this] at e2
    exact ⟨a, rfl, ex_t e e2⟩
theorem RpAll.pairs (e : Ex G H) {B : Int} : ∀ {ss : List (Int × Int)} {xs : List V}, RpAll K G xs (ss.map prD2) → xs.Pairwise (fun x y => ∀ n m, TupI K H x n → TupI K H y m → TS.code B n ≤ TS.code B m) → ss.Pairwise fun s t => TS.code B [s.1, s.2] ≤ TS.code B [t.1, t.2]
  | [], _, _, _ => .nil
  | s :: ss, _, .cons a b, p => by
    obtain ⟨p1, p2⟩ := List.pairwise_cons.mp p
    refine List.pairwise_cons.mpr ⟨fun t ht => ?_, RpAll.pairs e b p2⟩
    obtain ⟨i, hi⟩ := List.mem_iff_getElem?.mp ht
    obtain ⟨v, hv, rv⟩ := b.get (i := i) (d := prD2 t) (by rw [List.getElem?_map, hi] <;> rfl)
    exact p1 v (List.mem_of_getElem? hv) _ _ (a.pair e) (rv.pair e)
theorem wc_sortPr {B : Int} {ss : List (Int × Int)} (h : seeL cl r = some (ss.map prD2)) (h64 : ss.length < 64) (hb : ∀ s ∈ ss, TS.Bd B [s.1, s.2])
    (q : ∀ ss' : List (Int × Int), ss'.Perm ss → ss'.Pairwise (fun s t => TS.code B [s.1, s.2] ≤ TS.code B [t.1, t.2]) → Φ (.dat (.list (ss'.map prD2))) cl) : Wc K (rSortU K 2 B) [r] sl cl Φ := by
  intro A B' ls τ σ H vs ⟨G, c⟩ hl hm Q k
  obtain ⟨v, rfl, hv⟩ := one_of hl hm
  obtain ⟨a, ws, rfl, e2, e3⟩ := c.seeL hv h
  have hlen : ws.length = ss.length := e3.length.trans (List.length_map _)
  refine ⟨a, ws, rfl, e2, by omega, fun x hx => ?_, fun ys p hp hs hn => ?_⟩
  · obtain ⟨i, hi⟩ := List.mem_iff_getElem?.mp hx
    obtain ⟨d, hd, rd⟩ := e3.get' hi
    rw [List.getElem?_map] at hd
    cases hs : ss[i]? with
    | none => rw [hs] at hd; cases hd
    | some s =>
      rw [hs] at hd
      cases hd
      exact ⟨_, rd.pair c.exG, rfl, hb s (List.mem_of_getElem? hs)⟩
  · obtain ⟨ss', p', h'⟩ := e3.perm hp
    have c' := c.alloc hn (.lst ys)
    have eG : Ex G (upd G p (.lst ys)) := Ex.new (c.fresh hn).1
    exact k _ _ _ cl ls (List.prefix_refl _) (q ss' p' (h'.pairs c.exG hs)) (c'.push (r := .dat (.list (ss'.map prD2))) (.lst upd_same (h'.mono eG))).sta
end
end Sy
end

section
/-! three names by a tuple; two places of a list by a tuple; a list copied to be owned -/
namespace Sy
open PySem L2 Evl
section
variable {K : PySem.W.Frag} {sl : List SD} {cl : List Cell} {Φ : SD → List Cell → Prop} {r : SD} {ta te1 te2 to1 to2 ti1 ti2 : TE} {tr : TA} {g1 g2 g3 : TG} {E : SE}
theorem ws_par3c {n : Nat} (hn : n = 3) (h : WpA K tr sl cl fun rs cl1 => ∃ r1 r2 r3, rs = [r1, r2, r3] ∧ WpG K g1 r1 sl cl1 fun sl1 => WpG K g2 r2 sl1 cl1 fun sl2 => WpG K g3 r3 sl2 cl1 fun sl3 => E.nx sl3 cl1) : WpS K (tAsg (tTup tr) (gTup K n (gCons g1 (gCons g2 (gCons g3 gNil))))) sl cl E := by
  intro A B ls τ σ H D s e
  refine h A B ls τ σ H s _ fun vs H1 rs cl1 ls1 p f hl s1 => ?_
  obtain ⟨r1, r2, r3, rfl, q⟩ := f
  match vs, hl with
  | [v, w, u], _ =>
    refine ⟨by show 3 ≤ sizeLine; decide, fun t ht => ?_⟩
    obtain ⟨G, c⟩ := s1
    have c' := c.junk ht (.tup [v, w, u])
    refine ⟨t, [v, w, u], rfl, SqT.of upd_same, hn.symm, v, [w, u], rfl, ?_⟩
    refine q A B ls1 _ σ _ v c'.sta List.mem_cons_self _ fun σ1 sl1 q1 s2 => ?_
    refine ⟨w, [u], rfl, ?_⟩
    refine q1 A B ls1 _ σ1 _ w s2 (List.mem_cons_of_mem _ List.mem_cons_self) _ fun σ2 sl2 q2 s3 => ?_
    refine ⟨u, [], rfl, ?_⟩
    refine q2 A B ls1 _ σ2 _ u s3 (List.mem_cons_of_mem _ (List.mem_cons_of_mem _ List.mem_cons_self)) _ fun σ3 sl3 q3 s4 => ⟨rfl, ?_⟩
    exact e.nx σ3 _ sl3 cl1 ls1 p q3 (s4.sub fun p hp => List.mem_append_right _ hp)
theorem wc_listO {ds : List PyData} (h : seeL cl r = some ds) (q : Φ (.own cl.length) (cl ++ [.lst ds])) : Wc K (fun xs H Q => ∃ p ys, xs = [.ref p] ∧ (SqL K H p ys ∨ SqT K H p ys) ∧ ∀ l, H l = none → Q (.ref l) (upd H l (.lst ys))) [r] sl cl Φ := by
  intro A B ls τ σ H vs ⟨G, c⟩ hl hm Q k
  obtain ⟨v, rfl, hv⟩ := one_of hl hm
  obtain ⟨a, ws, rfl, e2, e3⟩ := c.seeL hv h
  refine ⟨a, ws, rfl, .inl e2, fun p hp => ?_⟩
  have c' := c.allocOwn hp (.lst ws) (.lst ds) ⟨(c.fresh hp).1, _, upd_same, e3⟩
  exact k _ _ _ _ (ls ++ [p]) (List.prefix_append _ _) q (c'.push (r := .own cl.length) ⟨p, rfl, own_last c⟩).sta
/-- xs[i], xs[j] = (a, b) -/
theorem ws_swap {n : Nat} (hn : n = 2) (h : WpA K tr sl cl fun rs cl1 => ∃ d1 d2, rs = [.dat d1, .dat d2] ∧ Wp K to1 sl cl1 fun ro cl2 => Wp K ti1 sl cl2 fun ri cl3 => ∃ k ds z j, ro = .own k ∧ cl3[k]? = some (.lst ds) ∧ ri = .dat (.int z) ∧ ixN ds.length z = some j ∧
      Wp K to2 sl (cl3.set k (.lst (ds.set j d1))) fun ro cl4 => Wp K ti2 sl cl4 fun ri cl5 => ∃ k ds z j, ro = .own k ∧ cl5[k]? = some (.lst ds) ∧ ri = .dat (.int z) ∧ ixN ds.length z = some j ∧ E.nx sl (cl5.set k (.lst (ds.set j d2)))) :
    WpS K (tAsg (tTup tr) (gTup K n (gCons (gSub to1 ti1 rSetL) (gCons (gSub to2 ti2 rSetL) gNil)))) sl cl E := by
  intro A B ls τ σ H D s e
  refine h A B ls τ σ H s _ fun vs H1 rs cl1 ls1 p f hl s1 => ?_
  obtain ⟨d1, d2, rfl, q⟩ := f
  match vs, hl with
  | [v, w], _ =>
    refine ⟨by show 2 ≤ sizeLine; decide, fun t ht => ?_⟩
    obtain ⟨G, c⟩ := s1
    have c' := c.junk ht (.tup [v, w])
    refine ⟨t, [v, w], rfl, SqT.of upd_same, hn.symm, v, [w], rfl, ?_⟩
    refine q A B ls1 _ σ _ c'.sta _ fun vo H2 ro cl2 ls2 p2 f2 s2 => ?_
    refine f2 A B ls2 _ σ H2 s2 _ fun vi H3 ri cl3 ls3 p3 f3 s3 => ?_
    obtain ⟨k, ds, z, j, rfl, hd, rfl, hj, q⟩ := f3
    obtain ⟨G3, c3⟩ := s3
    cases c3.dat (d := .int z) List.mem_cons_self
    obtain ⟨l, rfl, e1⟩ := c3.tmp (vo, .own k) (List.mem_cons_of_mem _ List.mem_cons_self)
    have rd : Rp K G3 v d1 := c3.dat (List.mem_cons_of_mem _ (List.mem_cons_of_mem _ List.mem_cons_self))
    obtain ⟨g, us, e4, rv⟩ := c3.cells k l _ e1 hd
    refine ⟨l, us, z, j, rfl, rfl, e4, by rw [rv.length]; exact hj, ?_⟩
    have c4 := c3.mut e1 hd trivial (.lst (us.set j v)) (.lst (ds.set j d1)) ⟨g, _, upd_same, RpAll.set rd rv j⟩
    refine ⟨w, [], rfl, ?_⟩
    refine q A B ls3 _ σ _ c4.sta _ fun vo2 H4 ro2 cl4 ls4 p4 f4 s4 => ?_
    refine f4 A B ls4 _ σ H4 s4 _ fun vi2 H5 ri2 cl5 ls5 p5 f5 s5 => ?_
    obtain ⟨k2, ds2, z2, j2, rfl, hd2, rfl, hj2, q⟩ := f5
    obtain ⟨G5, c5⟩ := s5
    cases c5.dat (d := .int z2) List.mem_cons_self
    obtain ⟨l2, rfl, e12⟩ := c5.tmp (vo2, .own k2) (List.mem_cons_of_mem _ List.mem_cons_self)
    have rd2 : Rp K G5 w d2 := c5.dat (by
      refine List.mem_cons_of_mem _ (List.mem_cons_of_mem _ (List.mem_cons_of_mem _ (List.mem_cons_of_mem _ ?_)))
      exact List.mem_cons_of_mem _ List.mem_cons_self)
    obtain ⟨g2, us2, e42, rv2⟩ := c5.cells k2 l2 _ e12 hd2
    refine ⟨l2, us2, z2, j2, rfl, rfl, e42, by rw [rv2.length]; exact hj2, rfl, ?_⟩
    have c6 := c5.mut e12 hd2 trivial (.lst (us2.set j2 w)) (.lst (ds2.set j2 d2)) ⟨g2, _, upd_same, RpAll.set rd2 rv2 j2⟩
    exact e.nx _ _ sl _ ls5 ((((p.trans p2).trans p3).trans p4).trans p5) q (c6.sta.sub fun p hp => by
      refine List.mem_cons_of_mem _ (List.mem_cons_of_mem _ (List.mem_cons_of_mem _ (List.mem_cons_of_mem _ ?_)))
      exact List.mem_append_right _ hp)
end
end Sy
end

section
/-! o.m(k = v, ..), [*a, *b], sorted(set(..)) of pairs of ints -/
namespace Sy
open PySem PySem.Spec L2 Evl
def tMethN (C : Addr) (f : Str) (m : Nat) (sp : Sp) (gV : List V → List V → List V) (E : XK) (ta : TE) (tk : TA) : TE := fun σ H Q => ta σ H fun x H1 => ∃ a dx fs, x = .ref a ∧ H1 a = some (.ins C dx fs) ∧ fs.lookup f = none ∧ tk σ H1 fun zs H2 => zs.length = m ∧ sp (gV [.ref a] zs) H2 Q E
section
variable {X : Cx} {CX : CXT} {k : Nat} {f C : Addr} {fd : FuncData} {ps ks : List Str} {sp : Sp} {E : XK} {m : Str} {pos apos : Pos} {o : Expr} {ta : TE} {kws : List Keyword} {tk : TA} {g : List Value → List Value → List Value} {gV : List V → List V → List V}
theorem pe_methN0 {pl : Sem Bool} (he : PE X o ta) (c : Cls X.K C) (hm : Meth X.K C m f) (F : FnOk X.prog X.w X.K X.mg X.base CX k f fd ps sp) (hr : Room k X.A) (hb : KBn X.K fd ps 1 ks g gV) (hx : Passes CX X E) (hkw : PK X kws tk)
    (hall : (backToKw pos (keywordEach kws X.env)).all (·.1.isSome) = true := by rfl) (hks : (backToKw pos (keywordEach kws X.env)).filterMap (·.1) = ks := by rfl)
    (hpl : ((backTo pos (starEach [] X.env)).any (·.1) || (backToKw pos (keywordEach kws X.env)).any (·.1.isNone)) = false := by rfl)
    (ht : eval (.Call (.Attribute o m apos) [] kws pos) X.env = (do
      let ov ← eval o X.env
      standAt apos.atName
      let (f, first) ← holding [ov] (getMethod ov m pl)
      callWith pos f first (backTo pos (starEach [] X.env)) (backToKw pos (keywordEach kws X.env))) := by rfl) :
    PE X (.Call (.Attribute o m apos) [] kws pos) (tMethN C m ks.length sp gV E ta tk) := by
  refine ⟨fun pins s σ H Q I h => ?_⟩
  refine PySem.W.methodCall_KW (pl := pl) (thn (he.run pins s σ H _ I h) fun u s1 ⟨x, H1, I1, rx, a, dx, fs, ex, ea, l, q⟩ => ?_) ht
  subst ex
  obtain rfl : u = Value.ref a := rx
  refine getmeth_ok I1 ea c hm l ?_
  refine PySem.W.callWith_KW0 (first := [.ref a]) (h₀ := X.base) I.ok.mod.kin hm.kp hall ?_ hpl
  refine thn (hkw.run pos pins s1 σ H1 _ I1 q) fun ws s2 ⟨zs, H2, I2, rz, l2, q2⟩ => ⟨I2.kIn, ?_⟩
  rw [hks]
  exact run_fnN (us := [.ref a]) (vs := [.ref a]) F hr hb hx I2 (.cons rfl .nil) rz rfl l2 q2
end
section
variable {K : PySem.W.Frag} {G H : Hp} {sl : List SD} {cl : List Cell} {Φ : SD → List Cell → Prop} {Ψ : List SD → List Cell → Prop} {r : SD} {te ta : TE} {tk t : TA}
/-- o.m(k = v, ..) -/
theorem wp_methN {P : Pr} {C : Addr} {f : Str} {m : Nat} {gV : List V → List V → List V} {X : XK} (gS : List SD → List SD → List SD)
    (hg : ∀ (vs zs : List V) (rs qs : List SD), vs.length = rs.length → zs.length = qs.length → rs.length = 1 → qs.length = m → (gV vs zs).length = (gS rs qs).length ∧ ∀ p ∈ (gV vs zs).zip (gS rs qs), p ∈ vs.zip rs ∨ p ∈ zs.zip qs ∨ Cst K p)
    (h : Wp K ta sl cl fun r cl1 => ∃ ks, r = .dat (.dict ((.none, .int (Int.ofNat C)) :: ks)) ∧ fldK f ks = none ∧ WpA K tk sl cl1 fun qs cl2 => qs.length = m ∧ ∃ sel, CallOk P (gS [r] qs) sl cl2 sel Φ) : Wp K (tMethN C f m (spS K P) gV X ta tk) sl cl Φ := by
  intro A B ls τ σ H s Q k
  refine h A B ls τ σ H s _ fun x H1 r cl1 ls1 e1 h1 s1 => ?_
  obtain ⟨ks, rfl, hn, h1⟩ := h1
  have s0 := s1
  obtain ⟨G, c⟩ := s0
  have ok := c.dat List.mem_cons_self
  cases ok with
  | @obj a dx _ fs _ o1 o2 o3 =>
    refine ⟨a, dx, fs, rfl, c.exG _ _ o1, o3.none hn, ?_⟩
    refine h1 A B ls1 _ σ H1 s1 _ fun zs H2 qs cl2 ls2 e2 h2 hl2 s2 => ?_
    obtain ⟨n2, sel, h2⟩ := h2
    refine ⟨hl2.trans n2, ?_⟩
    obtain ⟨g1, g2⟩ := hg [.ref a] zs [.dat (.dict ((.none, .int (Int.ofNat C)) :: ks))] qs rfl hl2 rfl n2
    obtain ⟨G2, c2⟩ := s2
    have s3 : Sta K A B ls2 sl cl2 ((gV [.ref a] zs).zip (gS [.dat (.dict ((.none, .int (Int.ofNat C)) :: ks))] qs) ++ τ) σ H2 := ⟨G2, c2.tmps fun p hp => by
      rcases List.mem_append.mp hp with z | z
      · rcases g2 p z with z | z | ⟨d, e1, e2⟩
        · exact c2.tmp p (List.mem_append_right _ (List.mem_singleton.mp z ▸ List.mem_cons_self))
        · exact c2.tmp p (List.mem_append_left _ z)
        · rw [e1]; exact e2 G2
      · exact c2.tmp p (List.mem_append_right _ (List.mem_cons_of_mem _ z))⟩
    exact run_call s3 g1 (fun p hp => List.mem_append_left _ hp) h2 fun v H' r cl' ls' e3 f s4 => k v H' r cl' ls' ((e1.trans e2).trans e3) f (s4.sub fun p hp => by
      rcases List.mem_cons.mp hp with z | z
      · rw [z]; exact List.mem_cons_self
      · exact List.mem_cons_of_mem _ (List.mem_append_right _ z))
theorem RpAll.zips {G : Hp} {ls : List Addr} : ∀ {xs : List V} {ds : List PyData}, RpAll K G xs ds → ∀ p ∈ xs.zip (ds.map SD.dat), ValOk K G ls p.1 p.2
  | _, _, .nil, p, h => by cases h
  | _, _, .cons a b, p, h => by
    rcases List.mem_cons.mp h with z | z
    · rw [z]; exact a
    · exact RpAll.zips b p z
/-- [*e, ..] -/
theorem wa_star (h : Wp K te sl cl fun r cl1 => ∃ ds, (seeL cl1 r = some ds ∨ r = .dat (.tuple ds)) ∧ WpA K t sl cl1 fun rs cl2 => (seeL cl2 r = some ds ∨ r = .dat (.tuple ds)) ∧ Ψ (ds.map .dat ++ rs) cl2) : WpA K (StX.tStar K te t) sl cl Ψ := by
  intro A B ls τ σ H s Q k
  refine h A B ls τ σ H s _ fun x H1 r cl1 ls1 e1 h1 s1 => ?_
  obtain ⟨ds, hr, h1⟩ := h1
  have s0 := s1
  obtain ⟨G, c⟩ := s0
  have see : ∃ p xs, x = V.ref p ∧ (SqT K H1 p xs ∨ SqL K H1 p xs) ∧ RpAll K G xs ds := by
    rcases hr with hr | rfl
    · obtain ⟨a, ws, rfl, e2, e3⟩ := c.seeL List.mem_cons_self hr
      exact ⟨a, ws, rfl, .inr e2, e3⟩
    · have ok := c.dat List.mem_cons_self
      cases ok with
      | @tup a ws _ e2 e3 => exact ⟨a, ws, rfl, .inl (ex_t c.exG e2), e3⟩
  obtain ⟨p, xs, rfl, hs, hrp⟩ := see
  refine ⟨p, xs, rfl, hs, ?_⟩
  have s2 : Sta K A B ls1 sl cl1 (xs.zip (ds.map SD.dat) ++ ((V.ref p, r) :: τ)) σ H1 := ⟨G, c.tmps fun q hq => by
    rcases List.mem_append.mp hq with z | z
    · exact RpAll.zips hrp q z
    · exact c.tmp q z⟩
  refine h1 A B ls1 _ σ H1 s2 _ fun ys H2 rs cl2 ls2 e2 h2 hl s3 => ?_
  have hlen : xs.length = (ds.map SD.dat).length := by rw [List.length_map]; exact hrp.length
  refine k (xs ++ ys) H2 (ds.map .dat ++ rs) cl2 ls2 (e1.trans e2) h2.2 (by rw [List.length_append, List.length_append, hlen, hl]) (s3.sub fun q hq => ?_)
  rw [List.zip_append hlen] at hq
  rcases List.mem_append.mp hq with z | z
  · rcases List.mem_append.mp z with z | z
    · exact List.mem_append_right _ (List.mem_append_left _ z)
    · exact List.mem_append_left _ z
  · exact List.mem_append_right _ (List.mem_append_right _ (List.mem_cons_of_mem _ z))
/-! sorted(set(..)) of pairs -/
theorem RpAll.prs {G : Hp} : ∀ {ss : List (Int × Int)} {xs : List V}, RpAll K G xs (ss.map prD2) → ∃ ks : List (Addr × List Int), xs = ks.map (fun p => V.ref p.1) ∧ ks.map (·.2) = ss.map (fun s => [s.1, s.2]) ∧ ∀ p ∈ ks, SqT K G p.1 (p.2.map V.int)
  | [], _, .nil => ⟨[], rfl, rfl, fun p hp => by cases hp⟩
  | s :: ss, _, .cons a b => by
    obtain ⟨ks, rfl, e2, e3⟩ := RpAll.prs b
    cases a with
    | @tup a ws _ f2 f3 =>
      have : ws = [s.1, s.2].map V.int := RpAll.ints (ns := [s.1, s.2]) f3
      subst this
      refine ⟨(a, [s.1, s.2]) :: ks, rfl, by rw [List.map_cons, e2] <;> rfl, fun p hp => ?_⟩
      rcases List.mem_cons.mp hp with z | z
      · rw [z]; exact f2
      · exact e3 p z
def pr2 (ns : List Int) : Int × Int := (ns.getD 0 0, ns.getD 1 0)
theorem RpAll.ofPrs {G : Hp} : ∀ {L : List (Addr × List Int)}, (∀ p ∈ L, SqT K G p.1 (p.2.map V.int) ∧ ∃ x y, p.2 = [x, y]) → RpAll K G (L.map fun q => V.ref q.1) ((L.map fun q => pr2 q.2).map prD2)
  | [], _ => .nil
  | (a, ns) :: L, h => by
    obtain ⟨h1, x, y, h2⟩ := h _ List.mem_cons_self
    have h2 : ns = [x, y] := h2
    subst h2
    exact .cons (.tup h1 (RpAll.ofInts [x, y])) (RpAll.ofPrs fun p hp => h p (List.mem_cons_of_mem _ hp))
theorem wp_srtSetT {Pg : Program} {w : World} {B : Int} (h : Wp K te sl cl fun r cl1 => ∃ ss : List (Int × Int), seeL cl1 r = some (ss.map prD2) ∧ ss.length < 64 ∧ (∀ s ∈ ss, TS.Bd B [s.1, s.2]) ∧
      ∀ ss' : List (Int × Int), ss'.Nodup → (∀ s, s ∈ ss' ↔ s ∈ ss) → ss'.Pairwise (fun s t => TS.code B [s.1, s.2] ≤ TS.code B [t.1, t.2]) → Φ (.dat (.list (ss'.map prD2))) cl1) :
    Wp K (tCB (rSortedT K Pg w) (tCons (tCB (rSetOfT K Pg w) (tCons te tNil)) tNil)) sl cl Φ := by
  intro A B' ls τ σ H s Q k
  refine h A B' ls τ σ H s _ fun v H1 r cl1 ls1 e1 h1 s1 => ?_
  obtain ⟨ss, hr, hz, hb, q⟩ := h1
  obtain ⟨G, c⟩ := s1
  obtain ⟨p, ws, rfl, e2, e3⟩ := c.seeL List.mem_cons_self hr
  obtain ⟨ks, rfl, f2, f3⟩ := e3.prs
  have hlen : ks.length = ss.length := by
    have := congrArg List.length f2
    simpa using this
  refine ⟨p, ks, rfl, e2, fun q hq => ex_t c.exG (f3 q hq), by omega, fun a L ha hL1 hL2 => ?_⟩
  have two : ∀ q ∈ ks, ∃ s ∈ ss, q.2 = [s.1, s.2] := fun q hq => by
    have : q.2 ∈ ks.map (·.2) := List.mem_map_of_mem hq
    rw [f2] at this
    obtain ⟨s, hs, e⟩ := List.mem_map.mp this
    exact ⟨s, hs, e.symm⟩
  have hp0 : ∀ q ∈ L, SqT K (upd H1 a (SetTO Pg w a L)) q.1 (q.2.map V.int) := fun q hq => ex_t ((c.pop.junk ha (SetTO Pg w a L)).exG) (f3 q (hL1 q hq))
  refine ⟨a, L, 2, B, rfl, upd_same, hp0, by decide, fun q hq => ?_, fun L' b pm nd l64 pw hb' => ?_⟩
  · obtain ⟨s, hs, e⟩ := two q (hL1 q hq)
    rw [e]
    exact ⟨rfl, hb s hs⟩
  have c' := ((c.pop.junk ha (SetTO Pg w a L)).alloc hb' (.lst (L'.map fun q => V.ref q.1)))
  have m1 : ∀ q ∈ L', q ∈ ks := fun q hq => hL1 q (pm.mem_iff.mp hq)
  have eG : Ex G (upd G b (.lst (L'.map fun q => V.ref q.1))) := Ex.new ((c.pop.junk ha (SetTO Pg w a L)).fresh hb').1
  have ra : RpAll K (upd G b (.lst (L'.map fun q => V.ref q.1))) (L'.map fun q => V.ref q.1) ((L'.map fun q => pr2 q.2).map prD2) := RpAll.ofPrs fun q hq => by
    obtain ⟨s, _, e⟩ := two q (m1 q hq)
    exact ⟨ex_t eG (f3 q (m1 q hq)), _, _, e⟩
  have cd : ∀ q ∈ L', TS.code B [(pr2 q.2).1, (pr2 q.2).2] = TS.code B q.2 ∧ q.2 = [(pr2 q.2).1, (pr2 q.2).2] := fun q hq => by
    obtain ⟨s, _, e⟩ := two q (m1 q hq)
    rw [e] <;> exact ⟨rfl, rfl⟩
  refine k _ _ _ cl1 ls1 e1 (q (L'.map fun q => pr2 q.2) ?_ (fun s => ?_) ?_) (c'.push (r := .dat (.list ((L'.map fun q => pr2 q.2).map prD2))) (.lst upd_same ra)).sta
  · have e : L'.map (·.2) = (L'.map fun q => pr2 q.2).map fun s => [s.1, s.2] := by
      rw [List.map_map]
      exact List.map_congr_left fun q hq => (cd q hq).2
    rw [e] at nd
    exact List.Pairwise.of_map (fun s : Int × Int => [s.1, s.2]) (fun _ _ hne e => hne (congrArg (fun s : Int × Int => [s.1, s.2]) e)) nd
  · constructor
    · intro hs
      obtain ⟨q, hq, rfl⟩ := List.mem_map.mp hs
      obtain ⟨s, hs, e⟩ := two q (m1 q hq)
      have : pr2 q.2 = s := by rw [e] <;> rfl
      rw [this]; exact hs
    · intro hs
      have : ([s.1, s.2] : List Int) ∈ ks.map (·.2) := by rw [f2]; exact List.mem_map_of_mem (f := fun s : Int × Int => [s.1, s.2]) hs
      obtain ⟨q, hq, e⟩ := List.mem_map.mp this
      obtain ⟨q', hq', e'⟩ := List.mem_map.mp (hL2 q hq)
      refine List.mem_map.mpr ⟨q', pm.mem_iff.mpr hq', ?_⟩
      have e : q'.2 = [s.1, s.2] := e'.trans e
      rw [e] <;> rfl
  · rw [List.pairwise_map]
    refine List.Pairwise.imp_of_mem (fun {x y} hx hy h => ?_) pw
    rw [(cd x hx).1, (cd y hy).1]
    exact h
end
end Sy
end

section
/-! a list's truth; f([e, ..], [e, ..]) with own lists within -/
namespace Sy
open PySem PySem.Spec L2 Evl
section
variable {K : PySem.W.Frag} {A B G G' H H' : Hp} {ls ls' : List Addr} {sl sl' : List SD} {cl cl' : List Cell} {τ τ' : List (V × SD)} {σ σ' : St} {Φ : SD → List Cell → Prop} {Φb : Bool → List Cell → Prop} {ta : TE}
theorem wp_truL (h : Wp K ta sl cl fun r cl1 => ∃ ds, seeL cl1 r = some ds ∧ Φb (!ds.isEmpty) cl1) : WpT K (fun σ H Q => ta σ H fun x H' => ∃ k, TruV K x H' k ∧ Q k H') sl cl Φb := by
  intro A B ls τ σ H s Q k
  refine h A B ls τ σ H s _ fun x H1 r1 cl1 ls1 e1 h1 s1 => ?_
  obtain ⟨ds, hs, f⟩ := h1
  obtain ⟨G, c⟩ := s1
  obtain ⟨a, ws, rfl, e2, e3⟩ := c.seeL List.mem_cons_self hs
  refine ⟨!ws.isEmpty, .inl ⟨ws, e2, rfl⟩, ?_⟩
  have e : ws.isEmpty = ds.isEmpty := by
    cases e3 <;> rfl
  rw [e]
  exact k _ H1 cl1 ls1 e1 f (Core.sta (c.tmps fun p hp => c.tmp p (List.mem_cons_of_mem _ hp)))
theorem run_lentG {P : Pr} {vs : List V} {as : List SD} {Q : VK} {X : XK} (c : Core K A B ls sl cl τ σ H G) (hl : as.length = vs.length)
    (hA : ∀ G1 : Hp, Ex G G1 → (∀ (i : Nat) (l : Addr) (d : Cell), ls[i]? = some l → cl[i]? = some d → d.live → G1 l = H l) → ∀ (i : Nat) (sd : SD), as[i]? = some sd → ∃ v, (vs.map some)[i]? = some (some v) ∧ ValOk K G1 [] v sd)
    (h : P as [] fun r _ => ∃ d, r = .dat d ∧ flatD d = true ∧ Φ (.dat d) cl)
    (k : ∀ v H' r cl' ls', ls <+: ls' → Φ r cl' → Sta K A B ls' sl cl' ((v, r) :: τ) σ H' → Q v H') : spS K P vs H Q X := by
  -- what is lent joins what is seen
  let G1 : Hp := fun b => open Classical in if ∃ (i : Nat) (d : Cell), ls[i]? = some b ∧ cl[i]? = some d ∧ d.live then H b else G b
  let B1 : Hp := fun b => open Classical in if ∃ (i : Nat) (d : Cell), ls[i]? = some b ∧ cl[i]? = some d ∧ d.live then none else B b
  have up : Ex G G1 := fun b o e => by
    by_cases hc : ∃ (i : Nat) (d : Cell), ls[i]? = some b ∧ cl[i]? = some d ∧ d.live
    · obtain ⟨i, d, e1, e2, e3⟩ := hc
      rw [((c.cells i b d e1 e2).there e3).1] at e
      cases e
    · exact (if_neg hc).trans e
  have in1 : ∀ {i : Nat} {l : Addr} {d : Cell}, ls[i]? = some l → cl[i]? = some d → d.live → G1 l = H l := fun {i l d} e1 e2 e3 => if_pos ⟨i, d, e1, e2, e3⟩
  have toH : Ex G1 H := fun b o e => by
    by_cases hc : ∃ (i : Nat) (d : Cell), ls[i]? = some b ∧ cl[i]? = some d ∧ d.live
    · have z : G1 b = H b := if_pos hc
      rw [← z]; exact e
    · have z : G1 b = G b := if_neg hc
      rw [z] at e; exact c.exG _ _ e
  have ban1 : ∀ b o, B1 b = some o → B b = some o ∧ G1 b = none := fun b o e => by
    by_cases hc : ∃ (i : Nat) (d : Cell), ls[i]? = some b ∧ cl[i]? = some d ∧ d.live
    · have z : B1 b = none := if_pos hc
      rw [z] at e; cases e
    · have z : B1 b = B b := if_neg hc
      rw [z] at e
      exact ⟨e, (if_neg hc).trans (c.ban _ _ e)⟩
  have c1 : Core K G1 B1 [] as [] [] (vs.map some) H G1 :=
    ⟨Ex.refl G1, toH, fun b o e => c.exB _ _ (ban1 b o e).1, fun b o e => (ban1 b o e).2, fun i l d e1 _ _ => by simp at e1, fun i j l d d' e1 _ _ _ _ _ => by simp at e1, rfl, fun i l d e1 _ => by simp at e1, by rw [List.length_map]; exact hl, fun i sd e _ => hA G1 up (fun i l d e1 e2 e3 => in1 e1 e2 e3) i sd e, fun p hp => by cases hp⟩
  refine ⟨G1, B1, [], as, [], _, h, c1.sta, fun v H' r cl' ls' pre hΦ s' => ?_⟩
  obtain ⟨d, rfl, fd, hΦ⟩ := hΦ
  obtain ⟨G2, c2⟩ := s'
  have keep : ∀ b o, G1 b = some o → H' b = some o := fun b o e => c2.exG _ _ (c2.exA _ _ e)
  have c3 : Core K A B ls sl cl ((v, .dat d) :: τ) σ H' G := by
    refine ⟨c.exA, fun b o e => keep _ _ (up _ _ e), fun b o e => ?_, c.ban, c.banc, c.inj, c.len, fun i l d e1 e2 => ?_, c.slen, c.slots, fun p hp => ?_⟩
    · have hc : ¬ ∃ (i : Nat) (d : Cell), ls[i]? = some b ∧ cl[i]? = some d ∧ d.live := fun ⟨i, d, e1, e2, e3⟩ => by
        rw [c.banc i b d e1 e2 e3] at e
        cases e
      exact c2.exB _ _ ((if_neg hc).trans e)
    · by_cases hd : d.live
      · obtain ⟨_, o, ho⟩ := (c.cells i l d e1 e2).there hd
        exact (c.cells i l d e1 e2).mono (Ex.refl G) ((keep _ _ ((in1 e1 e2 hd).trans ho)).trans ho.symm) rfl
      · exact .of_dead hd
    · rcases List.mem_cons.mp hp with z | z
      · rw [z]
        exact flat_rp fd (c2.dat List.mem_cons_self)
      · exact c.tmp p z
  exact k v H' _ cl ls (List.prefix_refl _) hΦ c3.sta
theorem lent_rp (c : Core K A B ls sl cl τ σ H G) {G1 : Hp} (up : Ex G G1) (in1 : ∀ (i : Nat) (l : Addr) (d : Cell), ls[i]? = some l → cl[i]? = some d → d.live → G1 l = H l) {rs as : List SD} (hL : Lent cl rs as) : ∀ {vs : List V} {ds : List PyData}, as = ds.map .dat → vs.length = rs.length → (∀ p ∈ vs.zip rs, p ∈ τ) → RpAll K G1 vs ds := by
  induction hL with
  | nil =>
    intro vs ds e hl _
    cases ds with
    | nil =>
      cases vs with
      | nil => exact .nil
      | cons _ _ => cases hl
    | cons _ _ => cases e
  | @dat d rs as _ ih =>
    intro vs ds e hl hm
    match vs, hl, ds, e with
    | v :: vs, hl, d2 :: ds, e =>
      injection e with e1 e2
      cases e1
      exact .cons ((c.dat (hm _ List.mem_cons_self)).mono up) (ih e2 (Nat.succ.inj hl) fun p hp => hm p (List.mem_cons_of_mem _ hp))
  | @own k ds0 rs as e0 _ ih =>
    intro vs ds e hl hm
    match vs, hl, ds, e with
    | v :: vs, hl, d2 :: ds, e =>
      injection e with e1 e2
      cases e1
      obtain ⟨l, rfl, e1⟩ := c.tmp _ (hm _ List.mem_cons_self)
      obtain ⟨_, ws, f1, f2⟩ := c.cells k l _ e1 e0
      exact .cons (.lst ((in1 _ _ _ e1 e0 trivial).trans f1) (f2.mono up)) (ih e2 (Nat.succ.inj hl) fun p hp => hm p (List.mem_cons_of_mem _ hp))
  | @tup is ds0 rs as hI _ ih =>
    intro vs ds e hl hm
    match vs, hl, ds, e with
    | v :: vs, hl, d2 :: ds, e =>
      injection e with e1 e2
      cases e1
      obtain ⟨a, ws, rfl, f1, f2⟩ := c.tmp _ (hm _ List.mem_cons_self)
      exact .cons (.tup (ex_t up f1) (hI.rp c up in1 f2)) (ih e2 (Nat.succ.inj hl) fun p hp => hm p (List.mem_cons_of_mem _ hp))
/-- f([e, ..], [e, ..]): f only looks, its value is flat data -/
theorem wp_callLL {P : Pr} {X : XK} {t1 t2 : TA} (h : WpA K t1 sl cl fun rs1 cl1 => rs1.length ≤ 1000 ∧ WpA K t2 sl cl1 fun rs2 cl2 => rs2.length ≤ 1000 ∧ ∃ ds1 ds2, Lent cl2 rs1 (ds1.map .dat) ∧ Lent cl2 rs2 (ds2.map .dat) ∧
      P [.dat (.list ds1), .dat (.list ds2)] [] fun r _ => ∃ d, r = .dat d ∧ flatD d = true ∧ Φ (.dat d) cl2) : Wp K (tCall (spS K P) [] X (tCons (tLst t1) (tCons (tLst t2) tNil))) sl cl Φ := by
  intro A B ls τ σ H s Q k
  refine h A B ls τ σ H s _ fun vs1 H1 rs1 cl1 ls1 e1 h1 hl1 s1 => ?_
  obtain ⟨hz1, h1⟩ := h1
  refine ⟨sz_of (by rw [hl1]; omega), fun p1 hp1 => ?_⟩
  obtain ⟨G1, c1⟩ := s1
  have c1' := c1.alloc hp1 (.lst vs1)
  have sA : Sta K (upd G1 p1 (.lst vs1)) B ls1 sl cl1 (vs1.zip rs1 ++ τ) σ (upd H1 p1 (.lst vs1)) := ⟨_, ⟨Ex.refl _, c1'.exG, c1'.exB, c1'.ban, c1'.banc, c1'.inj, c1'.len, c1'.cells, c1'.slen, c1'.slots, c1'.tmp⟩⟩
  refine h1 _ B ls1 _ σ _ sA _ fun vs2 H2 rs2 cl2 ls2 e2 h2 hl2 s2 => ?_
  obtain ⟨hz2, ds1, ds2, L1, L2, hP⟩ := h2
  refine ⟨sz_of (by rw [hl2]; omega), fun p2 hp2 => ?_⟩
  obtain ⟨G2, c2⟩ := s2
  have c2' := c2.alloc hp2 (.lst vs2)
  have g1 : (upd G2 p2 (.lst vs2)) p1 = some (.lst vs1) := c2'.exA _ _ upd_same
  have c3 : Core K A B ls2 sl cl2 (vs2.zip rs2 ++ (vs1.zip rs1 ++ τ)) σ (upd H2 p2 (.lst vs2)) (upd G2 p2 (.lst vs2)) := ⟨c1'.exA.trans c2'.exA, c2'.exG, c2'.exB, c2'.ban, c2'.banc, c2'.inj, c2'.len, c2'.cells, c2'.slen, c2'.slots, c2'.tmp⟩
  show spS K P [.ref p1, .ref p2] (upd H2 p2 (.lst vs2)) Q X
  refine run_lentG c3 (vs := [.ref p1, .ref p2]) (as := [.dat (.list ds1), .dat (.list ds2)]) rfl (fun G' up own i sd e => ?_) hP fun v H' r cl' ls' e3 f s4 => k v H' r cl' ls' ((e1.trans e2).trans e3) f (s4.sub fun p hp => by
    rcases List.mem_cons.mp hp with z | z
    · rw [z]; exact List.mem_cons_self
    · exact List.mem_cons_of_mem _ (List.mem_append_right _ (List.mem_append_right _ z)))
  match i, e with
  | 0, e =>
    cases e
    exact ⟨_, rfl, .lst (up _ _ g1) (lent_rp c3 up own L1 rfl hl1 fun p hp => List.mem_append_right _ (List.mem_append_left _ hp))⟩
  | 1, e =>
    cases e
    exact ⟨_, rfl, .lst (up _ _ upd_same) (lent_rp c3 up own L2 rfl hl2 fun p hp => List.mem_append_left _ hp)⟩
  | i + 2, e => cases e
end
end Sy
end

section
/-! promises on any value of a kind; min, max of a list of ints; is of bools; turns -/
namespace Sy
open PySem L2 Evl
section
variable {K : PySem.W.Frag} {sl : List SD} {cl : List Cell} {Φ : SD → List Cell → Prop} {r r1 r2 : SD} {rs : List SD} {ds : List PyData}
theorem wc_minI {ns : List Int} (h : seeL cl r = some (ns.map .int)) (hp : 0 < ns.length) (q : ∀ m, m ∈ ns → (∀ y, y ∈ ns → m ≤ y) → Φ (.dat (.int m)) cl) : Wc K (rMin K) [r] sl cl Φ := by
  intro A B ls τ σ H vs ⟨G, c⟩ hl hm Q k
  obtain ⟨v, rfl, hv⟩ := one_of hl hm
  obtain ⟨a, ws, rfl, e2, e3⟩ := c.seeL hv h
  rw [e3.ints] at e2
  exact ⟨a, ns, rfl, e2, hp, fun m h1 h2 => k _ H _ cl ls (List.prefix_refl _) (q m h1 h2) (c.push (r := .dat (.int m)) (.int _)).sta⟩
theorem wc_maxI {ns : List Int} (h : seeL cl r = some (ns.map .int)) (hp : 0 < ns.length) (q : ∀ m, m ∈ ns → (∀ y, y ∈ ns → y ≤ m) → Φ (.dat (.int m)) cl) : Wc K (rMax K) [r] sl cl Φ := by
  intro A B ls τ σ H vs ⟨G, c⟩ hl hm Q k
  obtain ⟨v, rfl, hv⟩ := one_of hl hm
  obtain ⟨a, ws, rfl, e2, e3⟩ := c.seeL hv h
  rw [e3.ints] at e2
  exact ⟨a, ns, rfl, e2, hp, fun m h1 h2 => k _ H _ cl ls (List.prefix_refl _) (q m h1 h2) (c.push (r := .dat (.int m)) (.int _)).sta⟩
theorem wo_isBl {a b : Bool} (h1 : r1 = .dat (.bool a)) (h2 : r2 = .dat (.bool b)) (q : Φ (.dat (.bool (decide (a = b)))) cl) : Wo K rIsB r1 r2 sl cl Φ := by
  intro A B ls τ σ H x y ⟨G, c⟩ hx hy Q k
  subst h1 h2
  cases c.dat hx
  cases c.dat hy
  exact ⟨a, b, rfl, rfl, k _ H _ cl ls (List.prefix_refl _) q (c.push (r := .dat (.bool (decide (a = b)))) (.bl _)).sta⟩
theorem turn_q {m i : Nat} {Inv : Nat → List SD → List Cell → Prop} {sl3 : List SD} {cl3 : List Cell} {sl4 : List SD} (q : Inv (i + 1) sl4 (cl3.take m)) (w : WkL sl3 sl4) (l : LowL m sl4) : turnNx m Inv i sl3 cl3 := ⟨sl4, w.wk, l.low, q⟩
theorem wi_mid {wi : TI} {Φi : List PyData → List Cell → Prop} (P : List PyData → List Cell → Prop) (h : WpI K wi sl cl P) (k : ∀ ds cl', P ds cl' → Φi ds cl') : WpI K wi sl cl Φi := fun A B ls τ σ H s R q => h A B ls τ σ H s R fun J H' A' ds cl' ls' p f eA s' it => q J H' A' ds cl' ls' p (k ds cl' f) eA s' it
theorem wp_mid {te : TE} (P : SD → List Cell → Prop) (h : Wp K te sl cl P) (k : ∀ r cl', P r cl' → Φ r cl') : Wp K te sl cl Φ := h.mono k
theorem wp_orF {t u : TT} {Φb : Bool → List Cell → Prop} (cl1 : List Cell) (h : WpT K t sl cl fun b cl' => b = false ∧ cl' = cl1) (k : WpT K u sl cl1 Φb) : WpT K (tOr t u) sl cl Φb := wp_or (h.mono fun b cl' ⟨e1, e2⟩ => by
  subst e1 e2
  rw [if_neg Bool.false_ne_true]
  exact k)
theorem wp_andT {t u : TT} {Φb : Bool → List Cell → Prop} (cl1 : List Cell) (h : WpT K t sl cl fun b cl' => b = true ∧ cl' = cl1) (k : WpT K u sl cl1 Φb) : WpT K (tAnd t u) sl cl Φb := wp_and (h.mono fun b cl' ⟨e1, e2⟩ => by
  subst e1 e2
  rw [if_pos rfl]
  exact k)
theorem wc_intB {b : Bool} (h : r = .dat (.bool b)) (q : Φ (.dat (.int (if b = true then 1 else 0))) cl) : Wc K (fun xs H Q => (∃ i, xs = [V.int i] ∧ Q (V.int i) H) ∨ ∃ k : Bool, xs = [V.bl k] ∧ Q (V.int (if k = true then 1 else 0)) H) [r] sl cl Φ := by
  intro A B ls τ σ H vs ⟨G, c⟩ hl hm Q k
  subst h
  obtain ⟨v, rfl, hv⟩ := one_of hl hm
  cases c.dat hv
  exact .inr ⟨b, rfl, k _ H _ cl ls (List.prefix_refl _) q (c.push (r := .dat (.int _)) (.int _)).sta⟩
/-- promises with their parameters i outside: the arguments D i, what is asked C i, what comes R i -/
def prX {ι : Type} (D : ι → List PyData) (C : ι → Prop) (R : ι → PyData → Prop) : Pr := fun as cl Φ => ∃ i, as = (D i).map .dat ∧ cl = [] ∧ C i ∧ ∀ d, R i d → Φ (.dat d) []
def prXO {ι : Type} (D : ι → List PyData) (C : ι → Prop) (R : ι → List PyData → Prop) : Pr := fun as cl Φ => ∃ i, as = (D i).map .dat ∧ cl = [] ∧ C i ∧ ∀ es, R i es → Φ (.own 0) [.lst es]
def prXC {ι : Type} (w : Nat) (D : ι → List PyData) (C : ι → Prop) (R : ι → PyData → Prop) : Pr := fun as cl Φ => ∃ i n c, as = .own 0 :: (D i).map .dat ∧ cl = [c] ∧ Crate n c ∧ n + w ≤ 1000000 ∧ C i ∧ ∀ d c', R i d → Crate (n + w) c' → Φ (.dat d) [c']
def prXCO {ι : Type} (w : Nat) (D : ι → List PyData) (C : ι → Prop) (R : ι → List PyData → Prop) : Pr := fun as cl Φ => ∃ i n c, as = .own 0 :: (D i).map .dat ∧ cl = [c] ∧ Crate n c ∧ n + w ≤ 1000000 ∧ C i ∧ ∀ es c', R i es → Crate (n + w) c' → Φ (.own 1) [c', .lst es]
variable {ι : Type} {D : ι → List PyData} {C : ι → Prop}
theorem call_X {R : ι → PyData → Prop} (i : ι) (e : dats rs = some (D i)) (h : C i) (q : ∀ d, R i d → Φ (.dat d) cl) : CallOk (prX D C R) rs sl cl [] Φ :=
  ⟨List.nodup_nil, fun k hk => absurd hk (by simp), _, remaps_dats e, i, rfl, rfl, h, fun d hd => ⟨Nat.zero_le _, by
    show Φ (.dat d) (cl ++ [])
    rw [List.append_nil]
    exact q d hd⟩⟩
theorem call_XO {R : ι → List PyData → Prop} (i : ι) (e : dats rs = some (D i)) (h : C i) (q : ∀ es, R i es → Φ (.own cl.length) (cl ++ [.lst es])) : CallOk (prXO D C R) rs sl cl [] Φ :=
  ⟨List.nodup_nil, fun k hk => absurd hk (by simp), _, remaps_dats e, i, rfl, rfl, h, fun es hes => ⟨Nat.zero_le _, q es hes⟩⟩
theorem remap_one {k : Nat} : remap [k] (.own k) = some (.own 0) := by
  show ([k].idxOf? k).map SD.own = _
  rw [show [k].idxOf? k = some 0 by simp [List.idxOf?]] <;> rfl
theorem call_XC {w k n : Nat} {c : Cell} {R : ι → PyData → Prop} (i : ι) (e : dats rs = some (D i)) (hk : cl[k]? = some c) (hc : Crate n c) (hn : n + w ≤ 1000000) (h : C i) (q : ∀ d c', R i d → Crate (n + w) c' → Φ (.dat d) (cl.set k c')) : CallOk (prXC w D C R) (.own k :: rs) sl cl [k] Φ := by
  refine ⟨by simp, fun j hj => ?_, .own 0 :: (D i).map .dat, ?_, i, n, c, rfl, ?_, hc, hn, h, fun d c' hd hc' => ⟨Nat.le_refl _, ?_⟩⟩
  · rw [List.mem_singleton.mp hj]; exact (List.getElem?_eq_some_iff.mp hk).1
  · unfold remaps
    rw [remap1 e, remap_one]
  · show [(cl[k]?).getD .dead] = [c]
    rw [hk] <;> rfl
  · show Φ (.dat d) ((cl.set k c') ++ [])
    rw [List.append_nil]
    exact q d c' hd hc'
theorem call_XCO {w k n : Nat} {c : Cell} {R : ι → List PyData → Prop} (i : ι) (e : dats rs = some (D i)) (hk : cl[k]? = some c) (hc : Crate n c) (hn : n + w ≤ 1000000) (h : C i) (q : ∀ es c', R i es → Crate (n + w) c' → Φ (.own cl.length) (cl.set k c' ++ [.lst es])) : CallOk (prXCO w D C R) (.own k :: rs) sl cl [k] Φ := by
  refine ⟨by simp, fun j hj => ?_, .own 0 :: (D i).map .dat, ?_, i, n, c, rfl, ?_, hc, hn, h, fun es c' hes hc' => ⟨Nat.le_add_left _ _, ?_⟩⟩
  · rw [List.mem_singleton.mp hj]; exact (List.getElem?_eq_some_iff.mp hk).1
  · unfold remaps
    rw [remap1 e, remap_one]
  · show [(cl[k]?).getD .dead] = [c]
    rw [hk] <;> rfl
  · exact q es c' hes hc'
theorem hlenX {n : Nat} {R : ι → PyData → Prop} (h : ∀ i, (D i).length = n) : ∀ as cl Φ, prX D C R as cl Φ → as.length = n := fun as cl Φ ⟨i, e, _⟩ => by rw [e, List.length_map]; exact h i
theorem hlenXO {n : Nat} {R : ι → List PyData → Prop} (h : ∀ i, (D i).length = n) : ∀ as cl Φ, prXO D C R as cl Φ → as.length = n := fun as cl Φ ⟨i, e, _⟩ => by rw [e, List.length_map]; exact h i
theorem hlenXC {w n : Nat} {R : ι → PyData → Prop} (h : ∀ i, (D i).length = n) : ∀ as cl Φ, prXC w D C R as cl Φ → as.length = n + 1 := fun as cl Φ ⟨i, _, _, e, _⟩ => by rw [e, List.length_cons, List.length_map, h i]
theorem hlenXCO {w n : Nat} {R : ι → List PyData → Prop} (h : ∀ i, (D i).length = n) : ∀ as cl Φ, prXCO w D C R as cl Φ → as.length = n + 1 := fun as cl Φ ⟨i, _, _, e, _⟩ => by rw [e, List.length_cons, List.length_map, h i]
end
end Sy
end

section
/-! nested targets of comprehensions; max of data -/
namespace Sy
open PySem L2 Evl
section
variable {K : PySem.W.Frag} {sl : List SD} {cl : List Cell} {Φ : SD → List Cell → Prop} {r r1 r2 : SD} {rs : List SD} {ds : List PyData} {i : Nat}
theorem wipe_in (σ : St) (vs : List Nat) (i : Nat) (x : Option V) (h : i ∈ vs) : wipe (σ.set i x) vs = wipe σ vs := by
  have comm : ∀ (σ : St) (vs : List Nat) (i : Nat) (x : Option V), i ∉ vs → wipe (σ.set i x) vs = (wipe σ vs).set i x := by
    intro σ vs i x h
    induction vs with
    | nil => rfl
    | cons v vs ih =>
      show (wipe (σ.set i x) vs).set v none = ((wipe σ vs).set v none).set i x
      rw [ih fun z => h (List.mem_cons_of_mem _ z), List.set_comm _ _ (fun z => h (by rw [z]; exact List.mem_cons_self))]
  induction vs with
  | nil => cases h
  | cons v vs ih =>
    show (wipe (σ.set i x) vs).set v none = (wipe σ vs).set v none
    by_cases hv : i ∈ vs
    · rw [ih hv]
    · have e : i = v := by
        rcases List.mem_cons.mp h with z | z
        · exact z
        · exact absurd z hv
      subst e
      rw [comm σ vs i x hv, List.set_set]
theorem wipe_idem (σ : St) (vs : List Nat) : wipe (wipe σ vs) vs = wipe σ vs := by
  have : ∀ us : List Nat, (∀ u ∈ us, u ∈ vs) → wipe (wipe σ us) vs = wipe σ vs := by
    intro us
    induction us with
    | nil => intro _; rfl
    | cons u us ih =>
      intro h
      show wipe ((wipe σ us).set u none) vs = _
      rw [wipe_in _ vs u none (h u List.mem_cons_self)]
      exact ih fun w hw => h w (List.mem_cons_of_mem _ hw)
  exact this vs fun u hu => hu
def GKg (g : TG) (vs : List Nat) : Prop := ∀ x σ0 σ H Q R, wipe σ vs = σ0 → (∀ σ2 H2, wipe σ2 vs = σ0 → Q σ2 H2 → R σ2 H2) → g x σ H Q → g x σ H R
def GKs (g : TGs) (vs : List Nat) : Prop := ∀ xs σ0 σ H Q R, wipe σ vs = σ0 → (∀ σ2 H2, wipe σ2 vs = σ0 → Q σ2 H2 → R σ2 H2) → g xs σ H Q → g xs σ H R
theorem gkg_name {vs : List Nat} (h : i ∈ vs) : GKg (gName i) vs := fun x σ0 σ H Q R e k q => k _ _ (by rw [wipe_in _ _ _ _ h]; exact e) q
theorem gks_nil {vs : List Nat} : GKs gNil vs := fun xs σ0 σ H Q R e k ⟨h, q⟩ => ⟨h, k _ _ e q⟩
theorem gks_cons {g : TG} {gs : TGs} {vs : List Nat} (h : GKg g vs) (hs : GKs gs vs) : GKs (gCons g gs) vs := fun xs σ0 σ H Q R e k ⟨v, r, ev, q⟩ => ⟨v, r, ev, h v σ0 σ H _ _ e (fun σ2 H2 e2 q2 => hs r σ0 σ2 H2 Q R e2 k q2) q⟩
theorem gkg_tup {n : Nat} {gs : TGs} {vs : List Nat} (hs : GKs gs vs) : GKg (gTup K n gs) vs := fun x σ0 σ H Q R e k ⟨a, xs, e1, e2, e3, q⟩ => ⟨a, xs, e1, e2, e3, hs xs σ0 σ H Q R e k q⟩
theorem gk_of {g : TG} {vs : List Nat} (h : GKg g vs) : GK g vs := fun x σ H Q q => h x (wipe σ vs) (wipe σ vs) H Q _ (wipe_idem σ vs) (fun σ2 H2 e q => ⟨e, q⟩) q
/-! max of a list of data -/
theorem max_list_at {prog : Program} {w : World} {A : Around} {E : Value → Shared → Prop} {s : Shared} {l : Addr} {vs : Array Value} {x : PyData} {xs : List PyData} {as : List Addr} {Q : Value → Shared → Prop} (hh : A.handled = none) (hl : s.heap.IsList l vs) (hr : ReadsAll s.heap vs.toList (x :: xs) as) (ha : PySem.W.AlikeAll (x :: xs)) (hu : A.units + 1 + PyData.depthAll (x :: xs) < cLine)
    (h : ∀ (i : Nat) v h' tk, vs[i]? = some v → (x :: xs)[i]? = some (PySem.W.maxD x xs) → (∀ b o, s.heap.get? b = some o → h'.get? b = some o) → Q v { s with heap := h', toks := tk }) :
    wpAny (model prog w) A (call (.builtin "max") [.ref l]) Q E s := by
  have hn : vs.size = xs.length + 1 := PySem.W.readsAll_len hr
  refine PySem.call_max_walkH (PySem.W.iter_listW (A := A.in1) hh hl fun s₂ e W st hfp hw hk => ?_)
  refine ⟨_, _, _, _, _, _, _, s.heap, _, rfl, W, st, hfp, by omega, hw, hk, PySem.W.cmpIn_gt (A := A.in1) hr ha (by show A.units + 1 + _ < _; exact hu), fun v s' hP m => ?_⟩
  obtain ⟨h', tk, rfl, hk'⟩ := PySem.W.moved_old e rfl m
  obtain ⟨bs, r, hlt, _, _⟩ := PySem.W.readsAll_atA hr _ v hP
  have e1 : vs.size - 1 = xs.length := by omega
  have e2 := (PySem.W.argBest_fold (fun a b => PySem.W.dataLt b a) PyData.none x xs xs.length (Nat.le_refl _)).2
  rw [List.take_length] at e2
  rw [e1] at r hlt hP
  refine h _ v h' tk hP ?_ hk'
  rw [List.getElem?_eq_getElem hlt]
  unfold PySem.W.maxD
  rw [← e2, List.getD_eq_getElem?_getD, List.getElem?_eq_getElem hlt] <;> rfl
def rMaxDat (K : PySem.W.Frag) : List V → Hp → VK → Prop := fun vs H Q => ∃ (a : Addr) (xs : List V) (d : PyData) (ds : List PyData), vs = [V.ref a] ∧ SqL K H a xs ∧ DpAll K H xs (d :: ds) ∧ PySem.W.AlikeAll (d :: ds) ∧ PyData.depthAll (d :: ds) ≤ 32 ∧ ∀ (i : Nat) x, xs[i]? = some x → (d :: ds)[i]? = some (PySem.W.maxD d ds) → Q x H
theorem cr_maxDat {X : Cx} (hc : X.calm = true) (hu : X.A.units + 64 < cLine) : CallR X (.builtin "max") (rMaxDat X.K) := by
  intro pins s σ H vs us Q I r h
  obtain ⟨a, xs, d, ds, rfl, hs, hd, ha, hz, q⟩ := h
  obtain ⟨its, rv, hl, _⟩ := I.list hs
  rw [Vals.ref1 r]
  obtain ⟨as, r1⟩ := Dp.readsAll I (d :: ds) xs its hd rv
  refine max_list_at (I.ok.hd hc) hl.isList (by simpa using r1) ha (by omega) fun i v h' tk e1 e2 hk => ?_
  have hlen : xs.length = its.length := rv.length
  have hi : i < xs.length := by
    have := (Array.getElem?_eq_some_iff.mp e1).1
    simp at this
    omega
  have hx : xs[i]? = some xs[i] := List.getElem?_eq_getElem hi
  obtain ⟨u, h1, h2⟩ := rv.get hx
  have e3 : its[i]? = some v := by simpa using e1
  rw [h1] at e3
  cases e3
  exact ⟨xs[i], H, I.kept hk, h2, q i _ hx e2⟩
theorem wc_maxDat {d : PyData} {ds : List PyData} (h : seeL cl r = some (d :: ds)) (ok : ∀ x ∈ d :: ds, x.canLay0 = true) (ha : PySem.W.AlikeAll (d :: ds)) (hz : PyData.depthAll (d :: ds) ≤ 32) (q : Φ (.dat (PySem.W.maxD d ds)) cl) : Wc K (rMaxDat K) [r] sl cl Φ := by
  intro A B ls τ σ H vs ⟨G, c⟩ hl hm Q k
  obtain ⟨v, rfl, hv⟩ := one_of hl hm
  obtain ⟨a, xs, rfl, e2, e3⟩ := c.seeL hv h
  have dpa : DpAll K H xs (d :: ds) := (e3.mono c.exG).dp (by
    have : ∀ ds : List PyData, (∀ x ∈ ds, x.canLay0 = true) → PyData.canLayAll0 ds = true := fun ds => by
      induction ds with
      | nil => intro _; rfl
      | cons x xs ih =>
        intro h
        show (x.canLay0 && PyData.canLayAll0 xs) = true
        rw [h x List.mem_cons_self, ih fun y hy => h y (List.mem_cons_of_mem _ hy)] <;> rfl
    exact this _ ok)
  refine ⟨a, xs, d, ds, rfl, e2, dpa, ha, hz, fun i x hx hi => ?_⟩
  obtain ⟨d', h1, h2⟩ := e3.get' hx
  rw [hi] at h1
  cases h1
  exact k _ H _ cl ls (List.prefix_refl _) q (c.push (r := .dat _) h2).sta
/-! pairs of ints -/
theorem lt_pair (a b c d : Int) : PySem.W.dataLt (prD2 (a, b)) (prD2 (c, d)) = decide (a < c ∨ a = c ∧ b < d) := by
  show PySem.W.dataLt (.tuple [.int a, .int b]) (.tuple [.int c, .int d]) = _
  rw [PySem.W.dataLt_tuple]
  by_cases h : a = c
  · subst h
    rw [PySem.W.dataLt_all_yes rfl (show PyData.eqv (.int a) (.int a) = true from decide_eq_true rfl)]
    by_cases h2 : b = d
    · subst h2
      rw [PySem.W.dataLt_all_yes rfl (show PyData.eqv (.int b) (.int b) = true from decide_eq_true rfl)]
      rw [decide_eq_false (by omega)]
      rfl
    · rw [PySem.W.dataLt_all_no rfl (show PyData.eqv (.int b) (.int d) = false from decide_eq_false h2), PySem.W.dataLt_int]
      exact decide_eq_decide.mpr (by omega)
  · rw [PySem.W.dataLt_all_no rfl (show PyData.eqv (.int a) (.int c) = false from decide_eq_false h), PySem.W.dataLt_int]
    exact decide_eq_decide.mpr (by omega)
/-- the greatest pair -/
theorem max_pairs (s : Int × Int) : ∀ (ss : List (Int × Int)), ∃ m ∈ s :: ss, PySem.W.maxD (prD2 s) (ss.map prD2) = prD2 m ∧ ∀ t ∈ s :: ss, t.1 < m.1 ∨ t.1 = m.1 ∧ t.2 ≤ m.2 := by
  intro ss
  induction ss generalizing s with
  | nil => exact ⟨s, List.mem_cons_self, rfl, fun t ht => by rw [List.mem_singleton.mp ht]; omega⟩
  | cons u ss ih =>
    have e : PySem.W.maxD (prD2 s) ((u :: ss).map prD2) = PySem.W.maxD (if PySem.W.dataLt (prD2 s) (prD2 u) then prD2 u else prD2 s) (ss.map prD2) := rfl
    rw [e, show PySem.W.dataLt (prD2 s) (prD2 u) = decide (s.1 < u.1 ∨ s.1 = u.1 ∧ s.2 < u.2) from lt_pair s.1 s.2 u.1 u.2]
    by_cases h : s.1 < u.1 ∨ s.1 = u.1 ∧ s.2 < u.2
    · rw [if_pos (decide_eq_true h)]
      obtain ⟨m, hm, e2, h2⟩ := ih u
      refine ⟨m, List.mem_cons_of_mem _ hm, e2, fun t ht => ?_⟩
      rcases List.mem_cons.mp ht with z | z
      · have := h2 u List.mem_cons_self
        rw [z]
        omega
      · exact h2 t z
    · rw [if_neg (by rw [decide_eq_false h]; exact Bool.false_ne_true)]
      obtain ⟨m, hm, e2, h2⟩ := ih s
      refine ⟨m, ?_, e2, fun t ht => ?_⟩
      · rcases List.mem_cons.mp hm with z | z
        · rw [z]; exact List.mem_cons_self
        · exact List.mem_cons_of_mem _ (List.mem_cons_of_mem _ z)
      · rcases List.mem_cons.mp ht with z | z
        · rw [z]; exact h2 s List.mem_cons_self
        · rcases List.mem_cons.mp z with z | z
          · have := h2 s List.mem_cons_self
            rw [z]
            omega
          · exact h2 t (List.mem_cons_of_mem _ z)
theorem pairs_alike {ss : List (Int × Int)} : PySem.W.AlikeAll (ss.map prD2) := ⟨fun x hx y hy => by
  obtain ⟨a, _, rfl⟩ := List.mem_map.mp hx
  obtain ⟨b, _, rfl⟩ := List.mem_map.mp hy
  rfl, fun x hx => by
  obtain ⟨a, _, rfl⟩ := List.mem_map.mp hx
  intro z
  cases z⟩
theorem pairs_depth : ∀ {ss : List (Int × Int)}, PyData.depthAll (ss.map prD2) ≤ 32
  | [] => Nat.zero_le _
  | s :: ss => by
    have := pairs_depth (ss := ss)
    show max (prD2 s).depth (PyData.depthAll (ss.map prD2)) ≤ 32
    have : (prD2 s).depth ≤ 32 := by
      show (PyData.tuple [.int s.1, .int s.2]).depth ≤ 32
      simp [PyData.depth, PyData.depthAll]
    omega
/-- max of a list of pairs of ints -/
theorem wc_maxPr {s : Int × Int} {ss : List (Int × Int)} (h : seeL cl r = some ((s :: ss).map prD2)) (q : ∀ m ∈ s :: ss, (∀ t ∈ s :: ss, t.1 < m.1 ∨ t.1 = m.1 ∧ t.2 ≤ m.2) → Φ (.dat (prD2 m)) cl) : Wc K (rMaxDat K) [r] sl cl Φ := by
  obtain ⟨m, hm, e, h2⟩ := max_pairs s ss
  refine wc_maxDat (d := prD2 s) (ds := ss.map prD2) h (fun x hx => ?_) (pairs_alike (ss := s :: ss)) (pairs_depth (ss := s :: ss)) (by rw [e]; exact q m hm h2)
  rcases List.mem_cons.mp hx with z | z
  · rw [z]; rfl
  · obtain ⟨a, _, rfl⟩ := List.mem_map.mp z
    rfl
theorem own_lastC {A B H G : Hp} {ls : List Addr} {τ : List (V × SD)} {σ : St} {p : Addr} (c : Core K A B ls sl cl τ σ H G) : (ls ++ [p])[cl.length]? = some p := by
  rw [← c.len, List.getElem?_append_right (Nat.le_refl _), Nat.sub_self] <;> rfl
/-- sorted(e), e a list of ints, the new list its own -/
theorem wc_sortIO {ns : List Int} (h : seeL cl r = some (ns.map .int)) (q : ∀ ns' : List Int, ns'.Perm ns → ns'.Pairwise (· ≤ ·) → Φ (.own cl.length) (cl ++ [.lst (ns'.map .int)])) : Wc K (rSortedI K) [r] sl cl Φ := by
  intro A B ls τ σ H vs ⟨G, c⟩ hl hm Q k
  obtain ⟨v, rfl, hv⟩ := one_of hl hm
  obtain ⟨a, ws, rfl, e2, e3⟩ := c.seeL hv h
  rw [e3.ints] at e2
  refine ⟨a, ns, rfl, e2, fun ns' p hp hs hn => ?_⟩
  have c' := c.allocOwn hn (.lst (ns'.map V.int)) (.lst (ns'.map .int)) ⟨(c.fresh hn).1, _, upd_same, RpAll.ofInts ns'⟩
  exact k _ _ _ _ (ls ++ [p]) (List.prefix_append _ _) (q ns' hp hs) (c'.push (r := .own cl.length) ⟨p, rfl, own_lastC c⟩).sta
theorem cutD_take {α : Type} {xs : List α} {k : Nat} : cutD xs none (some (k : Int)) = xs.take k := by
  unfold cutD
  rw [HT.sIx_none, HT.sIx_nat, List.drop_zero, Nat.sub_zero]
  by_cases h : k ≤ xs.length
  · rw [Nat.min_eq_left h]
  · rw [Nat.min_eq_right (by omega), List.take_of_length_le (Nat.le_refl _), List.take_of_length_le (by omega)]
theorem cutD_drop {α : Type} {xs : List α} {k : Nat} : cutD xs (some (k : Int)) none = xs.drop k := by
  unfold cutD
  rw [HT.sIx_none, HT.sIx_nat]
  by_cases h : k ≤ xs.length
  · rw [Nat.min_eq_left h, List.take_of_length_le (by rw [List.length_drop]; exact Nat.le_refl _)]
  · rw [Nat.min_eq_right (by omega), Nat.sub_self, List.take_zero, List.drop_of_length_le (by omega)]
theorem eqv_ints : ∀ a b : List Nat, PyData.eqv (.list (a.map fun (p : Nat) => .int (p : Int))) (.list (b.map fun (p : Nat) => .int (p : Int))) = decide (a = b) := by
  have h : ∀ a b : List Nat, PyData.eqvAll (a.map fun (p : Nat) => .int (p : Int)) (b.map fun (p : Nat) => .int (p : Int)) = decide (a = b) := by
    intro a
    induction a with
    | nil =>
      intro b
      cases b with
      | nil => rfl
      | cons y b => rfl
    | cons x a ih =>
      intro b
      cases b with
      | nil => rfl
      | cons y b =>
        show (decide ((x : Int) = (y : Int)) && PyData.eqvAll (a.map fun (p : Nat) => .int (p : Int)) (b.map fun (p : Nat) => .int (p : Int))) = _
        rw [ih b]
        by_cases h1 : x = y
        · by_cases h2 : a = b
          · subst h1 h2; simp
          · rw [decide_eq_false h2, Bool.and_false, decide_eq_false (fun z => h2 (List.cons.inj z).2)]
        · rw [decide_eq_false (show ¬ (x : Int) = (y : Int) by omega), Bool.false_and, decide_eq_false (fun z => h1 (List.cons.inj z).1)]
  exact h
theorem sl_listK {X : Cx} {K : PySem.W.Frag} (h : X.K = K) : SlR X (rSlL K) := h ▸ sl_list
end
end Sy
end

section
/-! sorted of data of one kind, of any length; while; sum -/
namespace Sy
open PySem L2 Evl
section
variable {K : PySem.W.Frag} {sl : List SD} {cl : List Cell} {Φ : SD → List Cell → Prop} {r r1 r2 : SD} {rs : List SD} {ds : List PyData} {i : Nat} {E : SE} {ts tu : TS}
/-! sum of a list of ints -/
theorem wc_sumI {ns : List Int} (h : seeL cl r = some (ns.map .int)) (q : Φ (.dat (.int ns.sum)) cl) : Wc K (rSum K) [r] sl cl Φ := by
  intro A B ls τ σ H vs ⟨G, c⟩ hl hm Q k
  obtain ⟨v, rfl, hv⟩ := one_of hl hm
  obtain ⟨a, ws, rfl, e2, e3⟩ := c.seeL hv h
  rw [e3.ints] at e2
  exact ⟨a, ns, rfl, e2, k _ H _ cl ls (List.prefix_refl _) q (c.push (r := .dat (.int _)) (.int _)).sta⟩
/-! while -/
def turnW (m : Nat) (Inv : Nat → List SD → List Cell → Prop) (i : Nat) : List SD → List Cell → Prop := fun sl3 cl3 => ∃ j sl4, j < i ∧ Wk sl3 sl4 ∧ Low m sl4 ∧ Inv j sl4 (cl3.take m)
theorem ws_while {c : TT} (Inv : Nat → List SD → List Cell → Prop) (m0 : Nat) (h0 : Inv m0 sl cl) (hs : ∀ m sl' cl', Inv m sl' cl' → cl'.length = cl.length →
    WpT K c sl' cl' fun b cl1 => if b = true then WpS K ts sl' cl1 { E with nx := turnW cl.length Inv m, ct := turnW cl.length Inv m, bk := E.nx } else E.nx sl' cl1) : WpS K (tWhile c ts) sl cl E := by
  intro A B ls τ σ H D s e
  have tlow := s.low_tmp
  have lm : ls.length = cl.length := s.choose_spec.len
  refine ⟨fun m σ H => ∃ sl' cl', Inv m sl' cl' ∧ Sta K A B ls sl' cl' τ σ H, ⟨m0, sl, cl, h0, s⟩, ?_⟩
  rintro m σ2 H2 ⟨sl2, cl2, inv, s2⟩
  have cm : cl2.length = cl.length := by rw [← lm]; exact s2.choose_spec.len.symm
  refine hs m sl2 cl2 inv cm A B ls τ σ2 H2 s2 _ fun b H3 cl3 ls3 p3 f3 s3 => ?_
  cases b with
  | false => exact e.nx σ2 H3 sl2 cl3 ls3 p3 f3 s3
  | true =>
    refine ⟨fun σ' H' => ∃ j, j < m ∧ ∃ sl' cl', Inv j sl' cl' ∧ Sta K A B ls sl' cl' τ σ' H', fun σ' H' ⟨j, hj, x⟩ => ⟨j, hj, x⟩, ?_⟩
    have f3 : WpS K ts sl2 cl3 { E with nx := turnW cl.length Inv m, ct := turnW cl.length Inv m, bk := E.nx } := f3
    have again : EO K A B ls3 τ (turnW cl.length Inv m) (fun σ' H' => ∃ j, j < m ∧ ∃ sl' cl', Inv j sl' cl' ∧ Sta K A B ls sl' cl' τ σ' H') := fun σ5 H5 sl5 cl5 ls5 p5 ⟨j, sl6, hj, w6, l6, i6⟩ s5 => by
      rw [← lm] at l6 i6
      exact ⟨j, hj, sl6, _, i6, s5.trim (p3.trans p5) w6 l6 tlow⟩
    exact f3 A B ls3 τ σ2 H3 _ s3 ⟨again, fun v H5 r5 sl5 cl5 σ5 ls5 p5 f5 s5 => e.rt v H5 r5 sl5 cl5 σ5 ls5 (p3.trans p5) f5 s5, fun σ5 H5 sl5 cl5 ls5 p5 f5 s5 => e.nx σ5 H5 sl5 cl5 ls5 (p3.trans p5) f5 s5, again⟩
theorem turn_w {m i j : Nat} {Inv : Nat → List SD → List Cell → Prop} {sl3 : List SD} {cl3 : List Cell} {sl4 : List SD} (hj : j < i) (q : Inv j sl4 (cl3.take m)) (w : WkL sl3 sl4) (l : LowL m sl4) : turnW m Inv i sl3 cl3 := ⟨j, sl4, hj, w.wk, l.low, q⟩
/-! sorted -/
def rSortDat (K : PySem.W.Frag) : List V → Hp → VK → Prop := fun vs H Q => ∃ (a : Addr) (xs : List V) (ds : List PyData), vs = [V.ref a] ∧ SqL K H a xs ∧ DpAll K H xs ds ∧ PySem.W.AllAlike ds ∧ PySem.W.Sortable ds ∧ (∀ d ∈ ds, d.depth ≤ 32) ∧
  ∀ (ps : List (V × PyData)) (p : Addr), ps.Perm (xs.zip ds) → (ps.map Prod.snd).Pairwise (fun a b => PySem.W.dataLt b a = false) → H p = none → Q (.ref p) (upd H p (.lst (ps.map Prod.fst)))
theorem dpAll_len {H : Hp} : ∀ {xs : List V} {ds : List PyData}, DpAll K H xs ds → xs.length = ds.length
  | _, _, .nil => rfl
  | _, _, .cons _ r => congrArg (· + 1) (dpAll_len r)
theorem each_zip {xs : List V} {ds : List PyData} : ∀ {its : List Value}, Vals xs its → xs.length = ds.length → PySem.W.EachIs (fun (v : Value) (b : V × PyData) => RelV b.1 v) its (xs.zip ds) := by
  induction xs generalizing ds with
  | nil => intro its rv _; cases rv; exact .nil
  | cons x xs ih =>
    intro its rv hl
    cases ds with
    | nil => cases hl
    | cons d ds =>
      cases rv with
      | cons r rv => exact .cons r (ih rv (Nat.succ.inj hl))
theorem each_reads {X : Cx} {pins : List (Addr × Obj)} {σ : L2.St} {H : Hp} {s : Shared} (I : Inv X pins σ H s) : ∀ {xs : List V} {ds : List PyData} {its : List Value}, DpAll X.K H xs ds → Vals xs its → PySem.W.EachIs (fun (v : Value) (b : V × PyData) => ∃ as, Reads s.heap v b.2 as) its (xs.zip ds)
  | [], _, _, .nil, rv => by cases rv; exact .nil
  | x :: xs, d :: ds, _, .cons h hs, rv => by
    cases rv with
    | cons r rv => exact .cons (Dp.reads I d x _ h r) (each_reads I hs rv)
theorem each_vals : ∀ {out : List Value} {ps : List (V × PyData)}, PySem.W.EachIs (fun (v : Value) (b : V × PyData) => RelV b.1 v) out ps → Vals (ps.map Prod.fst) out
  | _, _, .nil => .nil
  | _, _, .cons r h => .cons r (each_vals h)
theorem zip_snd {xs : List V} : ∀ {ds : List PyData}, xs.length = ds.length → (xs.zip ds).map Prod.snd = ds := by
  induction xs with
  | nil => intro ds h; cases ds with
    | nil => rfl
    | cons _ _ => cases h
  | cons x xs ih => intro ds h; cases ds with
    | nil => cases h
    | cons d ds =>
      show d :: (xs.zip ds).map Prod.snd = _
      rw [ih (Nat.succ.inj h)]
theorem cr_sortDat {X : Cx} (hu : X.A.units + 64 < cLine) : CallR X (.builtin "sorted") (rSortDat X.K) := by
  intro pins s σ H vs us Q I r h
  obtain ⟨a, xs, ds, rfl, hs, hd, hal, hk, hz, q⟩ := h
  obtain ⟨its, rv, hl, hL⟩ := I.list hs
  rw [Vals.ref1 r]
  have hlen := dpAll_len hd
  have es := zip_snd hlen
  refine PySem.W.sorted_data (bs := xs.zip ds) (enc := Prod.snd) (R := fun v b => RelV b.1 v) hl.isList (each_zip rv hlen) (each_reads I hd rv) (by rw [es]; exact hal) (by rw [es]; exact hk) (by rw [List.length_zip]; omega) (fun b hb => ?_) fun out ho eo => ?_
  · have hb2 : b.2 ∈ ds := by rw [← es]; exact List.mem_map.mpr ⟨b, hb, rfl⟩
    have := hz b.2 hb2
    omega
  · obtain ⟨ep, he'⟩ := PyProof.Rows.sortedAll_at s.heap its out.toArray
    have hp : ((xs.zip ds).mergeSort (PySem.W.dataLe false Prod.snd)).Perm (xs.zip ds) := List.mergeSort_perm _ _
    have ht := PySem.W.sortLe_total (PyProof.Rows.listOrd PyProof.Rows.itemOrd) false fun b : V × PyData => PySem.W.keyToks b.2
    have hsrt : (((xs.zip ds).mergeSort (PySem.W.dataLe false Prod.snd)).map Prod.snd).Pairwise (fun a b => PySem.W.dataLt b a = false) := by
      rw [List.pairwise_map]
      refine (List.pairwise_mergeSort (le := PySem.W.dataLe false Prod.snd) ht.trans (fun a b => by rcases ht.total a b with h | h <;> simp [PySem.W.dataLe, h]) (xs.zip ds)).imp fun {a b} h => ?_
      have h : (!PySem.W.dataLt b.2 a.2) = true := h
      simpa using h
    have hlen2 : (((xs.zip ds).mergeSort (PySem.W.dataLe false Prod.snd)).map Prod.fst).length ≤ sizeLine := by
      rw [List.length_map, hp.length_eq, List.length_zip]
      omega
    exact ⟨.ref _, upd H (s.heap.objs.size + 1) (.lst (((xs.zip ds).mergeSort (PySem.W.dataLe false Prod.snd)).map Prod.fst)), I.laid (t' := s.toks) (fun _ _ => PyProof.Rows.sortedAll_old) (Nat.le_succ _) ⟨hlen2, out, ep, each_vals eo, by simpa using he'⟩, rfl, q _ _ hp hsrt (I.hok.fresh (Nat.le_succ _))⟩
theorem rpAll_zip {G : Hp} : ∀ {xs : List V} {ds : List PyData}, RpAll K G xs ds → ∀ p ∈ xs.zip ds, Rp K G p.1 p.2
  | _, _, .nil, p, hp => by cases hp
  | _, _, .cons h r, p, hp => by
    rcases List.mem_cons.mp hp with z | z
    · rw [z]; exact h
    · exact rpAll_zip r p z
theorem rpAll_of {G : Hp} : ∀ {ps : List (V × PyData)}, (∀ p ∈ ps, Rp K G p.1 p.2) → RpAll K G (ps.map Prod.fst) (ps.map Prod.snd)
  | [], _ => .nil
  | p :: ps, h => .cons (h p List.mem_cons_self) (rpAll_of fun q hq => h q (List.mem_cons_of_mem _ hq))
theorem layAll0_of : ∀ {ds : List PyData}, (∀ x ∈ ds, x.canLay0 = true) → PyData.canLayAll0 ds = true
  | [], _ => rfl
  | x :: xs, h => by
    show (x.canLay0 && PyData.canLayAll0 xs) = true
    rw [h x List.mem_cons_self, layAll0_of fun y hy => h y (List.mem_cons_of_mem _ hy)] <;> rfl
theorem wc_sortDat {ds : List PyData} (h : seeL cl r = some ds) (ok : ∀ x ∈ ds, x.canLay0 = true) (hal : PySem.W.AllAlike ds) (hk : PySem.W.Sortable ds) (hz : ∀ d ∈ ds, d.depth ≤ 32) (q : ∀ es : List PyData, es.Perm ds → es.Pairwise (fun a b => PySem.W.dataLt b a = false) → Φ (.dat (.list es)) cl) : Wc K (rSortDat K) [r] sl cl Φ := by
  intro A B ls τ σ H vs ⟨G, c⟩ hl hm Q k
  obtain ⟨v, rfl, hv⟩ := one_of hl hm
  obtain ⟨a, xs, rfl, e2, e3⟩ := c.seeL hv h
  refine ⟨a, xs, ds, rfl, e2, (e3.mono c.exG).dp (layAll0_of ok), hal, hk, hz, fun ps p hp hs hn => ?_⟩
  have c' := c.alloc hn (.lst (ps.map Prod.fst))
  have eG : Ex G (upd G p (.lst (ps.map Prod.fst))) := Ex.new (c.fresh hn).1
  have hR : RpAll K G (ps.map Prod.fst) (ps.map Prod.snd) := rpAll_of fun x hx => rpAll_zip e3 x (hp.subset hx)
  have hP : (ps.map Prod.snd).Perm ds := by
    have := hp.map Prod.snd
    rwa [zip_snd e3.length] at this
  exact k _ _ _ cl ls (List.prefix_refl _) (q _ hP hs) (c'.push (r := .dat (.list (ps.map Prod.snd))) (.lst upd_same (hR.mono eG))).sta
def unpr : PyData → Int × Int | .tuple [.int a, .int b] => (a, b) | _ => (0, 0)
theorem wc_sortPrD {ss : List (Int × Int)} (h : seeL cl r = some (ss.map prD2)) (q : ∀ ss' : List (Int × Int), ss'.Perm ss → ss'.Pairwise (fun s t => s.1 < t.1 ∨ s.1 = t.1 ∧ s.2 ≤ t.2) → Φ (.dat (.list (ss'.map prD2))) cl) : Wc K (rSortDat K) [r] sl cl Φ := by
  refine wc_sortDat h (fun x hx => ?_) (fun x hx y hy => ?_) (.inl fun x hx => ?_) (fun x hx => ?_) fun es hp hs => ?_
  · obtain ⟨a, _, rfl⟩ := List.mem_map.mp hx
    rfl
  · obtain ⟨a, _, rfl⟩ := List.mem_map.mp hx
    obtain ⟨b, _, rfl⟩ := List.mem_map.mp hy
    rfl
  · obtain ⟨a, _, rfl⟩ := List.mem_map.mp hx
    exact ⟨_, _, rfl⟩
  · obtain ⟨a, _, rfl⟩ := List.mem_map.mp hx
    show (PyData.tuple [.int a.1, .int a.2]).depth ≤ 32
    simp [PyData.depth, PyData.depthAll]
  · have ee : es = (es.map unpr).map prD2 := by
      rw [List.map_map]
      refine (List.map_id es).symm.trans (List.map_congr_left fun x hx => ?_)
      obtain ⟨a, _, rfl⟩ := List.mem_map.mp (hp.subset hx)
      rfl
    have ep : (es.map unpr).Perm ss := by
      have := hp.map unpr
      rw [List.map_map] at this
      refine this.trans (List.Perm.of_eq ?_)
      exact (List.map_congr_left fun x _ => rfl).trans (List.map_id ss)
    rw [ee] at hs ⊢
    refine q _ ep ?_
    rw [List.pairwise_map] at hs
    refine hs.imp fun {a b} h => ?_
    have h : PySem.W.dataLt (prD2 (b.1, b.2)) (prD2 (a.1, a.2)) = false := h
    rw [lt_pair] at h
    have := of_decide_eq_false h
    omega
end
end Sy
end

section
/-! reversed lists walked; list(range(..)) -/
namespace Sy
open PySem L2 Evl
section
variable {K : PySem.W.Frag} {sl : List SD} {cl : List Cell} {Φ : SD → List Cell → Prop} {Φi : List PyData → List Cell → Prop} {tr : TA} {ta tb : TE}
theorem wi_revL (h : WpA K tr sl cl fun rs cl1 => ∃ ds, rs = [.dat (.list ds)] ∧ Φi ds.reverse cl1) : WpI K (iRev K tr) sl cl Φi := by
  intro A B ls τ σ H s R k
  refine h A B ls τ σ H s _ fun vs H1 rs cl1 ls1 p f hl s1 => ?_
  obtain ⟨ds, rfl, q⟩ := f
  obtain ⟨v, rfl, hv⟩ := one_of (P := fun p => p ∈ (vs.zip [SD.dat (.list ds)]) ++ τ) hl (fun p hp => List.mem_append_left _ hp)
  obtain ⟨G, c⟩ := s1
  have ok := c.dat hv
  cases ok with
  | @lst a xs _ e1 e2 =>
    refine ⟨a, xs, rfl, SqL.of (c.exG _ _ e1), ?_⟩
    have cpop : Core K G B ls1 sl cl1 τ σ H1 G := (c.tmps fun p hp => c.tmp p (List.mem_append_right _ hp)).up
    refine k (Itv K a xs.length) H1 G ds.reverse cl1 ls1 p q c.exA cpop.sta fun B' i ls2 sl2 cl2 τ2 σ2 H2 ⟨G2, c2⟩ => ⟨fun d hd => ?_, fun hi => ?_⟩
    · have hil : i < ds.length := by
        have := (List.getElem?_eq_some_iff.mp hd).1
        rw [List.length_reverse] at this
        exact this
      rw [List.getElem?_reverse hil] at hd
      have hn : ds.length = xs.length := e2.length.symm
      rw [hn] at hd hil
      obtain ⟨v, f1, f2⟩ := e2.get hd
      have hs : SqL K H2 a xs := SqL.of (c2.exG _ _ (c2.exA _ _ e1))
      refine ⟨⟨hil, xs, v, hs, f1⟩, fun x H' y => ?_⟩
      obtain ⟨rfl, y⟩ := y
      have e := y xs hs
      rw [f1] at e
      cases e
      exact (c2.push (r := .dat d) (f2.mono c2.exA)).sta
    · rw [List.length_reverse] at hi
      show xs.length ≤ i
      rw [e2.length]
      exact hi
/-- the ints lo, lo + 1, .. -/
theorem wp_lstRg2 (h : Wp K ta sl cl fun r cl1 => Wp K tb sl cl1 fun r2 cl2 => ∃ (i j : Int), r = .dat (.int i) ∧ r2 = .dat (.int j) ∧ 0 ≤ i ∧ i ≤ 100000 ∧ 0 ≤ j ∧ j ≤ 100000 ∧ Φ (.dat (.list (rngD i (j - i).toNat))) cl2) : Wp K (tLstRg (tRg2 ta tb)) sl cl Φ := by
  intro A B ls τ σ H s Q k
  refine h A B ls τ σ H s _ fun v H1 r cl1 ls1 e1 h1 s1 => ?_
  refine h1 A B ls1 _ σ H1 s1 _ fun v2 H2 r2 cl2 ls2 e2 h2 s2 => ?_
  obtain ⟨i, j, rfl, rfl, b1, b2, b3, b4, q⟩ := h2
  obtain ⟨G, c⟩ := s2
  have ok2 : Rp K G v2 (.int j) := c.tmp _ List.mem_cons_self
  have ok1 : Rp K G v (.int i) := c.tmp _ (List.mem_cons_of_mem _ List.mem_cons_self)
  cases ok1
  cases ok2
  refine ⟨i, j, rfl, rfl, RgOk.of_le (by omega) (by omega) (by omega) (by omega), fun p hp => ?_⟩
  have ra : RpAll K G (rgV i j) (rngD i (j - i).toNat) := by
    unfold rgV rngD
    induction List.range (j - i).toNat with
    | nil => exact .nil
    | cons a l ih => exact .cons (.int _) ih
  have c' := c.pop.pop.alloc hp (.lst (rgV i j))
  have eG : Ex G (upd G p (.lst (rgV i j))) := Ex.new (c.fresh hp).1
  exact k _ _ _ cl2 ls2 (e1.trans e2) q (c'.push (r := .dat (.list (rngD i (j - i).toNat))) (.lst upd_same (ra.mono eG))).sta
theorem wp_lstRg1 (h : Wp K ta sl cl fun r cl1 => ∃ j : Int, r = .dat (.int j) ∧ 0 ≤ j ∧ j ≤ 100000 ∧ Φ (.dat (.list (rngD 0 j.toNat))) cl1) : Wp K (tLstRg (tRg1 ta)) sl cl Φ := by
  intro A B ls τ σ H s Q k
  refine h A B ls τ σ H s _ fun v H1 r cl1 ls1 e1 h1 s1 => ?_
  obtain ⟨j, rfl, b3, b4, q⟩ := h1
  obtain ⟨G, c⟩ := s1
  have ok1 : Rp K G v (.int j) := c.tmp _ List.mem_cons_self
  cases ok1
  refine ⟨j, rfl, RgOk.of_le (by omega) (by omega) (by omega) (by omega), fun p hp => ?_⟩
  have ra : RpAll K G (rgV 0 j) (rngD 0 j.toNat) := by
    unfold rgV rngD
    rw [Int.sub_zero]
    induction List.range j.toNat with
    | nil => exact .nil
    | cons a l ih => exact .cons (.int _) ih
  have c' := c.pop.alloc hp (.lst (rgV 0 j))
  have eG : Ex G (upd G p (.lst (rgV 0 j))) := Ex.new (c.fresh hp).1
  exact k _ _ _ cl1 ls1 e1 q (c'.push (r := .dat (.list (rngD 0 j.toNat))) (.lst upd_same (ra.mono eG))).sta
end
end Sy
end

section
/-! what is raised -/
namespace Sy
open PySem L2 Evl
/-- an exception's own dict; what stands for it -/
def xV : Option Addr → V
  | none => .non
  | some a => .ref a
def xS : Option PyData → SD
  | none => .dat .none
  | some p => .dat (.dict [(.str "paper", p)])
/-- class, paper, slots, cells -/
abbrev XS := Value → Option PyData → List SD → List Cell → Prop
abbrev PrX := List SD → List Cell → (SD → List Cell → Prop) → (Value → Option PyData → List Cell → Prop) → Prop
def spX (K : PySem.W.Frag) (P : PrX) : Sp := fun vs H Q E => ∃ A B ls as cl Φ Ξ, P as cl Φ Ξ ∧ Sta K A B ls as cl [] (vs.map some) H ∧
  (∀ v H' r cl' ls', ls <+: ls' → Φ r cl' → Sta K A B ls' [] cl' [(v, r)] [] H' → Q v H') ∧
  ∀ cls d p H' cl' ls', ls <+: ls' → Ξ cls p cl' → Sta K A B ls' [] cl' [(xV d, xS p)] [] H' → E cls d H'
section
variable {K : PySem.W.Frag} {A B G G' H H' : Hp} {ls ls' : List Addr} {sl sl' : List SD} {cl cl' : List Cell} {τ τ' : List (V × SD)} {σ σ' : St} {v x y : V} {r r1 r2 : SD}
variable {te ta tb : TE} {t u : TT} {tr : TA} {Φ : SD → List Cell → Prop} {E : SE} {ts tu : TS} {g : TG} {Ξ Ξ' : XS}
def XOk (K : PySem.W.Frag) (A B : Hp) (ls : List Addr) (τ : List (V × SD)) (Ξ : XS) (W : WX) : Prop :=
  ∀ cls d p σ' H' sl' cl' ls', ls <+: ls' → Ξ cls p sl' cl' → Sta K A B ls' sl' cl' ((xV d, xS p) :: τ) σ' H' → W cls d σ' H'
theorem XOk.pre {W : WX} (h : XOk K A B ls τ Ξ W) (p : ls <+: ls') : XOk K A B ls' τ Ξ W := fun cls d q σ' H' sl' cl' l2 e f s => h cls d q σ' H' sl' cl' l2 (p.trans e) f s
theorem XOk.more {W : WX} (h : XOk K A B ls τ Ξ W) (m : ∀ p ∈ τ, p ∈ τ') : XOk K A B ls τ' Ξ W := fun cls d q σ' H' sl' cl' l2 e f s => h cls d q σ' H' sl' cl' l2 e f (s.sub fun p hp => by
  rcases List.mem_cons.mp hp with z | z
  · rw [z]; exact List.mem_cons_self
  · exact List.mem_cons_of_mem _ (m p z))
theorem XOk.imp {W : WX} (h : XOk K A B ls τ Ξ' W) (i : ∀ cls p sl cl, Ξ cls p sl cl → Ξ' cls p sl cl) : XOk K A B ls τ Ξ W := fun cls d q σ' H' sl' cl' l2 e f s => h cls d q σ' H' sl' cl' l2 e (i _ _ _ _ f) s
/-- expressions, argument lists, statements in which something may be raised -/
def WpX (K : PySem.W.Frag) (tw : WX → TE) (sl : List SD) (cl : List Cell) (Φ : SD → List Cell → Prop) (Ξ : XS) : Prop :=
  ∀ A B ls τ σ H W, Sta K A B ls sl cl τ σ H → XOk K A B ls τ Ξ W → ∀ Q : VK, (∀ v H' r cl' ls', ls <+: ls' → Φ r cl' → Sta K A B ls' sl cl' ((v, r) :: τ) σ H' → Q v H') → tw W σ H Q
def WpAX (K : PySem.W.Frag) (tw : WX → TA) (sl : List SD) (cl : List Cell) (Φ : List SD → List Cell → Prop) (Ξ : XS) : Prop :=
  ∀ A B ls τ σ H W, Sta K A B ls sl cl τ σ H → XOk K A B ls τ Ξ W → ∀ Q : List V → Hp → Prop, (∀ vs H' rs cl' ls', ls <+: ls' → Φ rs cl' → vs.length = rs.length → Sta K A B ls' sl cl' (vs.zip rs ++ τ) σ H' → Q vs H') → tw W σ H Q
def WpSX (K : PySem.W.Frag) (tw : WX → TS) (sl : List SD) (cl : List Cell) (E : SE) (Ξ : XS) : Prop :=
  ∀ A B ls τ σ H D W, Sta K A B ls sl cl τ σ H → EndsOk K A B ls τ D E → XOk K A B ls τ Ξ W → tw W D σ H
theorem wx_of (h : Wp K te sl cl Φ) : WpX K (fun _ => te) sl cl Φ Ξ := fun A B ls τ σ H W s _ Q k => h A B ls τ σ H s Q k
theorem wax_of {Φ : List SD → List Cell → Prop} (h : WpA K tr sl cl Φ) : WpAX K (fun _ => tr) sl cl Φ Ξ := fun A B ls τ σ H W s _ Q k => h A B ls τ σ H s Q k
theorem wsx_of (h : WpS K ts sl cl E) : WpSX K (fun _ => ts) sl cl E Ξ := fun A B ls τ σ H D W s e _ => h A B ls τ σ H D s e
theorem wax_cons {Φa : List SD → List Cell → Prop} {te : WX → TE} {tr : WX → TA} (h : WpX K te sl cl (fun r cl1 => WpAX K tr sl cl1 (fun rs cl2 => Φa (r :: rs) cl2) Ξ) Ξ) : WpAX K (fun W => tCons (te W) (tr W)) sl cl Φa Ξ := by
  intro A B ls τ σ H W s xo Q k
  refine h A B ls τ σ H W s xo _ fun x H1 r cl1 ls1 e1 h1 s1 => ?_
  refine h1 A B ls1 _ σ H1 W s1 ((xo.pre e1).more fun p hp => List.mem_cons_of_mem _ hp) _ fun vs H2 rs cl2 ls2 e2 h2 hl s2 => ?_
  refine k (x :: vs) H2 (r :: rs) cl2 ls2 (e1.trans e2) h2 (congrArg (· + 1) hl) (s2.sub fun p hp => ?_)
  rcases List.mem_append.mp hp with z | z
  · rcases List.mem_cons.mp z with z | z
    · rw [z]; exact List.mem_append_right _ List.mem_cons_self
    · exact List.mem_append_left _ z
  · exact List.mem_append_right _ (List.mem_cons_of_mem _ z)
/-- the items of a tuple that is made -/
def itemOf : SD → Option TI1
  | .dat d => some (.d d)
  | .own k => some (.o k)
  | _ => none
def itemsOf : List SD → Option (List TI1)
  | [] => some []
  | r :: rs => match itemOf r, itemsOf rs with
    | some a, some b => some (a :: b)
    | _, _ => none
theorem items_ok : ∀ {rs : List SD} {is : List TI1} {vs : List V}, itemsOf rs = some is → vs.length = rs.length → (∀ p ∈ vs.zip rs, ValOk K G ls p.1 p.2) → Paired (ItmOk K G ls) vs is
  | [], _, [], e, _, _ => by cases e; exact .nil
  | r :: rs, is, v :: vs, e, hl, h => by
    unfold itemsOf at e
    cases q1 : itemOf r with
    | none => rw [q1] at e; cases e
    | some a =>
      cases q2 : itemsOf rs with
      | none => rw [q1, q2] at e; cases e
      | some b =>
        rw [q1, q2] at e
        cases e
        refine .cons ?_ (items_ok q2 (Nat.succ.inj hl) fun p hp => h p (List.mem_cons_of_mem _ hp))
        have h0 : ValOk K G ls v r := h (v, r) List.mem_cons_self
        cases r with
        | dat d => cases q1; exact h0
        | own k => cases q1; exact h0
        | _ => cases q1
  | [], _, _ :: _, _, hl, _ => by cases hl
  | _ :: _, _, [], _, hl, _ => by cases hl
theorem wx_tup {tr : WX → TA} (h : WpAX K tr sl cl (fun rs cl1 => ∃ ds, dats rs = some ds ∧ ds.length ≤ 100000 ∧ Φ (.dat (.tuple ds)) cl1) Ξ) : WpX K (fun W => tTup (tr W)) sl cl Φ Ξ := by
  intro A B ls τ σ H W s xo Q k
  refine h A B ls τ σ H W s xo _ fun vs H1 rs cl1 ls1 e1 h1 hl s1 => ?_
  obtain ⟨ds, hd, hz, q⟩ := h1
  obtain ⟨G, c⟩ := s1
  have ra := dats_ok hd hl fun p hp => c.tmp p (List.mem_append_left _ hp)
  refine ⟨sz_of (by rw [ra.length]; exact hz), fun p hp => ?_⟩
  have c' := c.alloc hp (.tup vs)
  have eG : Ex G (upd G p (.tup vs)) := Ex.new (c.fresh hp).1
  exact k _ _ _ cl1 ls1 e1 q ((c'.tmps (τ' := τ) fun q hq => c'.tmp q (List.mem_append_right _ hq)).push (r := .dat (.tuple ds)) (.tup (SqT.of upd_same) (ra.mono eG))).sta
theorem paired_len {α β : Type} {R : α → β → Prop} {l : List α} {m : List β} (h : Paired R l m) : l.length = m.length := by
  induction h with
  | nil => rfl
  | cons _ _ ih => exact congrArg (· + 1) ih
theorem wx_tupO {tr : WX → TA} (h : WpAX K tr sl cl (fun rs cl1 => ∃ is, itemsOf rs = some is ∧ is.length ≤ 100000 ∧ Φ (.tup is) cl1) Ξ) : WpX K (fun W => tTup (tr W)) sl cl Φ Ξ := by
  intro A B ls τ σ H W s xo Q k
  refine h A B ls τ σ H W s xo _ fun vs H1 rs cl1 ls1 e1 h1 hl s1 => ?_
  obtain ⟨is, hd, hz, q⟩ := h1
  obtain ⟨G, c⟩ := s1
  have ra := items_ok hd hl fun p hp => c.tmp p (List.mem_append_left _ hp)
  refine ⟨sz_of (by rw [paired_len ra]; exact hz), fun p hp => ?_⟩
  have c' := c.alloc hp (.tup vs)
  have eG : Ex G (upd G p (.tup vs)) := Ex.new (c.fresh hp).1
  exact k _ _ _ cl1 ls1 e1 q ((c'.tmps (τ' := τ) fun q hq => c'.tmp q (List.mem_append_right _ hq)).push (r := .tup is) ⟨_, vs, rfl, SqT.of upd_same, Paired.mapP ra fun _ _ z => z.mono eG (List.prefix_refl _)⟩).sta
theorem wp_tupO (h : WpA K tr sl cl fun rs cl1 => ∃ is, itemsOf rs = some is ∧ is.length ≤ 100000 ∧ Φ (.tup is) cl1) : Wp K (tTup tr) sl cl Φ := fun A B ls τ σ H s Q k =>
  wx_tupO (Ξ := fun _ _ _ _ => False) (wax_of h) A B ls τ σ H (fun _ _ _ _ => True) s (fun _ _ _ _ _ _ _ _ _ _ _ => trivial) Q k
/-! calls -/
def CallOkX (P : PrX) (rs : List SD) (sl : List SD) (cl : List Cell) (sel : List Nat) (Φ : SD → List Cell → Prop) (Ξ : XS) : Prop :=
  sel.Nodup ∧ (∀ k ∈ sel, k < cl.length) ∧ ∃ as, remaps sel rs = some as ∧ P as (pick sel cl) (fun r cl' => sel.length ≤ cl'.length ∧ Φ (unmap sel cl.length r) (putBack sel cl' cl ++ cl'.drop sel.length))
    (fun cls p cl' => sel.length ≤ cl'.length ∧ Ξ cls p sl (putBack sel cl' cl ++ cl'.drop sel.length))
theorem unmap_xS {sel : List Nat} {n : Nat} : ∀ p : Option PyData, unmap sel n (xS p) = xS p
  | none => rfl
  | some _ => rfl
theorem run_callX {P : PrX} {vs : List V} {rs : List SD} {Q : VK} {W : WX} {sel : List Nat} (s : Sta K A B ls sl cl τ σ H) (hl : vs.length = rs.length) (hm : ∀ p ∈ vs.zip rs, p ∈ τ) (h : CallOkX P rs sl cl sel Φ Ξ) (xo : XOk K A B ls τ Ξ W)
    (k : ∀ v H' r cl' ls', ls <+: ls' → Φ r cl' → Sta K A B ls' sl cl' ((v, r) :: τ) σ H' → Q v H') : spX K P vs H Q (WE W σ) := by
  obtain ⟨nd, hb, as, ea, hP⟩ := h
  obtain ⟨A1, B1, ls1, s1, back⟩ := call_core s hl hm nd hb ea
  refine ⟨A1, B1, ls1, as, pick sel cl, _, _, hP, s1, fun v H' r cl' ls' pre hΦ s' => ?_, fun cls d p H' cl' ls' pre hΞ s' => ?_⟩
  · obtain ⟨ls2, p2, s2⟩ := back v H' r cl' ls' pre hΦ.1 s'
    exact k v H' _ _ ls2 p2 hΦ.2 s2
  · obtain ⟨ls2, p2, s2⟩ := back (xV d) H' (xS p) cl' ls' pre hΞ.1 s'
    rw [unmap_xS] at s2
    exact xo cls d p σ H' sl _ ls2 p2 hΞ.2 s2
theorem wx_call {P : PrX} {tr : WX → TA} (h : WpAX K tr sl cl (fun rs cl1 => ∃ sel, CallOkX P rs sl cl1 sel Φ Ξ) Ξ) : WpX K (fun W => tCallS (spX K P) (WE W) (tr W)) sl cl Φ Ξ := by
  intro A B ls τ σ H W s xo Q k
  refine h A B ls τ σ H W s xo _ fun vs H1 rs cl1 ls1 e1 h1 hl s1 => ?_
  obtain ⟨sel, h1⟩ := h1
  exact run_callX s1 hl (fun p hp => List.mem_append_left _ hp) h1 ((xo.pre e1).more fun p hp => List.mem_append_right _ hp) fun v H' r cl' ls' e2 f s2 => k v H' r cl' ls' (e1.trans e2) f (s2.sub fun p hp => by
    rcases List.mem_cons.mp hp with z | z
    · rw [z]; exact List.mem_cons_self
    · exact List.mem_cons_of_mem _ (List.mem_append_right _ z))
/-- a call that raises nothing here -/
theorem wp_callX0 {P : PrX} {tr : TA} (h : WpA K tr sl cl fun rs cl1 => ∃ sel, CallOkX P rs sl cl1 sel Φ fun _ _ _ _ => False) : Wp K (tCallS (spX K P) (WE fun _ _ _ _ => False) tr) sl cl Φ := fun A B ls τ σ H s Q k =>
  wx_call (tr := fun _ => tr) (wax_of h) A B ls τ σ H (fun _ _ _ _ => False) s (fun _ _ _ _ _ _ _ _ _ f _ => f.elim) Q k
/-- a call of a def that raises nothing, some argument of which may raise -/
theorem wx_call0 {P : Pr} {E0 : XK} {tr : WX → TA} (h : WpAX K tr sl cl (fun rs cl1 => ∃ sel, CallOk P rs sl cl1 sel Φ) Ξ) : WpX K (fun W => tCall (spS K P) [] E0 (tr W)) sl cl Φ Ξ := by
  intro A B ls τ σ H W s xo Q k
  refine h A B ls τ σ H W s xo _ fun vs H1 rs cl1 ls1 e1 h1 hl s1 => ?_
  obtain ⟨sel, h1⟩ := h1
  show spS K P (vs ++ []) H1 Q E0
  rw [List.append_nil]
  exact run_call s1 hl (fun p hp => List.mem_append_left _ hp) h1 fun v H' r cl' ls' e2 f s2 => k v H' r cl' ls' (e1.trans e2) f (s2.sub fun p hp => by
    rcases List.mem_cons.mp hp with z | z
    · rw [z]; exact List.mem_cons_self
    · exact List.mem_cons_of_mem _ (List.mem_append_right _ z))
/-! statements -/
theorem wsx_seq {ts tu : WX → TS} (h : WpSX K ts sl cl { E with nx := fun sl1 cl1 => WpSX K tu sl1 cl1 E Ξ } Ξ) : WpSX K (fun W => tSeq (ts W) (tu W)) sl cl E Ξ := by
  intro A B ls τ σ H D W s e xo
  exact h A B ls τ σ H { D with nx := tu W D } W s ⟨fun σ' H' sl' cl' ls' p f s' => f A B ls' τ σ' H' D W s' (e.pre p) (xo.pre p), e.rt, e.bk, e.ct⟩ xo
theorem wsx_if {c : TT} {ts tu : WX → TS} (h : WpT K c sl cl fun b cl1 => if b = true then WpSX K ts sl cl1 E Ξ else WpSX K tu sl cl1 E Ξ) : WpSX K (fun W => tIfS c (ts W) (tu W)) sl cl E Ξ := by
  intro A B ls τ σ H D W s e xo
  refine h A B ls τ σ H s _ fun b H1 cl1 ls1 p f s1 => ?_
  cases b with
  | true => exact f A B ls1 τ σ H1 D W s1 (e.pre p) (xo.pre p)
  | false => exact f A B ls1 τ σ H1 D W s1 (e.pre p) (xo.pre p)
theorem wsx_ret {te : WX → TE} (h : WpX K te sl cl E.rt Ξ) : WpSX K (fun W => tRet (te W)) sl cl E Ξ := by
  intro A B ls τ σ H D W s e xo
  exact h A B ls τ σ H W s xo _ fun v H1 r cl1 ls1 p f s1 => e.rt v H1 r sl cl1 σ ls1 p f s1
theorem wsx_drop {te : WX → TE} (h : WpX K te sl cl (fun _ cl1 => E.nx sl cl1) Ξ) : WpSX K (fun W => tDrop (te W)) sl cl E Ξ := by
  intro A B ls τ σ H D W s e xo
  exact h A B ls τ σ H W s xo _ fun v H1 r cl1 ls1 p f s1 => e.nx σ H1 sl cl1 ls1 p f (s1.sub fun q hq => List.mem_cons_of_mem _ hq)
theorem wsx_asg {te : WX → TE} (h : WpX K te sl cl (fun r cl1 => WpG K g r sl cl1 fun sl1 => E.nx sl1 cl1) Ξ) : WpSX K (fun W => tAsg (te W) g) sl cl E Ξ := by
  intro A B ls τ σ H D W s e xo
  refine h A B ls τ σ H W s xo _ fun v H1 r cl1 ls1 p f s1 => ?_
  exact f A B ls1 _ σ H1 v s1 List.mem_cons_self _ fun σ' sl' q s2 => e.nx σ' H1 sl' cl1 ls1 p q (s2.sub fun q hq => List.mem_cons_of_mem _ hq)
theorem wsx_mono {ts : WX → TS} (h : WpSX K ts sl cl E Ξ') (i : ∀ cls p sl' cl', Ξ' cls p sl' cl' → Ξ cls p sl' cl') : WpSX K ts sl cl E Ξ := fun A B ls τ σ H D W s e xo => h A B ls τ σ H D W s e (xo.imp i)
/-- raise X('..') -/
theorem wsx_raise {cls : Value} (q : Ξ cls none sl cl) : WpSX K (fun W => fun _ σ H => W cls none σ H) sl cl E Ξ := fun A B ls τ σ H D W ⟨G, c⟩ e xo =>
  xo cls none none σ H sl cl ls (List.prefix_refl _) q (c.push (v := xV none) (r := xS none) .non).sta
/-- try: .. except X: .., its parts told -/
def tTryO (K : PySem.W.Frag) (tb : WX → TS) (c : Value) (tS : Addr → Value → Option Addr → TS) (Wout : WX) : TS := fun D σ H => tb (wOnly K c tS Wout D) D σ H
theorem un65 {k : Nat} {A : Around} (h : Room k A) : A.units + 65 < cLine := by have := h.un; omega
/-- try: .. except X: .. -/
theorem wsx_try {tb : WX → TS} {tS : Addr → Value → Option Addr → WX → TS} {c : Value} (h : WpSX K tb sl cl E fun cls p sl1 cl1 => ∃ b, PySem.W.exmOne K cls c = some b ∧ if b = true then ∀ a d, WpSX K (tS a cls d) sl1 cl1 E Ξ else Ξ cls p sl1 cl1) :
    WpSX K (fun Wout => tTryO K tb c (fun a cls d => tS a cls d Wout) Wout) sl cl E Ξ := by
  intro A B ls τ σ H D W s e xo
  refine h A B ls τ σ H D _ s e fun cls d p σ' H' sl' cl' ls' pre ⟨b, eb, f⟩ s' => ⟨b, eb, fun hb a _ => ?_, fun hb => ?_⟩
  · rw [if_pos hb] at f
    exact f a d A B ls' τ σ' H' D W (s'.sub fun p hp => List.mem_cons_of_mem _ hp) (e.pre pre) (xo.pre pre)
  · rw [if_neg (by rw [hb]; exact Bool.false_ne_true)] at f
    exact xo cls d p σ' H' sl' cl' ls' pre f s'
/-- where nothing is let out -/
theorem ws_of_x {ts : WX → TS} {W : WX} (h : WpSX K ts sl cl E fun _ _ _ _ => False) : WpS K (ts W) sl cl E := fun A B ls τ σ H D s e => h A B ls τ σ H D W s e fun _ _ _ _ _ _ _ _ _ f => f.elim
theorem ws_try {tb : WX → TS} {tS : Addr → Value → Option Addr → TS} {c : Value} {Wout : WX} (h : WpSX K tb sl cl E fun cls p sl1 cl1 => PySem.W.exmOne K cls c = some true ∧ ∀ a d, WpS K (tS a cls d) sl1 cl1 E) :
    WpS K (tTryO K tb c tS Wout) sl cl E :=
  ws_of_x (ts := fun W => tTryO K tb c (fun a cls d => (fun _ => tS a cls d) W) W) (W := Wout) (wsx_try (tS := fun a cls d _ => tS a cls d) (wsx_mono h fun cls p sl' cl' ⟨e, f⟩ => ⟨true, e, by rw [if_pos rfl]; exact fun a d => wsx_of (f a d)⟩))
end
section
variable {X : Cx} {x : Str} {c : Value} {body suite : List Stmt} {b₀ : Stmt} {np pos pos' : Pos} {tb : WX → TS} {ts : Addr → Value → Option Addr → TS} {Wout : WX}
theorem ps_tryO (hs : X.stack = X.env :: X.outer) (hf : X.env.frame = some X.env.locals) (hc : Names X x c) (tk : Takes X Wout)
    (hb : ∀ (W : WX) (pn : List (Addr × Obj)) (xe : Value → Shared → Prop), Takes (X.tr pn xe) W → PassesOwn (model X.prog X.w) X.A X.env xe → PSs (X.tr pn xe) body (tb W))
    (hsu : ∀ (a : Addr) (oe : Obj) (cls : Value) (d : Option Addr) (pn : List (Addr × Obj)), Zc cls d oe → (∃ vs, oe.data = .fields vs) → PSs (X.suite a ((a, oe) :: pn)) (b₀ :: suite) (ts a cls d)) :
    PS X (.Try body [.ExceptHandler (some (.Name x np)) none (b₀ :: suite) pos'] [] [] pos) (tTryO X.K tb c ts Wout) := ps_try_only hs hf hc tk hb hsu
end
/-! a def that may raise keeps its promise -/
section
variable {K : PySem.W.Frag} {A B G G' H H' : Hp} {ls ls' : List Addr}
theorem body_okX {P : PrX} {N ps : List Str} {tw : WX → TS} {vs : List V} {Q : VK} {E : XK} (hP : ∀ as cl Φ Ξ, P as cl Φ Ξ → as.length = ps.length) (h : spX K P vs H Q E)
    (hb : ∀ as cl Φ Ξ, P as cl Φ Ξ → WpSX K tw (as ++ List.replicate (N.length - ps.length) .unk) cl (endsF cl.length Φ) fun cls p _ cl' => Ξ cls p (cl'.take cl.length)) : tw (fun cls d _ H => E cls d H) { nx := fun _ H' => Q .non H', rt := Q } (L2.start N vs) H := by
  obtain ⟨A, B, ls, as, cl, Φ, Ξ, hp, s0, k, kx⟩ := h
  obtain ⟨G, c⟩ := s0
  have lm : ls.length = cl.length := c.len
  refine hb as cl Φ Ξ hp A B ls [] _ H _ _ (start_core (hP _ _ _ _ hp) c).sta (body_ends lm k) ?_
  · intro cls d p σ' H' sl' cl' ls' pre f ⟨G', c'⟩
    rw [← lm] at f
    refine kx cls d p H' _ ls (List.prefix_refl _) f (c'.cut (sl' := []) (σ' := []) (τ' := [(xV d, xS p)]) pre rfl (fun i sd e _ => by simp at e) fun q hq => ?_).sta
    rw [List.mem_singleton.mp hq]
    exact (c'.tmp _ List.mem_cons_self).cut pre (by cases p <;> intro k hk <;> cases hk)
theorem ok_ofX {Pg : Program} {w : World} {mg : Str → Option Value} {base : Heap} {x qual : Str} {st : Stmt} {f : Addr} {fd : FuncData} {N ps : List Str} {k : Nat} (P : PrX) (F : Fun K x qual st f fd) (S : FnScope N ps (defScope st)) (hP : ∀ as cl Φ Ξ, P as cl Φ Ξ → as.length = ps.length)
    (hbody : ∀ (cdv : Value) (A : Around) (outer : List Env) (s : Shared) (H : Hp) (E : XK), Room k (A.deeper (PyProof.Rows.envOfC qual (defScope st) s.heap.objs.size f cdv)) →
      ∃ tw : WX → TS, (∀ W, Takes (cxOf (L2.CX Pg w) Pg w K mg base N qual (defScope st) f cdv A outer s H E) W → PSs (cxOf (L2.CX Pg w) Pg w K mg base N qual (defScope st) f cdv A outer s H E) (defBody st) (tw W)) ∧
        ∀ as cl Φ Ξ, P as cl Φ Ξ → WpSX K tw (as ++ List.replicate (N.length - ps.length) .unk) cl (endsF cl.length Φ) fun cls p _ cl' => Ξ cls p (cl'.take cl.length)) : FnOk Pg w K mg base (L2.CX Pg w) (k + 1) f fd ps (spX K P) := by
  refine F.okX S (fun vs H Q E h => ?_) (fun cdv A outer s H vs Q E hr h => ?_)
  · obtain ⟨A, B, ls, as, cl, Φ, Ξ, hp, ⟨G, c⟩, _⟩ := h
    have := c.slen
    rw [List.length_map] at this
    rw [← this]
    exact hP _ _ _ _ hp
  · obtain ⟨tw, h1, h2⟩ := hbody cdv A outer s H E hr
    exact ⟨tw (fun cls d _ H => E cls d H), h1 _ (takes_of rfl rfl rfl rfl), body_okX hP h h2⟩
end
/-! promises of defs that may raise: F i says what is raised -/
section
variable {K : PySem.W.Frag} {sl : List SD} {cl : List Cell} {Φ : SD → List Cell → Prop} {Ξ : XS} {rs : List SD} {ι : Type} {D : ι → List PyData} {C : ι → Prop} {F : ι → Option Value} {E : SE}
def prV (D : ι → List PyData) (C : ι → Prop) (R : ι → PyData → Prop) (F : ι → Option Value) : PrX := fun as cl Φ Ξ => ∃ i, as = (D i).map .dat ∧ cl = [] ∧ C i ∧ (F i = none → ∀ d, R i d → Φ (.dat d) []) ∧ ∀ c, F i = some c → Ξ c none []
def prVO (D : ι → List PyData) (C : ι → Prop) (R : ι → List PyData → Prop) (F : ι → Option Value) : PrX := fun as cl Φ Ξ => ∃ i, as = (D i).map .dat ∧ cl = [] ∧ C i ∧ (F i = none → ∀ es, R i es → Φ (.own 0) [.lst es]) ∧ ∀ c, F i = some c → Ξ c none []
theorem call_V {R : ι → PyData → Prop} (i : ι) (e : dats rs = some (D i)) (h : C i) (q : F i = none → ∀ d, R i d → Φ (.dat d) cl) (qx : ∀ c, F i = some c → Ξ c none sl cl) : CallOkX (prV D C R F) rs sl cl [] Φ Ξ :=
  ⟨List.nodup_nil, fun k hk => absurd hk (by simp), _, remaps_dats e, i, rfl, rfl, h, fun hf d hd => ⟨Nat.zero_le _, by
    show Φ (.dat d) (cl ++ [])
    rw [List.append_nil]
    exact q hf d hd⟩, fun c hc => ⟨Nat.zero_le _, by
    show Ξ c none sl (cl ++ [])
    rw [List.append_nil]
    exact qx c hc⟩⟩
theorem call_VO {R : ι → List PyData → Prop} (i : ι) (e : dats rs = some (D i)) (h : C i) (q : F i = none → ∀ es, R i es → Φ (.own cl.length) (cl ++ [.lst es])) (qx : ∀ c, F i = some c → Ξ c none sl cl) : CallOkX (prVO D C R F) rs sl cl [] Φ Ξ :=
  ⟨List.nodup_nil, fun k hk => absurd hk (by simp), _, remaps_dats e, i, rfl, rfl, h, fun hf es hd => ⟨Nat.zero_le _, q hf es hd⟩, fun c hc => ⟨Nat.zero_le _, by
    show Ξ c none sl (cl ++ [])
    rw [List.append_nil]
    exact qx c hc⟩⟩
theorem hlenV {n : Nat} {R : ι → PyData → Prop} (h : ∀ i, (D i).length = n) : ∀ as cl Φ Ξ, prV D C R F as cl Φ Ξ → as.length = n := fun as cl Φ Ξ ⟨i, e, _⟩ => by rw [e, List.length_map]; exact h i
theorem hlenVO {n : Nat} {R : ι → List PyData → Prop} (h : ∀ i, (D i).length = n) : ∀ as cl Φ Ξ, prVO D C R F as cl Φ Ξ → as.length = n := fun as cl Φ Ξ ⟨i, e, _⟩ => by rw [e, List.length_map]; exact h i
/-- if c: raise X('..') -/
theorem wsx_guard {c : TT} {cls : Value} (b : Bool) (h : WpT K c sl cl fun b' cl1 => b' = b ∧ cl1 = cl) (q : b = true → Ξ cls none sl cl) (k : b = false → E.nx sl cl) : WpSX K (fun W => tIfS c (fun _ σ H => W cls none σ H) tNext) sl cl E Ξ :=
  wsx_if (h.mono fun b' cl1 ⟨e1, e2⟩ => by
    subst e1 e2
    cases b' with
    | true => rw [if_pos rfl]; exact wsx_raise (q rfl)
    | false => rw [if_neg Bool.false_ne_true]; exact wsx_of (ws_next (k rfl)))
/-- xs.extend(e) -/
theorem wp_ext {ta te : TE} (h : Wp K ta sl cl fun ro cl1 => ∃ k, ro = .own k ∧ (∃ ds, cl1[k]? = some (.lst ds)) ∧ Wp K te sl cl1 fun r cl2 => ∃ es ds, seeT cl2 r = some es ∧ cl2[k]? = some (.lst ds) ∧ ds.length + es.length ≤ 100000 ∧ Φ (.dat .none) (cl2.set k (.lst (ds ++ es)))) :
    Wp K (tBM K "list" rExtend ta (tCons te tNil)) sl cl Φ := by
  intro A B ls τ σ H s Q k
  refine h A B ls τ σ H s _ fun vo H1 ro cl1 ls1 p1 f1 s1 => ?_
  obtain ⟨k0, rfl, ⟨ds0, hd0⟩, f1⟩ := f1
  obtain ⟨G1, c1⟩ := s1
  obtain ⟨l, rfl, e1⟩ := c1.tmp _ List.mem_cons_self
  obtain ⟨_, vs0, e2, _⟩ := c1.cells k0 l _ e1 hd0
  refine ⟨.inl ⟨rfl, vs0, SqL.of e2⟩, ?_⟩
  refine f1 A B ls1 _ σ H1 c1.sta _ fun v H2 r cl2 ls2 p2 f2 s2 => ?_
  obtain ⟨es, ds, hes, hd, hz, q⟩ := f2
  obtain ⟨G2, c2⟩ := s2
  have e3 : ls2[k0]? = some l := by
    obtain ⟨t, rfl⟩ := p2
    rw [List.getElem?_append_left (List.getElem?_eq_some_iff.mp e1).1]
    exact e1
  obtain ⟨g, vs, e4, rv⟩ := c2.cells k0 l _ e3 hd
  obtain ⟨b, ws, rfl, f4, rw4⟩ := c2.seeT List.mem_cons_self hes
  refine ⟨l, b, vs, ws, rfl, rfl, e4, f4, sz_of (by rw [rv.length, rw4.length]; exact hz), ?_⟩
  have c3 := c2.mut e3 hd trivial (.lst (vs ++ ws)) (.lst (ds ++ es)) ⟨g, _, upd_same, rv.append rw4⟩
  exact k _ _ _ _ ls2 (p1.trans p2) q ((c3.push (v := .non) (r := .dat .none) .non).sta.sub fun p hp => by
    rcases List.mem_cons.mp hp with z | z
    · rw [z]; exact List.mem_cons_self
    · exact List.mem_cons_of_mem _ (List.mem_cons_of_mem _ (List.mem_cons_of_mem _ z)))
/-- an empty dict that nobody changes -/
theorem wp_dnewD (q : Φ (.dat (.dict [])) cl) : Wp K tDNewK sl cl Φ := by
  intro A B ls τ σ H ⟨G, c⟩ Q k p hp
  have c' := c.alloc hp (.dK [])
  exact k _ _ _ cl ls (List.prefix_refl _) q (c'.push (r := .dat (.dict [])) (.dnil upd_same)).sta
/-- in, not in, at any depth -/
theorem wo_inDp {r1 r2 : SD} {d : PyData} {ds : List PyData} (h1 : seeD cl r1 = some d) (h2 : seeD cl r2 = some (.list ds)) (s1 : SeqAt.shaped d = true) (s2 : SeqAt.shaped (.list ds) = true) (q : Φ (.dat (.bool (ds.any fun z => PyData.eqv z d))) cl) : Wo K (rInD K) r1 r2 sl cl Φ := by
  intro A B ls τ σ H x y ⟨G, c⟩ hx hy Q k
  exact ⟨d, ds, c.seeD hx h1 s1, c.seeD hy h2 s2, s1, s2, k _ H _ cl ls (List.prefix_refl _) q (c.push (r := .dat (.bool _)) (.bl _)).sta⟩
theorem wo_notInDp {r1 r2 : SD} {d : PyData} {ds : List PyData} (h1 : seeD cl r1 = some d) (h2 : seeD cl r2 = some (.list ds)) (s1 : SeqAt.shaped d = true) (s2 : SeqAt.shaped (.list ds) = true) (q : Φ (.dat (.bool (!ds.any fun z => PyData.eqv z d))) cl) : Wo K (rNotInD K) r1 r2 sl cl Φ := by
  intro A B ls τ σ H x y ⟨G, c⟩ hx hy Q k
  exact ⟨d, ds, c.seeD hx h1 s1, c.seeD hy h2 s2, s1, s2, k _ H _ cl ls (List.prefix_refl _) q (c.push (r := .dat (.bool _)) (.bl _)).sta⟩
/-- an item of a tuple some items of which are owned -/
def itmS : TI1 → SD
  | .d x => .dat x
  | .o k => .own k
theorem paired_atI {ls : List Addr} {G : Hp} {vs : List V} {is : List TI1} (h : Paired (ItmOk K G ls) vs is) {i : Int} {t : TI1} (e : atI is i = some t) : ∃ v, atI vs i = some v ∧ ValOk K G ls v (itmS t) := by
  unfold L2.atI at e ⊢
  rw [paired_len h]
  cases q : ixN is.length i with
  | none => rw [q] at e; cases e
  | some j =>
    rw [q] at e
    have go : ∀ {vs : List V} {is : List TI1}, Paired (ItmOk K G ls) vs is → ∀ {j : Nat} {t : TI1}, is[j]? = some t → ∃ v, vs[j]? = some v ∧ ItmOk K G ls v t := fun {vs is} h => by
      induction h with
      | nil => intro j t e; simp at e
      | cons h0 _ ih =>
        intro j t e
        cases j with
        | zero => exact ⟨_, rfl, by rw [← Option.some.inj e]; exact h0⟩
        | succ j => exact ih (j := j) e
    obtain ⟨v, e1, e2⟩ := go h e
    exact ⟨v, e1, by cases t <;> exact e2⟩
theorem wo_ixTO {r1 r2 : SD} {is : List TI1} {i : Int} {t : TI1} (h1 : r1 = .tup is) (h2 : r2 = .dat (.int i)) (h : atI is i = some t) (q : Φ (itmS t) cl) : Wo K (rIx K) r1 r2 sl cl Φ := by
  intro A B ls τ σ H x y ⟨G, c⟩ hx hy Q k
  subst h1 h2
  cases c.dat hy
  obtain ⟨a, vs, rfl, e2, e3⟩ := c.tmp _ hx
  obtain ⟨v, e4, e5⟩ := paired_atI e3 h
  exact .inr (.inl ⟨_, _, i, v, rfl, rfl, ex_t c.exG e2, e4, k _ H _ cl ls (List.prefix_refl _) q (c.push e5).sta⟩)
theorem wt_mid {t : TT} {Φb : Bool → List Cell → Prop} (P : Bool → List Cell → Prop) (h : WpT K t sl cl P) (k : ∀ b cl', P b cl' → Φb b cl') : WpT K t sl cl Φb := h.mono k
end
theorem cr_maxQ {X : Cx} {K : PySem.W.Frag} (h : X.K = K) (hc : X.calm = true) : CallR X (.builtin "max") (rMax K) := h ▸ cr_max hc
theorem cr_minQ {X : Cx} {K : PySem.W.Frag} (h : X.K = K) (hc : X.calm = true) : CallR X (.builtin "min") (rMin K) := h ▸ cr_min hc
end Sy
end

section
-- conditions of operations on ints
local macro_rules | `(tactic| walk_at "syc") => `(tactic| first
  | exact Sy.cpow (by decide) (by decide)
  | exact Sy.mul_l (by omega) (by omega)
  | exact Sy.mul_r (by omega) (by omega)
  | exact Sy.fdiv_ok (by omega) (by omega)
  | ((show (0 : Int) < _); first | omega | (simp only [Sy.pow12, Sy.pow18, Sy.pow29, Sy.pow38, Sy.pow39, Sy.pow40]; omega)))
-- one step of the symbolic run
local macro_rules | `(tactic| walk_at "sy1") => `(tactic| first
  | with_reducible refine' Sy.ws_seq ?_
  | (with_reducible refine' Sy.ws_setI ?_)
  | (with_reducible refine' Sy.ws_asg ?_)
  | with_reducible refine' Sy.ws_ret (Sy.wp_lstO ?_)
  | with_reducible refine' Sy.ws_ret ?_
  | with_reducible refine' Sy.ws_if ?_
  | with_reducible refine' Sy.ws_drop ?_
  | with_reducible refine' Sy.ws_next ?_
  | with_reducible refine' Sy.ws_par ?_
  | with_reducible refine' Sy.wp_app ?_
  | with_reducible refine' Sy.ws_setI ?_
  | with_reducible refine' Sy.ws_dput ?_
  | with_reducible refine' Sy.wp_dget1 ?_
  | with_reducible refine' Sy.wp_dnotin ?_
  | ((with_reducible refine' Sy.wp_var ?h1 ?h2 ?_); (case h1 => rfl); (case h2 => (intro z; cases z)))
  | ((with_reducible refine' Sy.wp_c ?h1 ?_); (case h1 => rfl))
  | with_reducible refine' Sy.isi_int ?_
  | with_reducible refine' Sy.isi_bool ?_
  | with_reducible refine' Sy.isi_str ?_
  | with_reducible refine' Sy.isi_list ?_
  | with_reducible refine' Sy.isi_tuple ?_
  | with_reducible refine' Sy.isi_seq ?_
  | with_reducible refine' Sy.wp_op ?_
  | with_reducible refine' Sy.wp_neg ?_
  | with_reducible refine' Sy.wp_test ?_
  | with_reducible refine' Sy.wp_testB ?_
  | with_reducible refine' Sy.wp_and ?_
  | with_reducible refine' Sy.wp_or ?_
  | with_reducible refine' Sy.wp_not ?_
  | with_reducible refine' Sy.wp_if ?_
  | with_reducible refine' Sy.wp_andV ?_
  | with_reducible refine' Sy.wp_orV ?_
  | with_reducible refine' Sy.wp_notV ?_
  | with_reducible refine' Sy.wp_chain ?_
  | with_reducible refine' Sy.wp_cb ?_
  | with_reducible refine' Sy.wp_callE ?_
  | with_reducible refine' Sy.wp_callX0 ?_
  | (with_reducible refine' Sy.wp_ext ?_)
  | with_reducible refine' Sy.wp_tup ?_
  | with_reducible refine' Sy.wp_lst ?_
  | with_reducible refine' Sy.wp_sl ?_
  | with_reducible refine' Sy.wp_rev ?_
  | with_reducible refine' Sy.wp_join ?_
  | with_reducible refine' Sy.wo_none ?_
  | with_reducible refine' Sy.wo_some ?_
  | with_reducible refine' Sy.wa_nil ?_
  | with_reducible refine' Sy.wa_cons ?_
  | with_reducible refine' Sy.wp_yes ?_
  | with_reducible refine' Sy.wg_name ?_
  | with_reducible refine' Sy.wgs_nil ?_
  | with_reducible refine' Sy.wgs_cons ?_
  | (refine' Sy.wg_tup rfl rfl ?_)
  | (refine' Sy.wo_inl (Sy.wo_I0 rfl rfl rfl ?_))
  | (refine' Sy.wo_I0 rfl rfl rfl ?_)
  | (refine' Sy.wo_sign rfl rfl ?_)
  | (refine' Sy.wo_inl (Sy.wo_I rfl rfl ?h1 rfl ?_); (case h1 => walk_at "syc"))
  | (refine' Sy.wo_I rfl rfl ?h1 rfl ?_; (case h1 => walk_at "syc"))
  | (refine' Sy.wo_isN ?h1 rfl ?_; (case h1 => (intro z; cases z)))
  | (refine' Sy.wo_notN ?h1 rfl ?_; (case h1 => (intro z; cases z)))
  | (refine' Sy.wo_eq rfl rfl rfl ?_)
  | (refine' Sy.wo_inl (Sy.wo_eq rfl rfl rfl ?_))
  | (refine' Sy.wo_ne rfl rfl rfl ?_)
  | (refine' Sy.wo_inl (Sy.wo_ne rfl rfl rfl ?_))
  | (refine' Sy.wo_ixL rfl rfl ?h1 ?_; (case h1 => first | rfl | assumption))
  | (refine' Sy.wo_ixT rfl rfl ?h1 ?_; (case h1 => first | rfl | assumption))
  | (refine' Sy.wc_int1 rfl ?_)
  | (refine' Sy.wc_abs rfl ?_)
  | (refine' Sy.wc_max2 rfl rfl ?_)
  | (refine' Sy.wc_min2 rfl rfl ?_)
  | (refine' Sy.wc_len rfl ?_)
  | (refine' Sy.wc_lenS rfl ?h1 ?_; (case h1 => omega))
  | (refine' Sy.wc_list rfl ?_)
  | (refine' Sy.wc_listT rfl ?_)
  | (refine' Sy.wc_tuple rfl ?_)
  | ((with_reducible refine' And.intro ?h1 ?_); (case h1 => first | (with_reducible rfl) | omega | decide | (simp only [List.length_cons, List.length_nil]; omega)))
  | ((with_reducible show @ite Prop (true = true) _ _ _); refine' Sy.iteT0 ?_)
  | ((with_reducible show @ite Prop (false = true) _ _ _); refine' Sy.iteF0 ?_)
  | ((with_reducible show @ite Prop ((!true) = true) _ _ _); refine' Sy.iteNT ?_)
  | ((with_reducible show @ite Prop (@decide _ _ = true) _ _ _); (refine' Sy.iteDT ?h1 ?_); (case h1 => first | omega | rfl | (intro z; cases z)))
  | ((with_reducible show @ite Prop (@decide _ _ = true) _ _ _); (refine' Sy.iteDF ?h1 ?_); (case h1 => first | omega | rfl | (intro z; cases z)))
  | ((with_reducible show @ite Prop ((!@decide _ _) = true) _ _ _); (refine' Sy.iteND ?h1 ?_); (case h1 => first | omega | rfl | (intro z; cases z)))
  | ((with_reducible show @ite Prop ((!@decide _ _) = true) _ _ _); (refine' Sy.iteNDF ?h1 ?_); (case h1 => first | omega | rfl | (intro z; cases z)))
  | ((with_reducible show @ite Prop ((!false) = true) _ _ _); refine' Sy.iteNF ?_)
  | (with_reducible refine' Sy.ws_try ?_)
  | (with_reducible refine' Sy.wsx_drop (Sy.wx_call (Sy.wax_of ?_)))
  | (with_reducible refine' Sy.wsx_asg (Sy.wx_call (Sy.wax_of ?_)))
  | (with_reducible refine' Sy.wsx_ret (Sy.wx_call (Sy.wax_of ?_)))
  | (with_reducible refine' Sy.wsx_of ?_)
  | (refine ⟨_, rfl, ⟨_, rfl⟩, ?_⟩)
  | (refine ⟨_, rfl, ?_⟩)
  | (refine ⟨_, _, rfl, rfl, ?_⟩)
  | (refine ⟨_, _, rfl, ?_⟩)
  | ((refine' Sy.iteNo ?h1 ?_); (case h1 => (intro z; cases z)))
  | ((refine' Sy.iteYes ?h1 ?_); (case h1 => rfl)))
-- many steps
local macro_rules | `(tactic| walk_at "syd") => `(tactic| try dsimp only [List.set, List.length_cons, List.length_nil, Nat.reduceAdd, Sy.isNon, List.cons_append, List.nil_append, List.map, Bool.not_true, Bool.not_false, Sy.Ty.isInt, Sy.Ty.isBool, Sy.Ty.isStr, Sy.Ty.isList, Sy.Ty.isTuple, Sy.Ty.isSeq])
local macro_rules | `(tactic| walk_at "sy") => `(tactic| repeat ((walk_at "sy1"); (walk_at "syd")))
-- the start of a body
local macro_rules | `(tactic| walk_at "sy0") => `(tactic| dsimp only [L2.cxOf, List.length_cons, List.length_nil, Nat.reduceAdd, Nat.reduceSub, List.replicate, List.cons_append, List.nil_append])
-- a turn's end: the slots and the cells are said by the invariant
local macro_rules | `(tactic| walk_at "wkl") => `(tactic| repeat' first | exact trivial | refine ⟨.inl rfl, ?_⟩ | refine ⟨.inr rfl, ?_⟩)
local macro_rules | `(tactic| walk_at "lowl") => `(tactic| repeat' first | exact trivial | refine ⟨by omega, ?_⟩)
local macro_rules | `(tactic| walk_at "turn") => `(tactic| refine Sy.turn_q ⟨rfl, rfl⟩ (by walk_at "wkl") (by walk_at "lowl"))

namespace Kp
open PySem PySem.Spec L2 Sy
def topS (i : Nat) : Stmt := PySem.Challenge.pw_markthenpurge_k86_whole_forms_tell_alike.main.body.getD i (.Pass ⟨0, 0, 0, 0⟩)
abbrev s_is_integer : Stmt := topS 6
abbrev N_is_integer : List Str := ["value"]
theorem sc_is_integer : FnScope N_is_integer ["value"] (defScope s_is_integer) := ⟨rfl, rfl, rfl, by decide +kernel, rfl, by decide +kernel, by decide +kernel⟩
abbrev s_is_integer_from : Stmt := topS 7
abbrev N_is_integer_from : List Str := ["value", "low"]
theorem sc_is_integer_from : FnScope N_is_integer_from ["value", "low"] (defScope s_is_integer_from) := ⟨rfl, rfl, rfl, by decide +kernel, rfl, by decide +kernel, by decide +kernel⟩
abbrev s_is_tuple_of : Stmt := topS 8
abbrev N_is_tuple_of : List Str := ["value", "size"]
theorem sc_is_tuple_of : FnScope N_is_tuple_of ["value", "size"] (defScope s_is_tuple_of) := ⟨rfl, rfl, rfl, by decide +kernel, rfl, by decide +kernel, by decide +kernel⟩
abbrev s_is_key : Stmt := topS 9
abbrev N_is_key : List Str := ["value", "letter"]
theorem sc_is_key : FnScope N_is_key ["value"] (defScope s_is_key) := ⟨rfl, rfl, rfl, by decide +kernel, rfl, by decide +kernel, by decide +kernel⟩
abbrev s_is_record : Stmt := topS 10
abbrev N_is_record : List Str := ["value"]
theorem sc_is_record : FnScope N_is_record ["value"] (defScope s_is_record) := ⟨rfl, rfl, rfl, by decide +kernel, rfl, by decide +kernel, by decide +kernel⟩
abbrev s_next_list : Stmt := topS 12
abbrev N_next_list : List Str := ["log", "seen", "nexts", "i", "key"]
theorem sc_next_list : FnScope N_next_list ["log"] (defScope s_next_list) := ⟨rfl, rfl, rfl, by decide +kernel, rfl, by decide +kernel, by decide +kernel⟩
abbrev s_check_log : Stmt := topS 13
abbrev N_check_log : List Str := ["log", "part"]
theorem sc_check_log : FnScope N_check_log ["log"] (defScope s_check_log) := ⟨rfl, rfl, rfl, by decide +kernel, rfl, by decide +kernel, by decide +kernel⟩
abbrev s_befores_of : Stmt := topS 15
abbrev N_befores_of : List Str := ["nexts", "found", "i", "later"]
theorem sc_befores_of : FnScope N_befores_of ["nexts"] (defScope s_befores_of) := ⟨rfl, rfl, rfl, by decide +kernel, rfl, by decide +kernel, by decide +kernel⟩
abbrev s_pattern_of : Stmt := topS 17
abbrev N_pattern_of : List Str := ["nexts", "found", "keys", "before"]
theorem sc_pattern_of : FnScope N_pattern_of ["nexts"] (defScope s_pattern_of) := ⟨rfl, rfl, rfl, by decide +kernel, rfl, by decide +kernel, by decide +kernel⟩
abbrev s_by_next : Stmt := topS 18
abbrev N_by_next : List Str := ["log", "i"]
theorem sc_by_next : FnScope N_by_next ["log"] (defScope s_by_next) := ⟨rfl, rfl, rfl, by decide +kernel, rfl, by decide +kernel, by decide +kernel⟩
abbrev s_are_alike : Stmt := topS 19
abbrev N_are_alike : List Str := ["log", "other"]
theorem sc_are_alike : FnScope N_are_alike ["log", "other"] (defScope s_are_alike) := ⟨rfl, rfl, rfl, by decide +kernel, rfl, by decide +kernel, by decide +kernel⟩
abbrev s_pattern_with : Stmt := topS 20
abbrev N_pattern_with : List Str := ["order", "right_ends", "many", "nexts", "i", "end"]
theorem sc_pattern_with : FnScope N_pattern_with ["order", "right_ends", "many"] (defScope s_pattern_with) := ⟨rfl, rfl, rfl, by decide +kernel, rfl, by decide +kernel, by decide +kernel⟩
abbrev s_near : Stmt := topS 21
abbrev N_near : List Str := ["log", "order", "found", "end", "i"]
theorem sc_near : FnScope N_near ["log"] (defScope s_near) := ⟨rfl, rfl, rfl, by decide +kernel, rfl, by decide +kernel, by decide +kernel⟩
abbrev s_fore : Stmt := topS 22
abbrev N_fore : List Str := ["log", "order", "first"]
theorem sc_fore : FnScope N_fore ["log"] (defScope s_fore) := ⟨rfl, rfl, rfl, by decide +kernel, rfl, by decide +kernel, by decide +kernel⟩
abbrev s_sums_from : Stmt := topS 23
abbrev N_sums_from : List Str := ["row", "found", "value"]
theorem sc_sums_from : FnScope N_sums_from ["row"] (defScope s_sums_from) := ⟨rfl, rfl, rfl, by decide +kernel, rfl, by decide +kernel, by decide +kernel⟩
abbrev s_ways_by_end : Stmt := topS 24
abbrev N_ways_by_end : List Str := ["order", "many", "found", "behind", "i", "ways", "end"]
theorem sc_ways_by_end : FnScope N_ways_by_end ["order", "many"] (defScope s_ways_by_end) := ⟨rfl, rfl, rfl, by decide +kernel, rfl, by decide +kernel, by decide +kernel⟩
abbrev s_alike_count : Stmt := topS 25
abbrev N_alike_count : List Str := ["log", "ways"]
theorem sc_alike_count : FnScope N_alike_count ["log"] (defScope s_alike_count) := ⟨rfl, rfl, rfl, by decide +kernel, rfl, by decide +kernel, by decide +kernel⟩
abbrev s_power : Stmt := topS 26
abbrev N_power : List Str := ["base", "exponent", "found", "_"]
theorem sc_power : FnScope N_power ["base", "exponent"] (defScope s_power) := ⟨rfl, rfl, rfl, by decide +kernel, rfl, by decide +kernel, by decide +kernel⟩
abbrev s_unlike_count : Stmt := topS 27
abbrev N_unlike_count : List Str := ["records", "keys"]
theorem sc_unlike_count : FnScope N_unlike_count ["records"] (defScope s_unlike_count) := ⟨rfl, rfl, rfl, by decide +kernel, rfl, by decide +kernel, by decide +kernel⟩
abbrev s__law_crate : Stmt := topS 29
abbrev N__law_crate : List Str := ["script", "at", "cell"]
theorem sc__law_crate : FnScope N__law_crate ["script", "at"] (defScope s__law_crate) := ⟨rfl, rfl, rfl, by decide +kernel, rfl, by decide +kernel, by decide +kernel⟩
abbrev s__law_grab : Stmt := topS 30
abbrev N__law_grab : List Str := ["crate", "span", "digit", "chaff"]
theorem sc__law_grab : FnScope N__law_grab ["crate", "span"] (defScope s__law_grab) := ⟨rfl, rfl, rfl, by decide +kernel, rfl, by decide +kernel, by decide +kernel⟩
abbrev s__law_matched : Stmt := topS 31
abbrev N__law_matched : List Str := ["found", "due", "k"]
theorem sc__law_matched : FnScope N__law_matched ["found", "due"] (defScope s__law_matched) := ⟨rfl, rfl, rfl, by decide +kernel, rfl, by decide +kernel, by decide +kernel⟩
abbrev s__law_names : Stmt := topS 32
abbrev N__law_names : List Str := ["crate", "many", "signs", "found", "k", "size", "sign", "name", "spare", "turn", "word"]
theorem sc__law_names : FnScope N__law_names ["crate", "many"] (defScope s__law_names) := ⟨rfl, rfl, rfl, by decide +kernel, rfl, by decide +kernel, by decide +kernel⟩
abbrev s__law_any_value : Stmt := topS 33
abbrev N__law_any_value : List Str := ["crate", "some"]
theorem sc__law_any_value : FnScope N__law_any_value ["crate"] (defScope s__law_any_value) := ⟨rfl, rfl, rfl, by decide +kernel, rfl, by decide +kernel, by decide +kernel⟩
abbrev s__law_next : Stmt := topS 34
abbrev N__law_next : List Str := ["rows_here", "spot", "k"]
theorem sc__law_next : FnScope N__law_next ["rows_here", "spot"] (defScope s__law_next) := ⟨rfl, rfl, rfl, by decide +kernel, rfl, by decide +kernel, by decide +kernel⟩
abbrev s__law_nexts : Stmt := topS 35
abbrev N__law_nexts : List Str := ["rows_here", "k"]
theorem sc__law_nexts : FnScope N__law_nexts ["rows_here"] (defScope s__law_nexts) := ⟨rfl, rfl, rfl, by decide +kernel, rfl, by decide +kernel, by decide +kernel⟩
abbrev s__law_pattern : Stmt := topS 36
abbrev N__law_pattern : List Str := ["rows_here", "known", "found", "row"]
theorem sc__law_pattern : FnScope N__law_pattern ["rows_here"] (defScope s__law_pattern) := ⟨rfl, rfl, rfl, by decide +kernel, rfl, by decide +kernel, by decide +kernel⟩
abbrev s__law_lefts : Stmt := topS 37
abbrev N__law_lefts : List Str := ["nexts_here", "pairs_here", "k", "right"]
theorem sc__law_lefts : FnScope N__law_lefts ["nexts_here"] (defScope s__law_lefts) := ⟨rfl, rfl, rfl, by decide +kernel, rfl, by decide +kernel, by decide +kernel⟩
abbrev s__law_key : Stmt := topS 38
abbrev N__law_key : List Str := ["number_here", "signs"]
theorem sc__law_key : FnScope N__law_key ["number_here"] (defScope s__law_key) := ⟨rfl, rfl, rfl, by decide +kernel, rfl, by decide +kernel, by decide +kernel⟩
abbrev s__law_keyed : Stmt := topS 39
abbrev N__law_keyed : List Str := ["crate", "shape_here", "count", "turn", "names", "number_here"]
theorem sc__law_keyed : FnScope N__law_keyed ["crate", "shape_here"] (defScope s__law_keyed) := ⟨rfl, rfl, rfl, by decide +kernel, rfl, by decide +kernel, by decide +kernel⟩
abbrev s__law_wide_shape : Stmt := topS 40
abbrev N__law_wide_shape : List Str := ["crate", "most_here", "size", "keys_here", "k"]
theorem sc__law_wide_shape : FnScope N__law_wide_shape ["crate", "most_here"] (defScope s__law_wide_shape) := ⟨rfl, rfl, rfl, by decide +kernel, rfl, by decide +kernel, by decide +kernel⟩
abbrev s__law_some_shape : Stmt := topS 41
abbrev N__law_some_shape : List Str := ["crate", "short_here", "most_here", "keys_here", "k"]
theorem sc__law_some_shape : FnScope N__law_some_shape ["crate", "short_here", "most_here"] (defScope s__law_some_shape) := ⟨rfl, rfl, rfl, by decide +kernel, rfl, by decide +kernel, by decide +kernel⟩
abbrev s__law_shape_nexts : Stmt := topS 42
abbrev N__law_shape_nexts : List Str := ["shape_here", "number_here"]
theorem sc__law_shape_nexts : FnScope N__law_shape_nexts ["shape_here"] (defScope s__law_shape_nexts) := ⟨rfl, rfl, rfl, by decide +kernel, rfl, by decide +kernel, by decide +kernel⟩
abbrev s__law_other_ends : Stmt := topS 43
abbrev N__law_other_ends : List Str := ["crate", "size", "lefts_here", "found", "low", "k"]
theorem sc__law_other_ends : FnScope N__law_other_ends ["crate", "size", "lefts_here"] (defScope s__law_other_ends) := ⟨rfl, rfl, rfl, by decide +kernel, rfl, by decide +kernel, by decide +kernel⟩
abbrev s__law_shape : Stmt := topS 44
abbrev N__law_shape : List Str := ["size", "lefts_here", "rights_here", "found", "many", "k"]
theorem sc__law_shape : FnScope N__law_shape ["size", "lefts_here", "rights_here"] (defScope s__law_shape) := ⟨rfl, rfl, rfl, by decide +kernel, rfl, by decide +kernel, by decide +kernel⟩
abbrev s__law_alike_shape : Stmt := topS 45
abbrev N__law_alike_shape : List Str := ["crate", "shape_here", "lefts_here", "size"]
theorem sc__law_alike_shape : FnScope N__law_alike_shape ["crate", "shape_here"] (defScope s__law_alike_shape) := ⟨rfl, rfl, rfl, by decide +kernel, rfl, by decide +kernel, by decide +kernel⟩
abbrev s__law_all_shapes : Stmt := topS 46
abbrev N__law_all_shapes : List Str := ["size", "found", "k", "grown", "one", "number_here"]
theorem sc__law_all_shapes : FnScope N__law_all_shapes ["size"] (defScope s__law_all_shapes) := ⟨rfl, rfl, rfl, by decide +kernel, rfl, by decide +kernel, by decide +kernel⟩
abbrev s__law_turned_shape : Stmt := topS 47
abbrev N__law_turned_shape : List Str := ["crate", "shape_here", "way", "size", "some", "spot", "other_here", "k", "number_here"]
theorem sc__law_turned_shape : FnScope N__law_turned_shape ["crate", "shape_here"] (defScope s__law_turned_shape) := ⟨rfl, rfl, rfl, by decide +kernel, rfl, by decide +kernel, by decide +kernel⟩
abbrev s__law_log_of : Stmt := topS 48
abbrev N__law_log_of : List Str := ["crate", "shape_here"]
theorem sc__law_log_of : FnScope N__law_log_of ["crate", "shape_here"] (defScope s__law_log_of) := ⟨rfl, rfl, rfl, by decide +kernel, rfl, by decide +kernel, by decide +kernel⟩
abbrev s__law_forms_right : Stmt := topS 49
abbrev N__law_forms_right : List Str := ["crate", "shape_here", "rows_here", "last", "first", "keys_here", "pair", "k"]
theorem sc__law_forms_right : FnScope N__law_forms_right ["crate", "shape_here"] (defScope s__law_forms_right) := ⟨rfl, rfl, rfl, by decide +kernel, rfl, by decide +kernel, by decide +kernel⟩
abbrev s__law_powers : Stmt := topS 50
abbrev N__law_powers : List Str := ["size", "keys_here", "found", "turn"]
theorem sc__law_powers : FnScope N__law_powers ["size", "keys_here"] (defScope s__law_powers) := ⟨rfl, rfl, rfl, by decide +kernel, rfl, by decide +kernel, by decide +kernel⟩
abbrev s__law_small_right : Stmt := topS 51
abbrev N__law_small_right : List Str := ["crate", "size", "shapes", "forms", "one", "last", "keys_here"]
theorem sc__law_small_right : FnScope N__law_small_right ["crate", "size"] (defScope s__law_small_right) := ⟨rfl, rfl, rfl, by decide +kernel, rfl, by decide +kernel, by decide +kernel⟩
abbrev s__law_pair_right : Stmt := topS 52
abbrev N__law_pair_right : List Str := ["crate", "one", "two", "logs_here", "due"]
theorem sc__law_pair_right : FnScope N__law_pair_right ["crate", "one", "two"] (defScope s__law_pair_right) := ⟨rfl, rfl, rfl, by decide +kernel, rfl, by decide +kernel, by decide +kernel⟩

structure Txt (K : PySem.W.Frag) (mg : Str → Option Value) where
  f_is_integer : Addr
  d_is_integer : FuncData
  F_is_integer : Fun K "is_integer" "is_integer" s_is_integer f_is_integer d_is_integer
  B_is_integer : Binds K d_is_integer ["value"] []
  g_is_integer : mg "is_integer" = some (.ref f_is_integer)
  f_is_integer_from : Addr
  d_is_integer_from : FuncData
  F_is_integer_from : Fun K "is_integer_from" "is_integer_from" s_is_integer_from f_is_integer_from d_is_integer_from
  B_is_integer_from : Binds K d_is_integer_from ["value", "low"] []
  g_is_integer_from : mg "is_integer_from" = some (.ref f_is_integer_from)
  f_is_tuple_of : Addr
  d_is_tuple_of : FuncData
  F_is_tuple_of : Fun K "is_tuple_of" "is_tuple_of" s_is_tuple_of f_is_tuple_of d_is_tuple_of
  B_is_tuple_of : Binds K d_is_tuple_of ["value", "size"] []
  g_is_tuple_of : mg "is_tuple_of" = some (.ref f_is_tuple_of)
  f_is_key : Addr
  d_is_key : FuncData
  F_is_key : Fun K "is_key" "is_key" s_is_key f_is_key d_is_key
  B_is_key : Binds K d_is_key ["value"] []
  g_is_key : mg "is_key" = some (.ref f_is_key)
  f_is_record : Addr
  d_is_record : FuncData
  F_is_record : Fun K "is_record" "is_record" s_is_record f_is_record d_is_record
  B_is_record : Binds K d_is_record ["value"] []
  g_is_record : mg "is_record" = some (.ref f_is_record)
  f_next_list : Addr
  d_next_list : FuncData
  F_next_list : Fun K "next_list" "next_list" s_next_list f_next_list d_next_list
  B_next_list : Binds K d_next_list ["log"] []
  g_next_list : mg "next_list" = some (.ref f_next_list)
  f_check_log : Addr
  d_check_log : FuncData
  F_check_log : Fun K "check_log" "check_log" s_check_log f_check_log d_check_log
  B_check_log : Binds K d_check_log ["log"] []
  g_check_log : mg "check_log" = some (.ref f_check_log)
  f_befores_of : Addr
  d_befores_of : FuncData
  F_befores_of : Fun K "befores_of" "befores_of" s_befores_of f_befores_of d_befores_of
  B_befores_of : Binds K d_befores_of ["nexts"] []
  g_befores_of : mg "befores_of" = some (.ref f_befores_of)
  f_pattern_of : Addr
  d_pattern_of : FuncData
  F_pattern_of : Fun K "pattern_of" "pattern_of" s_pattern_of f_pattern_of d_pattern_of
  B_pattern_of : Binds K d_pattern_of ["nexts"] []
  g_pattern_of : mg "pattern_of" = some (.ref f_pattern_of)
  f_by_next : Addr
  d_by_next : FuncData
  F_by_next : Fun K "by_next" "by_next" s_by_next f_by_next d_by_next
  B_by_next : Binds K d_by_next ["log"] []
  g_by_next : mg "by_next" = some (.ref f_by_next)
  f_are_alike : Addr
  d_are_alike : FuncData
  F_are_alike : Fun K "are_alike" "are_alike" s_are_alike f_are_alike d_are_alike
  B_are_alike : Binds K d_are_alike ["log", "other"] []
  g_are_alike : mg "are_alike" = some (.ref f_are_alike)
  f_pattern_with : Addr
  d_pattern_with : FuncData
  F_pattern_with : Fun K "pattern_with" "pattern_with" s_pattern_with f_pattern_with d_pattern_with
  B_pattern_with : Binds K d_pattern_with ["order", "right_ends", "many"] []
  g_pattern_with : mg "pattern_with" = some (.ref f_pattern_with)
  f_near : Addr
  d_near : FuncData
  F_near : Fun K "near" "near" s_near f_near d_near
  B_near : Binds K d_near ["log"] []
  g_near : mg "near" = some (.ref f_near)
  f_fore : Addr
  d_fore : FuncData
  F_fore : Fun K "fore" "fore" s_fore f_fore d_fore
  B_fore : Binds K d_fore ["log"] []
  g_fore : mg "fore" = some (.ref f_fore)
  f_sums_from : Addr
  d_sums_from : FuncData
  F_sums_from : Fun K "sums_from" "sums_from" s_sums_from f_sums_from d_sums_from
  B_sums_from : Binds K d_sums_from ["row"] []
  g_sums_from : mg "sums_from" = some (.ref f_sums_from)
  f_ways_by_end : Addr
  d_ways_by_end : FuncData
  F_ways_by_end : Fun K "ways_by_end" "ways_by_end" s_ways_by_end f_ways_by_end d_ways_by_end
  B_ways_by_end : Binds K d_ways_by_end ["order", "many"] []
  g_ways_by_end : mg "ways_by_end" = some (.ref f_ways_by_end)
  f_alike_count : Addr
  d_alike_count : FuncData
  F_alike_count : Fun K "alike_count" "alike_count" s_alike_count f_alike_count d_alike_count
  B_alike_count : Binds K d_alike_count ["log"] []
  g_alike_count : mg "alike_count" = some (.ref f_alike_count)
  f_power : Addr
  d_power : FuncData
  F_power : Fun K "power" "power" s_power f_power d_power
  B_power : Binds K d_power ["base", "exponent"] []
  g_power : mg "power" = some (.ref f_power)
  f_unlike_count : Addr
  d_unlike_count : FuncData
  F_unlike_count : Fun K "unlike_count" "unlike_count" s_unlike_count f_unlike_count d_unlike_count
  B_unlike_count : Binds K d_unlike_count ["records"] []
  g_unlike_count : mg "unlike_count" = some (.ref f_unlike_count)
  f__law_crate : Addr
  d__law_crate : FuncData
  F__law_crate : Fun K "_law_crate" "_law_crate" s__law_crate f__law_crate d__law_crate
  B__law_crate : Binds K d__law_crate ["script", "at"] []
  g__law_crate : mg "_law_crate" = some (.ref f__law_crate)
  f__law_grab : Addr
  d__law_grab : FuncData
  F__law_grab : Fun K "_law_grab" "_law_grab" s__law_grab f__law_grab d__law_grab
  B__law_grab : Binds K d__law_grab ["crate", "span"] []
  g__law_grab : mg "_law_grab" = some (.ref f__law_grab)
  f__law_matched : Addr
  d__law_matched : FuncData
  F__law_matched : Fun K "_law_matched" "_law_matched" s__law_matched f__law_matched d__law_matched
  B__law_matched : Binds K d__law_matched ["found", "due"] []
  g__law_matched : mg "_law_matched" = some (.ref f__law_matched)
  f__law_names : Addr
  d__law_names : FuncData
  F__law_names : Fun K "_law_names" "_law_names" s__law_names f__law_names d__law_names
  B__law_names : Binds K d__law_names ["crate", "many"] []
  g__law_names : mg "_law_names" = some (.ref f__law_names)
  f__law_any_value : Addr
  d__law_any_value : FuncData
  F__law_any_value : Fun K "_law_any_value" "_law_any_value" s__law_any_value f__law_any_value d__law_any_value
  B__law_any_value : Binds K d__law_any_value ["crate"] []
  g__law_any_value : mg "_law_any_value" = some (.ref f__law_any_value)
  f__law_next : Addr
  d__law_next : FuncData
  F__law_next : Fun K "_law_next" "_law_next" s__law_next f__law_next d__law_next
  B__law_next : Binds K d__law_next ["rows_here", "spot"] []
  g__law_next : mg "_law_next" = some (.ref f__law_next)
  f__law_nexts : Addr
  d__law_nexts : FuncData
  F__law_nexts : Fun K "_law_nexts" "_law_nexts" s__law_nexts f__law_nexts d__law_nexts
  B__law_nexts : Binds K d__law_nexts ["rows_here"] []
  g__law_nexts : mg "_law_nexts" = some (.ref f__law_nexts)
  f__law_pattern : Addr
  d__law_pattern : FuncData
  F__law_pattern : Fun K "_law_pattern" "_law_pattern" s__law_pattern f__law_pattern d__law_pattern
  B__law_pattern : Binds K d__law_pattern ["rows_here"] []
  g__law_pattern : mg "_law_pattern" = some (.ref f__law_pattern)
  f__law_lefts : Addr
  d__law_lefts : FuncData
  F__law_lefts : Fun K "_law_lefts" "_law_lefts" s__law_lefts f__law_lefts d__law_lefts
  B__law_lefts : Binds K d__law_lefts ["nexts_here"] []
  g__law_lefts : mg "_law_lefts" = some (.ref f__law_lefts)
  f__law_key : Addr
  d__law_key : FuncData
  F__law_key : Fun K "_law_key" "_law_key" s__law_key f__law_key d__law_key
  B__law_key : Binds K d__law_key ["number_here"] []
  g__law_key : mg "_law_key" = some (.ref f__law_key)
  f__law_keyed : Addr
  d__law_keyed : FuncData
  F__law_keyed : Fun K "_law_keyed" "_law_keyed" s__law_keyed f__law_keyed d__law_keyed
  B__law_keyed : Binds K d__law_keyed ["crate", "shape_here"] []
  g__law_keyed : mg "_law_keyed" = some (.ref f__law_keyed)
  f__law_wide_shape : Addr
  d__law_wide_shape : FuncData
  F__law_wide_shape : Fun K "_law_wide_shape" "_law_wide_shape" s__law_wide_shape f__law_wide_shape d__law_wide_shape
  B__law_wide_shape : Binds K d__law_wide_shape ["crate", "most_here"] []
  g__law_wide_shape : mg "_law_wide_shape" = some (.ref f__law_wide_shape)
  f__law_some_shape : Addr
  d__law_some_shape : FuncData
  F__law_some_shape : Fun K "_law_some_shape" "_law_some_shape" s__law_some_shape f__law_some_shape d__law_some_shape
  B__law_some_shape : Binds K d__law_some_shape ["crate", "short_here", "most_here"] []
  g__law_some_shape : mg "_law_some_shape" = some (.ref f__law_some_shape)
  f__law_shape_nexts : Addr
  d__law_shape_nexts : FuncData
  F__law_shape_nexts : Fun K "_law_shape_nexts" "_law_shape_nexts" s__law_shape_nexts f__law_shape_nexts d__law_shape_nexts
  B__law_shape_nexts : Binds K d__law_shape_nexts ["shape_here"] []
  g__law_shape_nexts : mg "_law_shape_nexts" = some (.ref f__law_shape_nexts)
  f__law_other_ends : Addr
  d__law_other_ends : FuncData
  F__law_other_ends : Fun K "_law_other_ends" "_law_other_ends" s__law_other_ends f__law_other_ends d__law_other_ends
  B__law_other_ends : Binds K d__law_other_ends ["crate", "size", "lefts_here"] []
  g__law_other_ends : mg "_law_other_ends" = some (.ref f__law_other_ends)
  f__law_shape : Addr
  d__law_shape : FuncData
  F__law_shape : Fun K "_law_shape" "_law_shape" s__law_shape f__law_shape d__law_shape
  B__law_shape : Binds K d__law_shape ["size", "lefts_here", "rights_here"] []
  g__law_shape : mg "_law_shape" = some (.ref f__law_shape)
  f__law_alike_shape : Addr
  d__law_alike_shape : FuncData
  F__law_alike_shape : Fun K "_law_alike_shape" "_law_alike_shape" s__law_alike_shape f__law_alike_shape d__law_alike_shape
  B__law_alike_shape : Binds K d__law_alike_shape ["crate", "shape_here"] []
  g__law_alike_shape : mg "_law_alike_shape" = some (.ref f__law_alike_shape)
  f__law_all_shapes : Addr
  d__law_all_shapes : FuncData
  F__law_all_shapes : Fun K "_law_all_shapes" "_law_all_shapes" s__law_all_shapes f__law_all_shapes d__law_all_shapes
  B__law_all_shapes : Binds K d__law_all_shapes ["size"] []
  g__law_all_shapes : mg "_law_all_shapes" = some (.ref f__law_all_shapes)
  f__law_turned_shape : Addr
  d__law_turned_shape : FuncData
  F__law_turned_shape : Fun K "_law_turned_shape" "_law_turned_shape" s__law_turned_shape f__law_turned_shape d__law_turned_shape
  B__law_turned_shape : Binds K d__law_turned_shape ["crate", "shape_here"] []
  g__law_turned_shape : mg "_law_turned_shape" = some (.ref f__law_turned_shape)
  f__law_log_of : Addr
  d__law_log_of : FuncData
  F__law_log_of : Fun K "_law_log_of" "_law_log_of" s__law_log_of f__law_log_of d__law_log_of
  B__law_log_of : Binds K d__law_log_of ["crate", "shape_here"] []
  g__law_log_of : mg "_law_log_of" = some (.ref f__law_log_of)
  f__law_forms_right : Addr
  d__law_forms_right : FuncData
  F__law_forms_right : Fun K "_law_forms_right" "_law_forms_right" s__law_forms_right f__law_forms_right d__law_forms_right
  B__law_forms_right : Binds K d__law_forms_right ["crate", "shape_here"] []
  g__law_forms_right : mg "_law_forms_right" = some (.ref f__law_forms_right)
  f__law_powers : Addr
  d__law_powers : FuncData
  F__law_powers : Fun K "_law_powers" "_law_powers" s__law_powers f__law_powers d__law_powers
  B__law_powers : Binds K d__law_powers ["size", "keys_here"] []
  g__law_powers : mg "_law_powers" = some (.ref f__law_powers)
  f__law_small_right : Addr
  d__law_small_right : FuncData
  F__law_small_right : Fun K "_law_small_right" "_law_small_right" s__law_small_right f__law_small_right d__law_small_right
  B__law_small_right : Binds K d__law_small_right ["crate", "size"] []
  g__law_small_right : mg "_law_small_right" = some (.ref f__law_small_right)
  f__law_pair_right : Addr
  d__law_pair_right : FuncData
  F__law_pair_right : Fun K "_law_pair_right" "_law_pair_right" s__law_pair_right f__law_pair_right d__law_pair_right
  B__law_pair_right : Binds K d__law_pair_right ["crate", "one", "two"] []
  g__law_pair_right : mg "_law_pair_right" = some (.ref f__law_pair_right)
  z_isinstance : mg "isinstance" = none
  z_int : mg "int" = none
  z_bool : mg "bool" = none
  z_str : mg "str" = none
  z_list : mg "list" = none
  z_tuple : mg "tuple" = none
  z_len : mg "len" = none
  z_all : mg "all" = none
  z_abs : mg "abs" = none
  z_max : mg "max" = none
  z_min : mg "min" = none
  z_range : mg "range" = none
  z_enumerate : mg "enumerate" = none
  z_reversed : mg "reversed" = none
  z_sorted : mg "sorted" = none
  z_zip : mg "zip" = none
  z_sum : mg "sum" = none
  t_LETTERS : Tok
  c_LETTERS : mg "LETTERS" = some (.str "abcdefghijklmnopqrstuvwxyz" t_LETTERS)
  C_InvalidNumber : Addr
  g_InvalidNumber : mg "InvalidNumber" = some (.ref C_InvalidNumber)
  q_InvalidNumber : PySem.W.excIn K C_InvalidNumber [.type "ValueError", .type "Exception", .type "BaseException", .type "object"] "ValueError.__new__" = true
  k_InvalidNumber : PySem.W.keepIn K (.ref C_InvalidNumber) = true
  s_InvalidNumber : PySem.W.subIn K (.ref C_InvalidNumber) (.type "BaseException") = some true
  y_InvalidNumber : PySem.W.typeIn K (.ref C_InvalidNumber) = some (.type "type")

section
variable {Pg : Program} {w : World} {K : PySem.W.Frag} {mg : Str → Option Value} {base : Heap}
abbrev Row := Str × Option Int
def valP : Option Int → PyData | none => .none | some i => .int i
def rowD (r : Row) : PyData := .tuple [.str r.1, valP r.2]
def rowsD (rs : List Row) : PyData := .list (rs.map rowD)
def Key1 (z : Str) : Prop := 1 ≤ z.length ∧ z.length ≤ 8 ∧ ∀ c ∈ z.cps.toList, 97 ≤ c ∧ c ≤ 122
theorem dlen {α : Type} {xs ys : List α} {n : Nat} (h : xs = ys) (e : ys.length = n) : xs.length = n := by rw [h]; exact e
def isIntB : PyData → Bool | .int _ => true | _ => false
def ptY : PyData → Prop | .dict (_ :: _) => False | _ => True
def pr_is_integer : Pr := prD fun ds r => ∃ d, ds = [d] ∧ ptY d ∧ r = .bool (isIntB d)
theorem ok_is_integer (T : Txt K mg) : FnOk Pg w K mg base CX0 1 T.f_is_integer T.d_is_integer ["value"] (spS K pr_is_integer) := by
  refine ok_of _ T.F_is_integer sc_is_integer (hlenD fun ds d ⟨_, h, _⟩ => dlen h rfl) (fun cdv A outer s H E hr => ⟨_, (pss_one (ps_ret (pe_and (pe_callB call_isi (by rfl) T.z_isinstance (by decide +kernel) (pa_cons (pv 0) (pa_cons (pe_bltn (v := .ty "int") (u := .type "int") (by rfl) T.z_int (by decide +kernel) rfl) pa_nil))) (pe_one (pe_not (pe_callB call_isi (by rfl) T.z_isinstance (by decide +kernel) (pa_cons (pv 0) (pa_cons (pe_bltn (v := .ty "bool") (u := .type "bool") (by rfl) T.z_bool (by decide +kernel) rfl) pa_nil)))))))), ?_⟩)
  walk_at "sy0"
  try dsimp only [N_is_integer, List.length_cons, List.length_nil, Nat.reduceAdd, Nat.reduceSub, List.replicate, List.cons_append, List.nil_append]
  rintro as cl Φ ⟨_, _, rfl, rfl, ⟨d, rfl, hd, rfl⟩, q⟩
  dsimp only [List.map]
  cases d with
  | dict ks =>
    cases ks with
    | nil => walk_at "sy"; exact q
    | cons _ _ => exact hd.elim
  | _ => walk_at "sy"; exact q
def pr_is_tuple_of : Pr := prD fun ds d => ∃ (xs : List PyData) (n : Int), ds = [.tuple xs, .int n] ∧ d = .bool (decide ((xs.length : Int) = n))
theorem ok_is_tuple_of (T : Txt K mg) : FnOk Pg w K mg base CX0 1 T.f_is_tuple_of T.d_is_tuple_of ["value", "size"] (spS K pr_is_tuple_of) := by
  refine ok_of _ T.F_is_tuple_of sc_is_tuple_of (hlenD fun ds d ⟨_, _, h, _⟩ => dlen h rfl) (fun cdv A outer s H E hr => ⟨_, (pss_one (ps_ret (pe_and (pe_callB call_isi (by rfl) T.z_isinstance (by decide +kernel) (pa_cons (pv 0) (pa_cons (pe_bltn (v := .ty "tuple") (u := .type "tuple") (by rfl) T.z_tuple (by decide +kernel) rfl) pa_nil))) (pe_one (pe_cmpR (OpR.or op_eq (op_eqD hr.units)) (pe_callB call_len (by rfl) T.z_len (by decide +kernel) (pa_cons (pv 0) pa_nil)) (pv 1) (nomark _)))))), ?_⟩)
  walk_at "sy0"
  try dsimp only [N_is_tuple_of, List.length_cons, List.length_nil, Nat.reduceAdd, Nat.reduceSub, List.replicate, List.cons_append, List.nil_append]
  rintro as cl Φ ⟨_, _, rfl, rfl, ⟨xs, n, rfl, rfl⟩, q⟩
  dsimp only [List.map]
  walk_at "sy"
  exact q
theorem letters_in {c : Nat} (h1 : 97 ≤ c) (h2 : c ≤ 122) : c ∈ (Str.ofString "abcdefghijklmnopqrstuvwxyz").cps.toList := by
  have h : ∀ k, k < 26 → (97 + k) ∈ (Str.ofString "abcdefghijklmnopqrstuvwxyz").cps.toList := by decide +kernel
  have := h (c - 97) (by omega)
  rwa [show 97 + (c - 97) = c by omega] at this
theorem signsD_mem {z : Str} {d : PyData} (h : d ∈ signsD z) : ∃ c ∈ z.cps.toList, d = .str ⟨#[c]⟩ := by
  obtain ⟨c, hc, e⟩ := List.mem_map.mp h
  exact ⟨c, hc, e.symm⟩
def pr_is_key : Pr := prD fun ds d => ∃ z, ds = [.str z] ∧ Key1 z ∧ d = .bool true
theorem ok_is_key (T : Txt K mg) : FnOk Pg w K mg base CX0 1 T.f_is_key T.d_is_key ["value"] (spS K pr_is_key) := by
  refine ok_of _ T.F_is_key sc_is_key (hlenD fun ds d ⟨_, h, _⟩ => dlen h rfl) (fun cdv A outer s H E hr => ⟨_, (pss_cons (ps_if (PW.pt (pw_or (pt_not (pt_val (pe_callB call_isi (by rfl) T.z_isinstance (by decide +kernel) (pa_cons (pv 0) (pa_cons (pe_bltn (v := .ty "str") (u := .type "str") (by rfl) T.z_str (by decide +kernel) rfl) pa_nil))))) (pw_or1 (pt_not (pt_chain op_le op_le pe_int (pe_callB call_len (by rfl) T.z_len (by decide +kernel) (pa_cons (pv 0) pa_nil)) pe_int))))) (pss_one (ps_ret pe_bl)) pss_nil) 
    (pss_one (ps_ret (pe_callB (cr_all rfl) (by rfl) T.z_all (by decide +kernel) (pa_cons (pe_lc rfl sc_is_key.nd (own := [("letter", 1)]) (pi_str (pv 0)) (blkOk_by (own := [("letter", 1)]) (N := N_is_key) (sc := (defScope s_is_key)) (by decide +kernel)) (fun _ _ _ _ _ => (pg_name (i := 1) sc_is_key.nd rfl (.inl rfl))) (fun _ _ _ _ _ => pts_nil) (fun _ _ _ _ _ => (pe_cmpR op_in_sign (pv 1) (pe_glob (v := .str "abcdefghijklmnopqrstuvwxyz") (by rfl) T.c_LETTERS ⟨_, rfl⟩) (by rfl)))) pa_nil))))), ?_⟩)
  walk_at "sy0"
  try dsimp only [N_is_key, List.length_cons, List.length_nil, Nat.reduceAdd, Nat.reduceSub, List.replicate, List.cons_append, List.nil_append]
  rintro as cl Φ ⟨_, _, rfl, rfl, ⟨z, rfl, ⟨k1, k2, k3⟩, rfl⟩, q⟩
  dsimp only [List.map]
  walk_at "sy"
  refine lc_map (fun _ => some (.bool true)) (wi_str ?_)
  walk_at "sy"
  refine ⟨by rw [signsD_len]; omega, gk_name (by simp), fun i d hd => ?_, ?_⟩
  · obtain ⟨c, hc, rfl⟩ := signsD_mem (List.mem_of_getElem? hd)
    dsimp only [wipeS]
    walk_at "sy"
    rw [decide_eq_true (letters_in (k3 c hc).1 (k3 c hc).2)]
  · walk_at "sy"
    refine wc_allT rfl (fun d hd => ?_) q
    obtain ⟨_, _, e⟩ := List.mem_filterMap.mp hd
    exact (Option.some.inj e).symm
def pr_is_record : Pr := prD fun ds d => ∃ r : Row, ds = [rowD r] ∧ Key1 r.1 ∧ d = .bool true
theorem ok_is_record (T : Txt K mg) : FnOk Pg w K mg base CX0 2 T.f_is_record T.d_is_record ["value"] (spS K pr_is_record) := by
  refine ok_of _ T.F_is_record sc_is_record (hlenD fun ds d ⟨_, h, _⟩ => dlen h rfl) (fun cdv A outer s H E hr => ⟨_, (pss_one (ps_ret (pe_and (pe_call (ok_is_tuple_of T) (hr.mono (by decide)) (by rfl) T.g_is_tuple_of T.F_is_tuple_of.kp T.B_is_tuple_of .nil pass0 (pa_cons (pv 0) (pa_cons pe_int pa_nil))) (pe_and (pe_call (ok_is_key T) (hr.mono (by decide)) (by rfl) T.g_is_key T.F_is_key.kp T.B_is_key .nil pass0 (pa_cons (pe_ix ix_seq (pv 0) pe_int (fun _ _ => rfl)) pa_nil)) (pe_one (pe_or (pe_cmpR op_isN (pe_ix ix_seq (pv 0) pe_int (fun _ _ => rfl)) pe_non (nomark _)) (pe_one (pe_call (ok_is_integer T) (hr.mono (by decide)) (by rfl) T.g_is_integer T.F_is_integer.kp T.B_is_integer .nil pass0 (pa_cons (pe_ix ix_seq (pv 0) pe_int (fun _ _ => rfl)) pa_nil))))))))), ?_⟩)
  walk_at "sy0"
  try dsimp only [N_is_record, List.length_cons, List.length_nil, Nat.reduceAdd, Nat.reduceSub, List.replicate, List.cons_append, List.nil_append]
  rintro as cl Φ ⟨_, _, rfl, rfl, ⟨⟨z, o⟩, rfl, kz, rfl⟩, q⟩
  dsimp only [List.map, rowD]
  walk_at "sy"
  refine ⟨_, call_dat (d := .bool true) rfl ⟨_, _, rfl, by rfl⟩ ?_⟩
  walk_at "sy"
  refine ⟨_, call_dat rfl ⟨_, rfl, kz, rfl⟩ ?_⟩
  walk_at "sy"
  cases o with
  | none => dsimp only [valP, Sy.isNon]; walk_at "sy"; exact q
  | some i =>
    dsimp only [valP, Sy.isNon]
    walk_at "sy"
    exact ⟨_, call_dat (d := .bool true) rfl ⟨_, rfl, trivial, rfl⟩ q⟩
def pr_check_log : Pr := prD fun ds d => ∃ rs : List Row, ds = [rowsD rs] ∧ rs.length ≤ 100000 ∧ (∀ r ∈ rs, Key1 r.1) ∧ d = .none
theorem ok_check_log (T : Txt K mg) : FnOk Pg w K mg base CX0 3 T.f_check_log T.d_check_log ["log"] (spS K pr_check_log) := by
  refine ok_of _ T.F_check_log sc_check_log (hlenD fun ds d ⟨_, h, _⟩ => dlen h rfl) (fun cdv A outer s H E hr => ⟨_, (pss_cons (ps_if (pt_not (pt_val (pe_callB call_isi (by rfl) T.z_isinstance (by decide +kernel) (pa_cons (pv 0) (pa_cons (pe_bltn (v := .ty "list") (u := .type "list") (by rfl) T.z_list (by decide +kernel) rfl) pa_nil))))) (pss_one ps_never) pss_nil) 
    (pss_one (ps_if (pt_not (pt_val (pe_callB (cr_all rfl) (by rfl) T.z_all (by decide +kernel) (pa_cons (pe_lc rfl sc_check_log.nd (own := [("part", 1)]) (pi_list (pv 0)) (blkOk_by (own := [("part", 1)]) (N := N_check_log) (sc := (defScope s_check_log)) (by decide +kernel)) (fun _ _ _ _ _ => (pg_name (i := 1) sc_check_log.nd rfl (.inl rfl))) (fun _ _ _ _ _ => pts_nil) (fun _ _ _ _ _ => (pe_call (ok_is_record T) (hr.mono (by decide)) (by rfl) T.g_is_record T.F_is_record.kp T.B_is_record .nil pass0 (pa_cons (pv 1) pa_nil)))) pa_nil)))) (pss_one ps_never) pss_nil))), ?_⟩)
  walk_at "sy0"
  try dsimp only [N_check_log, List.length_cons, List.length_nil, Nat.reduceAdd, Nat.reduceSub, List.replicate, List.cons_append, List.nil_append]
  rintro as cl Φ ⟨_, _, rfl, rfl, ⟨rs, rfl, hz, hk, rfl⟩, q⟩
  dsimp only [List.map, rowsD]
  walk_at "sy"
  refine lc_map (fun _ => some (.bool true)) (wi_list ?_)
  walk_at "sy"
  refine ⟨by rw [List.length_map]; exact hz, gk_name (by simp), fun i d hd => ?_, ?_⟩
  · obtain ⟨r, hr, rfl⟩ := List.mem_map.mp (List.mem_of_getElem? hd)
    dsimp only [wipeS]
    walk_at "sy"
    exact ⟨_, call_dat rfl ⟨r, rfl, hk r hr, rfl⟩ ⟨_, rfl, rfl, rfl⟩⟩
  · walk_at "sy"
    refine wc_allT rfl (fun d hd => ?_) ?_
    · obtain ⟨_, _, e⟩ := List.mem_filterMap.mp hd
      exact (Option.some.inj e).symm
    · walk_at "sy"
      exact q
def posD (ps : List Nat) : List PyData := ps.map fun (p : Nat) => .int (p : Int)
end
end Kp
end

section
namespace Kp
open PySem PySem.Spec PyProof.Rows L2 Sy
abbrev s_law : Stmt := topS 53
/-! ### the head: what the top leaves -/
def dd_is_integer : He.DefD := ⟨("is_integer", none), "is_integer", "is_integer", defArgs s_is_integer, defBody s_is_integer, defScope s_is_integer, [], []⟩
def dd_is_integer_from : He.DefD := ⟨("is_integer_from", none), "is_integer_from", "is_integer_from", defArgs s_is_integer_from, defBody s_is_integer_from, defScope s_is_integer_from, [], []⟩
def dd_is_tuple_of : He.DefD := ⟨("is_tuple_of", none), "is_tuple_of", "is_tuple_of", defArgs s_is_tuple_of, defBody s_is_tuple_of, defScope s_is_tuple_of, [], []⟩
def dd_is_key : He.DefD := ⟨("is_key", none), "is_key", "is_key", defArgs s_is_key, defBody s_is_key, defScope s_is_key, [], []⟩
def dd_is_record : He.DefD := ⟨("is_record", none), "is_record", "is_record", defArgs s_is_record, defBody s_is_record, defScope s_is_record, [], []⟩
def dd_next_list : He.DefD := ⟨("next_list", none), "next_list", "next_list", defArgs s_next_list, defBody s_next_list, defScope s_next_list, [], []⟩
def dd_check_log : He.DefD := ⟨("check_log", none), "check_log", "check_log", defArgs s_check_log, defBody s_check_log, defScope s_check_log, [], []⟩
def dd_befores_of : He.DefD := ⟨("befores_of", none), "befores_of", "befores_of", defArgs s_befores_of, defBody s_befores_of, defScope s_befores_of, [], []⟩
def dd_pattern_of : He.DefD := ⟨("pattern_of", none), "pattern_of", "pattern_of", defArgs s_pattern_of, defBody s_pattern_of, defScope s_pattern_of, [], []⟩
def dd_by_next : He.DefD := ⟨("by_next", none), "by_next", "by_next", defArgs s_by_next, defBody s_by_next, defScope s_by_next, [], []⟩
def dd_are_alike : He.DefD := ⟨("are_alike", none), "are_alike", "are_alike", defArgs s_are_alike, defBody s_are_alike, defScope s_are_alike, [], []⟩
def dd_pattern_with : He.DefD := ⟨("pattern_with", none), "pattern_with", "pattern_with", defArgs s_pattern_with, defBody s_pattern_with, defScope s_pattern_with, [], []⟩
def dd_near : He.DefD := ⟨("near", none), "near", "near", defArgs s_near, defBody s_near, defScope s_near, [], []⟩
def dd_fore : He.DefD := ⟨("fore", none), "fore", "fore", defArgs s_fore, defBody s_fore, defScope s_fore, [], []⟩
def dd_sums_from : He.DefD := ⟨("sums_from", none), "sums_from", "sums_from", defArgs s_sums_from, defBody s_sums_from, defScope s_sums_from, [], []⟩
def dd_ways_by_end : He.DefD := ⟨("ways_by_end", none), "ways_by_end", "ways_by_end", defArgs s_ways_by_end, defBody s_ways_by_end, defScope s_ways_by_end, [], []⟩
def dd_alike_count : He.DefD := ⟨("alike_count", none), "alike_count", "alike_count", defArgs s_alike_count, defBody s_alike_count, defScope s_alike_count, [], []⟩
def dd_power : He.DefD := ⟨("power", none), "power", "power", defArgs s_power, defBody s_power, defScope s_power, [], []⟩
def dd_unlike_count : He.DefD := ⟨("unlike_count", none), "unlike_count", "unlike_count", defArgs s_unlike_count, defBody s_unlike_count, defScope s_unlike_count, [], []⟩
def dd__law_crate : He.DefD := ⟨("_law_crate", none), "_law_crate", "_law_crate", defArgs s__law_crate, defBody s__law_crate, defScope s__law_crate, [], []⟩
def dd__law_grab : He.DefD := ⟨("_law_grab", none), "_law_grab", "_law_grab", defArgs s__law_grab, defBody s__law_grab, defScope s__law_grab, [], []⟩
def dd__law_matched : He.DefD := ⟨("_law_matched", none), "_law_matched", "_law_matched", defArgs s__law_matched, defBody s__law_matched, defScope s__law_matched, [], []⟩
def dd__law_names : He.DefD := ⟨("_law_names", none), "_law_names", "_law_names", defArgs s__law_names, defBody s__law_names, defScope s__law_names, [], []⟩
def dd__law_any_value : He.DefD := ⟨("_law_any_value", none), "_law_any_value", "_law_any_value", defArgs s__law_any_value, defBody s__law_any_value, defScope s__law_any_value, [], []⟩
def dd__law_next : He.DefD := ⟨("_law_next", none), "_law_next", "_law_next", defArgs s__law_next, defBody s__law_next, defScope s__law_next, [], []⟩
def dd__law_nexts : He.DefD := ⟨("_law_nexts", none), "_law_nexts", "_law_nexts", defArgs s__law_nexts, defBody s__law_nexts, defScope s__law_nexts, [], []⟩
def dd__law_pattern : He.DefD := ⟨("_law_pattern", none), "_law_pattern", "_law_pattern", defArgs s__law_pattern, defBody s__law_pattern, defScope s__law_pattern, [], []⟩
def dd__law_lefts : He.DefD := ⟨("_law_lefts", none), "_law_lefts", "_law_lefts", defArgs s__law_lefts, defBody s__law_lefts, defScope s__law_lefts, [], []⟩
def dd__law_key : He.DefD := ⟨("_law_key", none), "_law_key", "_law_key", defArgs s__law_key, defBody s__law_key, defScope s__law_key, [], []⟩
def dd__law_keyed : He.DefD := ⟨("_law_keyed", none), "_law_keyed", "_law_keyed", defArgs s__law_keyed, defBody s__law_keyed, defScope s__law_keyed, [], []⟩
def dd__law_wide_shape : He.DefD := ⟨("_law_wide_shape", none), "_law_wide_shape", "_law_wide_shape", defArgs s__law_wide_shape, defBody s__law_wide_shape, defScope s__law_wide_shape, [], []⟩
def dd__law_some_shape : He.DefD := ⟨("_law_some_shape", none), "_law_some_shape", "_law_some_shape", defArgs s__law_some_shape, defBody s__law_some_shape, defScope s__law_some_shape, [], []⟩
def dd__law_shape_nexts : He.DefD := ⟨("_law_shape_nexts", none), "_law_shape_nexts", "_law_shape_nexts", defArgs s__law_shape_nexts, defBody s__law_shape_nexts, defScope s__law_shape_nexts, [], []⟩
def dd__law_other_ends : He.DefD := ⟨("_law_other_ends", none), "_law_other_ends", "_law_other_ends", defArgs s__law_other_ends, defBody s__law_other_ends, defScope s__law_other_ends, [], []⟩
def dd__law_shape : He.DefD := ⟨("_law_shape", none), "_law_shape", "_law_shape", defArgs s__law_shape, defBody s__law_shape, defScope s__law_shape, [], []⟩
def dd__law_alike_shape : He.DefD := ⟨("_law_alike_shape", none), "_law_alike_shape", "_law_alike_shape", defArgs s__law_alike_shape, defBody s__law_alike_shape, defScope s__law_alike_shape, [], []⟩
def dd__law_all_shapes : He.DefD := ⟨("_law_all_shapes", none), "_law_all_shapes", "_law_all_shapes", defArgs s__law_all_shapes, defBody s__law_all_shapes, defScope s__law_all_shapes, [], []⟩
def dd__law_turned_shape : He.DefD := ⟨("_law_turned_shape", none), "_law_turned_shape", "_law_turned_shape", defArgs s__law_turned_shape, defBody s__law_turned_shape, defScope s__law_turned_shape, [], []⟩
def dd__law_log_of : He.DefD := ⟨("_law_log_of", none), "_law_log_of", "_law_log_of", defArgs s__law_log_of, defBody s__law_log_of, defScope s__law_log_of, [], []⟩
def dd__law_forms_right : He.DefD := ⟨("_law_forms_right", none), "_law_forms_right", "_law_forms_right", defArgs s__law_forms_right, defBody s__law_forms_right, defScope s__law_forms_right, [], []⟩
def dd__law_powers : He.DefD := ⟨("_law_powers", none), "_law_powers", "_law_powers", defArgs s__law_powers, defBody s__law_powers, defScope s__law_powers, [], []⟩
def dd__law_small_right : He.DefD := ⟨("_law_small_right", none), "_law_small_right", "_law_small_right", defArgs s__law_small_right, defBody s__law_small_right, defScope s__law_small_right, [], []⟩
def dd__law_pair_right : He.DefD := ⟨("_law_pair_right", none), "_law_pair_right", "_law_pair_right", defArgs s__law_pair_right, defBody s__law_pair_right, defScope s__law_pair_right, [], []⟩
def dd_law : He.DefD := ⟨("law", none), "law", "law", defArgs s_law, defBody s_law, defScope s_law, [], []⟩
def hfn : List He.DefD := [dd_is_integer, dd_is_integer_from, dd_is_tuple_of, dd_is_key, dd_is_record, dd_next_list, dd_check_log, dd_befores_of, dd_pattern_of, dd_by_next, dd_are_alike, dd_pattern_with, dd_near, dd_fore, dd_sums_from, dd_ways_by_end, dd_alike_count, dd_power, dd_unlike_count, dd__law_crate, dd__law_grab, dd__law_matched, dd__law_names, dd__law_any_value, dd__law_next, dd__law_nexts, dd__law_pattern, dd__law_lefts, dd__law_key, dd__law_keyed, dd__law_wide_shape, dd__law_some_shape, dd__law_shape_nexts, dd__law_other_ends, dd__law_shape, dd__law_alike_shape, dd__law_all_shapes, dd__law_turned_shape, dd__law_log_of, dd__law_forms_right, dd__law_powers, dd__law_small_right, dd__law_pair_right, dd_law]
def hfa : List He.Fa := [.glo "is_integer", .glo "is_integer_from", .glo "is_tuple_of", .glo "is_key", .glo "is_record", .glo "next_list", .glo "check_log", .glo "befores_of", .glo "pattern_of", .glo "by_next", .glo "are_alike", .glo "pattern_with", .glo "near", .glo "fore", .glo "sums_from", .glo "ways_by_end", .glo "alike_count", .glo "power", .glo "unlike_count", .glo "_law_crate", .glo "_law_grab", .glo "_law_matched", .glo "_law_names", .glo "_law_any_value", .glo "_law_next", .glo "_law_nexts", .glo "_law_pattern", .glo "_law_lefts", .glo "_law_key", .glo "_law_keyed", .glo "_law_wide_shape", .glo "_law_some_shape", .glo "_law_shape_nexts", .glo "_law_other_ends", .glo "_law_shape", .glo "_law_alike_shape", .glo "_law_all_shapes", .glo "_law_turned_shape", .glo "_law_log_of", .glo "_law_forms_right", .glo "_law_powers", .glo "_law_small_right", .glo "_law_pair_right", .glo "law", .str "LETTERS" "abcdefghijklmnopqrstuvwxyz", .free "isinstance", .free "int", .free "bool", .free "str", .free "list", .free "tuple", .free "len", .free "all", .free "abs", .free "max", .free "min", .free "range", .free "enumerate", .free "reversed", .free "sorted", .free "zip", .free "sum", .glo "InvalidNumber", .exc "InvalidNumber"]
abbrev HR : PySem.W.OpenRow := PySem.W.OpenLaw.row PySem.Challenge.rw_markthenpurge_k86_whole_forms_tell_alike
abbrev hhk : PySem.W.Hook := He.hookD 4 hfa hfn
def hob (s : PySem.W.SharedT) : He.AlD := He.obsDG 4 hfa hfn (HandSHeadRun.getT s)
theorem hob_eq (s : PySem.W.SharedT) : hob s = hhk.obs s.abs := He.obsDG_eq (HandSHeadRun.getT_eq s)
def loose1 : List Str := ["PurgeError", "InvalidLog", "InvalidNumber", "LETTERS", "is_integer", "is_integer_from", "is_tuple_of", "is_key", "is_record", "next_list", "check_log", "befores_of", "pattern_of", "by_next", "are_alike", "pattern_with", "near", "fore", "sums_from", "ways_by_end", "alike_count", "power", "unlike_count", "_law_crate", "_law_grab", "_law_matched", "_law_names", "_law_any_value", "_law_next", "_law_nexts"]
def loose2 : List Str := ["_law_pattern", "_law_lefts", "_law_key", "_law_keyed", "_law_wide_shape", "_law_some_shape", "_law_shape_nexts", "_law_other_ends", "_law_shape", "_law_alike_shape", "_law_all_shapes", "_law_turned_shape", "_law_log_of", "_law_forms_right", "_law_powers", "_law_small_right", "_law_pair_right"]
theorem hrun (w : World) : HandSHeadRun.RunEq HR (PySem.W.view HR.prog [53]) hhk hob 6000 (loose1 ++ loose2) w := by
  intro os
  kernel_rfl
end Kp
end

section
-- conditions of operations on ints
local macro_rules | `(tactic| walk_at "syc") => `(tactic| first
  | exact Sy.cpow (by decide) (by decide)
  | exact Sy.mul_l (by omega) (by omega)
  | exact Sy.mul_r (by omega) (by omega)
  | exact Sy.fdiv_ok (by omega) (by omega)
  | ((show (0 : Int) < _); first | omega | (simp only [Sy.pow12, Sy.pow18, Sy.pow29, Sy.pow38, Sy.pow39, Sy.pow40]; omega)))
-- one step of the symbolic run
local macro_rules | `(tactic| walk_at "sy1") => `(tactic| first
  | with_reducible refine' Sy.ws_seq ?_
  | (with_reducible refine' Sy.ws_setI ?_)
  | (with_reducible refine' Sy.ws_asg ?_)
  | with_reducible refine' Sy.ws_ret (Sy.wp_lstO ?_)
  | with_reducible refine' Sy.ws_ret ?_
  | with_reducible refine' Sy.ws_if ?_
  | with_reducible refine' Sy.ws_drop ?_
  | with_reducible refine' Sy.ws_next ?_
  | with_reducible refine' Sy.ws_par ?_
  | with_reducible refine' Sy.wp_app ?_
  | with_reducible refine' Sy.ws_setI ?_
  | with_reducible refine' Sy.ws_dput ?_
  | with_reducible refine' Sy.wp_dget1 ?_
  | with_reducible refine' Sy.wp_dnotin ?_
  | ((with_reducible refine' Sy.wp_var ?h1 ?h2 ?_); (case h1 => rfl); (case h2 => (intro z; cases z)))
  | ((with_reducible refine' Sy.wp_c ?h1 ?_); (case h1 => rfl))
  | with_reducible refine' Sy.isi_int ?_
  | with_reducible refine' Sy.isi_bool ?_
  | with_reducible refine' Sy.isi_str ?_
  | with_reducible refine' Sy.isi_list ?_
  | with_reducible refine' Sy.isi_tuple ?_
  | with_reducible refine' Sy.isi_seq ?_
  | with_reducible refine' Sy.wp_op ?_
  | with_reducible refine' Sy.wp_neg ?_
  | with_reducible refine' Sy.wp_test ?_
  | with_reducible refine' Sy.wp_testB ?_
  | with_reducible refine' Sy.wp_and ?_
  | with_reducible refine' Sy.wp_or ?_
  | with_reducible refine' Sy.wp_not ?_
  | with_reducible refine' Sy.wp_if ?_
  | with_reducible refine' Sy.wp_andV ?_
  | with_reducible refine' Sy.wp_orV ?_
  | with_reducible refine' Sy.wp_notV ?_
  | with_reducible refine' Sy.wp_chain ?_
  | with_reducible refine' Sy.wp_cb ?_
  | with_reducible refine' Sy.wp_callE ?_
  | with_reducible refine' Sy.wp_callX0 ?_
  | (with_reducible refine' Sy.wp_ext ?_)
  | with_reducible refine' Sy.wp_tup ?_
  | with_reducible refine' Sy.wp_lst ?_
  | with_reducible refine' Sy.wp_sl ?_
  | with_reducible refine' Sy.wp_rev ?_
  | with_reducible refine' Sy.wp_join ?_
  | with_reducible refine' Sy.wo_none ?_
  | with_reducible refine' Sy.wo_some ?_
  | with_reducible refine' Sy.wa_nil ?_
  | with_reducible refine' Sy.wa_cons ?_
  | with_reducible refine' Sy.wp_yes ?_
  | with_reducible refine' Sy.wg_name ?_
  | with_reducible refine' Sy.wgs_nil ?_
  | with_reducible refine' Sy.wgs_cons ?_
  | (refine' Sy.wg_tup rfl rfl ?_)
  | (refine' Sy.wo_inl (Sy.wo_I0 rfl rfl rfl ?_))
  | (refine' Sy.wo_I0 rfl rfl rfl ?_)
  | (refine' Sy.wo_sign rfl rfl ?_)
  | (refine' Sy.wo_inl (Sy.wo_I rfl rfl ?h1 rfl ?_); (case h1 => walk_at "syc"))
  | (refine' Sy.wo_I rfl rfl ?h1 rfl ?_; (case h1 => walk_at "syc"))
  | (refine' Sy.wo_isN ?h1 rfl ?_; (case h1 => (intro z; cases z)))
  | (refine' Sy.wo_notN ?h1 rfl ?_; (case h1 => (intro z; cases z)))
  | (refine' Sy.wo_eq rfl rfl rfl ?_)
  | (refine' Sy.wo_inl (Sy.wo_eq rfl rfl rfl ?_))
  | (refine' Sy.wo_ne rfl rfl rfl ?_)
  | (refine' Sy.wo_inl (Sy.wo_ne rfl rfl rfl ?_))
  | (refine' Sy.wo_ixL rfl rfl ?h1 ?_; (case h1 => first | rfl | assumption))
  | (refine' Sy.wo_ixT rfl rfl ?h1 ?_; (case h1 => first | rfl | assumption))
  | (refine' Sy.wc_int1 rfl ?_)
  | (refine' Sy.wc_abs rfl ?_)
  | (refine' Sy.wc_max2 rfl rfl ?_)
  | (refine' Sy.wc_min2 rfl rfl ?_)
  | (refine' Sy.wc_len rfl ?_)
  | (refine' Sy.wc_lenS rfl ?h1 ?_; (case h1 => omega))
  | (refine' Sy.wc_list rfl ?_)
  | (refine' Sy.wc_listT rfl ?_)
  | (refine' Sy.wc_tuple rfl ?_)
  | ((with_reducible refine' And.intro ?h1 ?_); (case h1 => first | (with_reducible rfl) | omega | decide | (simp only [List.length_cons, List.length_nil]; omega)))
  | ((with_reducible show @ite Prop (true = true) _ _ _); refine' Sy.iteT0 ?_)
  | ((with_reducible show @ite Prop (false = true) _ _ _); refine' Sy.iteF0 ?_)
  | ((with_reducible show @ite Prop ((!true) = true) _ _ _); refine' Sy.iteNT ?_)
  | ((with_reducible show @ite Prop (@decide _ _ = true) _ _ _); (refine' Sy.iteDT ?h1 ?_); (case h1 => first | omega | rfl | (intro z; cases z)))
  | ((with_reducible show @ite Prop (@decide _ _ = true) _ _ _); (refine' Sy.iteDF ?h1 ?_); (case h1 => first | omega | rfl | (intro z; cases z)))
  | ((with_reducible show @ite Prop ((!@decide _ _) = true) _ _ _); (refine' Sy.iteND ?h1 ?_); (case h1 => first | omega | rfl | (intro z; cases z)))
  | ((with_reducible show @ite Prop ((!@decide _ _) = true) _ _ _); (refine' Sy.iteNDF ?h1 ?_); (case h1 => first | omega | rfl | (intro z; cases z)))
  | ((with_reducible show @ite Prop ((!false) = true) _ _ _); refine' Sy.iteNF ?_)
  | (with_reducible refine' Sy.ws_try ?_)
  | (with_reducible refine' Sy.wsx_drop (Sy.wx_call (Sy.wax_of ?_)))
  | (with_reducible refine' Sy.wsx_asg (Sy.wx_call (Sy.wax_of ?_)))
  | (with_reducible refine' Sy.wsx_ret (Sy.wx_call (Sy.wax_of ?_)))
  | (with_reducible refine' Sy.wsx_of ?_)
  | (refine ⟨_, rfl, ⟨_, rfl⟩, ?_⟩)
  | (refine ⟨_, rfl, ?_⟩)
  | (refine ⟨_, _, rfl, rfl, ?_⟩)
  | (refine ⟨_, _, rfl, ?_⟩)
  | ((refine' Sy.iteNo ?h1 ?_); (case h1 => (intro z; cases z)))
  | ((refine' Sy.iteYes ?h1 ?_); (case h1 => rfl)))
-- many steps
local macro_rules | `(tactic| walk_at "syd") => `(tactic| try dsimp only [List.set, List.length_cons, List.length_nil, Nat.reduceAdd, Sy.isNon, List.cons_append, List.nil_append, List.map, Bool.not_true, Bool.not_false, Sy.Ty.isInt, Sy.Ty.isBool, Sy.Ty.isStr, Sy.Ty.isList, Sy.Ty.isTuple, Sy.Ty.isSeq])
local macro_rules | `(tactic| walk_at "sy") => `(tactic| repeat ((walk_at "sy1"); (walk_at "syd")))
-- the start of a body
local macro_rules | `(tactic| walk_at "sy0") => `(tactic| dsimp only [L2.cxOf, List.length_cons, List.length_nil, Nat.reduceAdd, Nat.reduceSub, List.replicate, List.cons_append, List.nil_append])
-- a turn's end: the slots and the cells are said by the invariant
local macro_rules | `(tactic| walk_at "wkl") => `(tactic| repeat' first | exact trivial | refine ⟨.inl rfl, ?_⟩ | refine ⟨.inr rfl, ?_⟩)
local macro_rules | `(tactic| walk_at "lowl") => `(tactic| repeat' first | exact trivial | refine ⟨by omega, ?_⟩)
local macro_rules | `(tactic| walk_at "turn") => `(tactic| refine Sy.turn_q ⟨rfl, rfl⟩ (by walk_at "wkl") (by walk_at "lowl"))

namespace Kp
open PySem PySem.Spec L2 Sy
section
variable {Pg : Program} {w : World} {K : PySem.W.Frag} {mg : Str → Option Value} {base : Heap}
def ffx : List Row → Nat → Str → Option Nat
  | [], _, _ => none
  | r :: t, k, z => if r.1 = z then some k else ffx t (k + 1) z
def nxt (rs : List Row) (i : Nat) : Option Nat := match rs[i]? with
  | some r => ffx (rs.drop (i + 1)) (i + 1) r.1
  | none => none
def optD : Option Nat → PyData | none => .none | some k => .int (k : Int)
def nextsD (rs : List Row) : List PyData := (List.range rs.length).map fun i => optD (nxt rs i)
theorem set_range {α : Type} {n p : Nat} {d : α} {f f' : Nat → α} (h : ∀ j, j < n → f' j = if j = p then d else f j) : ((List.range n).map f).set p d = (List.range n).map f' := by
  refine List.ext_getElem (by simp) fun j h1 h2 => ?_
  have hj : j < n := by simpa using h2
  rw [List.getElem_set, List.getElem_map, List.getElem_map, List.getElem_range, h j hj]
  by_cases e : p = j
  · rw [if_pos e, if_pos e.symm]
  · rw [if_neg e, if_neg fun z => e z.symm]
theorem optD_map {o : Option Nat} : optD o = (o.map fun (k : Nat) => PyData.int (k : Int)).getD .none := by cases o <;> rfl
def pr_next_list : Pr := prO fun ds es => ∃ rs : List Row, ds = [rowsD rs] ∧ rs.length ≤ 10000 ∧ es = nextsD rs
def nlInv (rs : List Row) (i : Nat) (sl : List SD) (cl : List Cell) : Prop := ∃ kvs, sl = [.dat (.list (rs.map rowD)), .own 0, .own 1, .unk, .unk] ∧
  cl = [.dic kvs, .lst ((List.range rs.length).map fun j => if rs.length - i ≤ j then optD (nxt rs j) else .none)] ∧ kvs.length ≤ i ∧ ∀ z, valD kvs (Sum.inr z) = (ffx (rs.drop (rs.length - i)) (rs.length - i) z).map fun k => .int (k : Int)
theorem ok_next_list (T : Txt K mg) : FnOk Pg w K mg base CX0 1 T.f_next_list T.d_next_list ["log"] (spS K pr_next_list) := by
  refine ok_of _ T.F_next_list sc_next_list (hlenO fun ds d ⟨_, h, _⟩ => dlen h rfl) (fun cdv A outer s H E hr => ⟨_, (pss_cons (ps_set (i := 1) sc_next_list.nd rfl (.inl rfl) pe_dnewK) 
    (pss_cons (ps_set (i := 2) sc_next_list.nd rfl (.inl rfl) (pe_op (OpR.or op_mul op_rep) (pe_lst (pa_cons pe_non pa_nil)) (pe_callB call_len (by rfl) T.z_len (by decide +kernel) (pa_cons (pv 0) pa_nil)))) 
    (pss_cons (ps_for PassesOwn.never rfl (pi_revR rfl T.z_reversed (prg_1 rfl T.z_range (pe_callB call_len (by rfl) T.z_len (by decide +kernel) (pa_cons (pv 0) pa_nil)))) (pg_name (i := 3) sc_next_list.nd rfl (.inl rfl))
    (pss_cons (ps_set (i := 4) sc_next_list.nd rfl (.inl rfl) (pe_ix ix_seq (pe_ix ix_seq (pv 0) (pv 3) (fun _ _ => rfl)) pe_int (fun _ _ => rfl))) 
    (pss_cons (ps_asg (pe_dget1 (hu_of hr) (pv 1) (pv 4) ⟨rfl, rfl, rfl, rfl⟩) (pg_sub (pv 2) (pv 3) set_list)) 
    (pss_one (ps_dput (hu_of hr) (pv 1) (pv 4) (pv 3) rfl))))) 
    (pss_one (ps_ret (pv 2)))))), ?_⟩)
  walk_at "sy0"
  try dsimp only [N_next_list, List.length_cons, List.length_nil, Nat.reduceAdd, Nat.reduceSub, List.replicate, List.cons_append, List.nil_append]
  rintro as cl Φ ⟨_, _, rfl, rfl, ⟨rs, rfl, hz, rfl⟩, q⟩
  have hn : (rs.map rowD).length = rs.length := List.length_map _
  dsimp only [List.map, rowsD]
  refine ws_seq (ws_asg (wp_dnewO (wg_name ?_)))
  walk_at "syd"
  refine ws_seq (ws_asg ?_)
  walk_at "sy"
  refine wo_inr (wo_repO rfl rfl ⟨by omega, by omega⟩ (by simp; omega) (wg_name ?_))
  walk_at "syd"
  refine ws_seq (ws_for (wi_revR ?_))
  walk_at "sy"
  refine ⟨nlInv rs, ⟨[], rfl, ?_, Nat.zero_le _, fun z => ?_⟩, fun i d sl' cl' hd hI hc => ?_, fun sl' cl' hI hc => ?_⟩
  · rw [rep1]
    have e : List.replicate (((List.map rowD rs).length : Nat) : Int).toNat PyData.none = (List.range rs.length).map fun j => if rs.length - 0 ≤ j then optD (nxt rs j) else .none := by
      refine List.ext_getElem (by simp) fun j h1 h2 => ?_
      rw [List.getElem_replicate, List.getElem_map, List.getElem_range, if_neg (by simp at h2; omega)]
    rw [e]
  · rw [Nat.sub_zero, List.drop_length] <;> rfl
  · obtain ⟨hi, rfl⟩ := rvD_get hd
    obtain ⟨kvs, rfl, rfl, hk, hv⟩ := hI
    clear hd hc
    generalize hp : ((((List.map rowD rs).length : Nat) : Int).toNat - 1 - i) = p
    have h1 : p < rs.length := by omega
    have h2 : rs.length - i = p + 1 := by omega
    have hat : atI (rs.map rowD) (p : Int) = some (.tuple [.str rs[p].1, valP rs[p].2]) := by
      refine atI_nat ?_
      rw [List.getElem?_map, List.getElem?_eq_getElem h1] <;> rfl
    walk_at "sy"
    refine ⟨_, 1, _, (p : Int), p, rfl, rfl, rfl, rfl, Evl.ixN_nat (by simp; exact h1), ?_⟩
    walk_at "sy"
    refine ⟨_, 0, rs[p].1, kvs, rfl, rfl, rfl, rfl, by omega, ?_⟩
    refine turn_of [.dat _, .own 0, .own 1, .unk, .unk] ⟨.inl rfl, .inl rfl, .inl rfl, .inr rfl, .inr rfl, trivial⟩ ⟨by omega, by omega, trivial⟩ ⟨putD kvs (Sum.inr rs[p].1) (.int (p : Int)), rfl, ?_, Nat.le_trans (putD_len (kvs := kvs)) (by omega), fun z => ?_⟩
    · show [Cell.dic _, Cell.lst _] = _
      congr 3
      refine set_range fun j hj => ?_
      by_cases ej : j = p
      · rw [if_pos ej, if_pos (by omega), ej, hv, h2]
        unfold nxt
        rw [List.getElem?_eq_getElem h1]
        exact optD_map
      · rw [if_neg ej]
        by_cases h3 : rs.length - i ≤ j
        · rw [if_pos h3, if_pos (by omega)]
        · rw [if_neg h3, if_neg (by omega)]
    · rw [valD_put, hv, h2, show rs.length - (i + 1) = p by omega, List.drop_eq_getElem_cons h1]
      by_cases ez : rs[p].1 = z
      · rw [if_pos (by rw [ez])]
        unfold ffx
        rw [if_pos ez] <;> rfl
      · rw [if_neg (fun q => ez (Sum.inr.inj q).symm)]
        show _ = Option.map _ (if rs[p].1 = z then _ else _)
        rw [if_neg ez]
  · obtain ⟨kvs, rfl, rfl, hk, hv⟩ := hI
    walk_at "sy"
    have e : ((List.range rs.length).map fun j => if rs.length - (rvD 0 (((List.map rowD rs).length : Nat) : Int).toNat).length ≤ j then optD (nxt rs j) else .none) = nextsD rs := by
      refine List.map_congr_left fun j hj => ?_
      rw [rvD_len, if_pos (by omega)]
    rw [e]
    exact q
abbrev Span := Nat × Nat
def spanD (s : Span) : PyData := .tuple [.int (s.1 : Int), .int (s.2 : Int)]
def spansD (ss : List Span) : PyData := .list (ss.map spanD)
def mx (p : Nat → Bool) : List Span → Int | [] => -1 | s :: t => if p s.1 = true then max (mx p t) (s.2 : Int) else mx p t
theorem m2_max (i j : Int) : (if j > i then j else i) = max i j := by omega
theorem mx_snoc {p : Nat → Bool} {s : Span} : ∀ l : List Span, mx p (l ++ [s]) = if p s.1 = true then max (mx p l) (s.2 : Int) else mx p l
  | [] => by
    show (if p s.1 = true then max (-1) (s.2 : Int) else -1) = if p s.1 = true then max (-1) (s.2 : Int) else -1
    rfl
  | a :: l => by
    show (if p a.1 = true then max (mx p (l ++ [s])) (a.2 : Int) else mx p (l ++ [s])) = if p s.1 = true then max (if p a.1 = true then max (mx p l) (a.2 : Int) else mx p l) (s.2 : Int) else if p a.1 = true then max (mx p l) (a.2 : Int) else mx p l
    rw [mx_snoc l]
    split <;> split <;> first | rfl | omega
theorem mx_low {p : Nat → Bool} : ∀ l : List Span, -1 ≤ mx p l
  | [] => Int.le_refl _
  | a :: l => by
    have := mx_low (p := p) l
    show -1 ≤ if p a.1 = true then max (mx p l) (a.2 : Int) else mx p l
    split <;> omega
theorem mx_step {i : Nat} : ∀ l : List Span, mx (fun a => decide (a ≤ i)) l = max (mx (fun a => decide (a < i)) l) (mx (fun a => decide (a = i)) l)
  | [] => rfl
  | a :: l => by
    show (if decide (a.1 ≤ i) = true then max (mx _ l) (a.2 : Int) else mx _ l) = max (if decide (a.1 < i) = true then max (mx _ l) (a.2 : Int) else mx _ l) (if decide (a.1 = i) = true then max (mx _ l) (a.2 : Int) else mx _ l)
    rw [mx_step l]
    have e1 : (decide (a.1 ≤ i) = true) ↔ a.1 ≤ i := decide_eq_true_iff
    by_cases h1 : a.1 < i
    · rw [if_pos (by simp; omega), if_pos (by simp; omega), if_neg (by simp; omega)]; omega
    · by_cases h2 : a.1 = i
      · rw [if_pos (by simp; omega), if_neg (by simp; omega), if_pos (by simp; omega)]; omega
      · rw [if_neg (by simp; omega), if_neg (by simp; omega), if_neg (by simp; omega)]
theorem mx_any {p : Nat → Bool} {e : Nat} : ∀ l : List Span, decide ((e : Int) ≤ mx p l) = l.any fun s => p s.1 && decide (e ≤ s.2)
  | [] => by
    show decide ((e : Int) ≤ -1) = false
    exact decide_eq_false (by omega)
  | a :: l => by
    rw [List.any_cons, ← mx_any l]
    show decide ((e : Int) ≤ if p a.1 = true then max (mx p l) (a.2 : Int) else mx p l) = _
    cases hp : p a.1 with
    | true =>
      rw [if_pos rfl, Bool.eq_iff_iff]
      simp only [decide_eq_true_eq, Bool.true_and, Bool.or_eq_true]
      omega
    | false =>
      rw [if_neg Bool.false_ne_true]
      simp
def mkB (f : Nat → Option Nat) (ss : List Span) (i : Nat) : Bool := match f i with
  | none => false
  | some e => ss.any fun s => decide (s.1 ≤ i) && decide (e ≤ s.2)
def marks (n : Nat) (f : Nat → Option Nat) (ss : List Span) : List Nat := (List.range n).filter (mkB f ss)
theorem atI_rng {n i : Nat} {g : Nat → PyData} (h : i < n) : atI ((List.range n).map g) (i : Int) = some (g i) := by
  refine atI_nat ?_
  rw [List.getElem?_map, List.getElem?_range h] <;> rfl
theorem enumD_get {ds : List PyData} {i : Nat} {d : PyData} (h : (enumD ds)[i]? = some d) : ∃ x, ds[i]? = some x ∧ d = .tuple [.int (i : Int), x] := by
  unfold enumD at h
  rw [List.getElem?_mapIdx] at h
  cases q : ds[i]? with
  | none => rw [q] at h; cases h
  | some x => rw [q] at h; exact ⟨x, rfl, (Option.some.inj h).symm⟩
theorem enumD_len {ds : List PyData} : (enumD ds).length = ds.length := by unfold enumD; rw [List.length_mapIdx]
def optsD (n : Nat) (f : Nat → Option Nat) : List PyData := (List.range n).map fun i => optD (f i)
theorem optsD_len {n : Nat} {f : Nat → Option Nat} : (optsD n f).length = n := by unfold optsD; rw [List.length_map, List.length_range]
def pmInv1 (n : Nat) (f : Nat → Option Nat) (ss : List Span) (i : Nat) (sl : List SD) (cl : List Cell) : Prop := sl = [.dat (.list (optsD n f)), .dat (spansD ss), .own 0, .unk, .unk, .unk, .unk, .unk, .unk] ∧
  cl = [.lst ((List.range n).map fun j => .int (mx (fun a => decide (a = j)) (ss.take i)))]
def pmInv2 (n : Nat) (f : Nat → Option Nat) (ss : List Span) (i : Nat) (sl : List SD) (cl : List Cell) : Prop := sl = [.dat (.list (optsD n f)), .dat (spansD ss), .own 0, .unk, .unk, .own 1, .dat (.int (mx (fun a => decide (a < i)) ss)), .unk, .unk] ∧
  cl = [.lst ((List.range n).map fun j => .int (mx (fun a => decide (a = j)) ss)), .lst (posD (marks i f ss))]
theorem nextsD_opts (rs : List Row) : nextsD rs = optsD rs.length (nxt rs) := rfl
theorem enum_opts (n : Nat) (f : Nat → Option Nat) : enumD (optsD n f) = (List.range n).map fun i => .tuple [.int (i : Int), optD (f i)] := by
  refine List.ext_getElem? fun j => ?_
  by_cases hj : j < n
  · rw [List.getElem?_map, List.getElem?_range hj]
    unfold enumD
    rw [List.getElem?_mapIdx]
    unfold optsD
    rw [List.getElem?_map, List.getElem?_range hj] <;> rfl
  · rw [List.getElem?_eq_none (by rw [enumD_len, optsD_len]; omega), List.getElem?_eq_none (by simp; omega)]
def arcsD (rs : List Row) : List PyData := (List.range rs.length).filterMap fun (i : Nat) => (nxt rs i).map fun (e : Nat) => .tuple [.int (i : Int), .int (e : Int)]
def newestL (rs : List Row) : List Nat := (List.range rs.length).filter fun i => (nxt rs i).isNone
def isRows (rs : List Row) : Prop := rs.length ≤ 10000 ∧ ∀ r ∈ rs, Key1 r.1
def arcF : PyData → Option PyData | .tuple [.int i, .int e] => some (.tuple [.int i, .int e]) | _ => none
theorem filterMap_if {p : Nat → Bool} {l : List Nat} : (l.filterMap fun i => if p i = true then some (PyData.int (i : Int)) else none) = posD (l.filter p) := by
  induction l with
  | nil => rfl
  | cons a l ih =>
    unfold posD at ih ⊢
    cases h : p a with
    | true => rw [List.filterMap_cons_some (by rw [if_pos h]), List.filter_cons, if_pos h, List.map_cons, ih]
    | false => rw [List.filterMap_cons_none (by rw [if_neg (by rw [h]; exact Bool.false_ne_true)]), List.filter_cons, if_neg (by rw [h]; exact Bool.false_ne_true), ih]
def newF : PyData → Option PyData | .tuple [.int i, .none] => some (.int i) | _ => none
theorem posD_flat (ps : List Nat) : (posD ps).all flatD = true := by
  rw [List.all_eq_true]
  intro d hd
  obtain ⟨p, _, rfl⟩ := List.mem_map.mp hd
  rfl
theorem inD_pos {i : Nat} {ps : List Nat} : inD (.int (i : Int)) (posD ps) = decide (i ∈ ps) := by
  unfold inD posD
  rw [List.any_map]
  induction ps with
  | nil => simp
  | cons a l ih =>
    rw [List.any_cons, ih]
    show (((a : Int) == (i : Int)) || decide (i ∈ l)) = decide (i ∈ a :: l)
    by_cases h : i = a
    · simp [h]
    · have : ¬ (a : Int) = (i : Int) := by omega
      simp [h, this]
def keyAt (rs : List Row) (j : Nat) : Option Str := rs[j]?.map (·.1)
def remB (rs : List Row) (gone : List Nat) (i : Nat) (z : Str) : Bool := (List.range i).any fun j => decide (keyAt rs j = some z) && (nxt rs j).isSome && !decide (j ∈ gone)
def doneB (rs : List Row) (gone : List Nat) (i : Nat) : Bool := match rs[i]? with
  | some (z, none) => (nxt rs i).isNone && !remB rs gone i z
  | _ => false
def doneL (rs : List Row) (gone : List Nat) (n : Nat) : List Nat := (List.range n).filter (doneB rs gone)
theorem filter_snoc {p : Nat → Bool} {i : Nat} {b : Bool} (h : p i = b) : posD ((List.range (i + 1)).filter p) = posD ((List.range i).filter p) ++ if b = true then [.int (i : Int)] else [] := by
  unfold posD
  rw [List.range_succ, List.filter_append, List.map_append]
  congr 1
  cases b with
  | true => rw [List.filter_cons, if_pos h] <;> rfl
  | false => rw [List.filter_cons, if_neg (by rw [h]; exact Bool.false_ne_true)] <;> rfl
theorem posD_len {n : Nat} {p : Nat → Bool} : (posD ((List.range n).filter p)).length ≤ n := by
  unfold posD
  rw [List.length_map]
  have := List.length_filter_le p (List.range n)
  rw [List.length_range] at this; exact this
def isPosSeq (G : PyData) (ps : List Nat) : Prop := G = .list (posD ps) ∨ G = .tuple (posD ps)
theorem notin_pos {K : PySem.W.Frag} {sl : List SD} {cl : List Cell} {Φ : SD → List Cell → Prop} {G : PyData} {ps : List Nat} {i : Nat} (h : isPosSeq G ps) (q : Φ (.dat (.bool (!decide (i ∈ ps)))) cl) : Wo K (rIn K true) (.dat (.int (i : Int))) (.dat G) sl cl Φ := by
  rcases h with rfl | rfl
  · exact wo_in rfl rfl rfl (posD_flat ps) (by rw [inD_pos]; exact q)
  · exact wo_inT rfl rfl rfl (posD_flat ps) (by rw [inD_pos]; exact q)
def dtInv (rs : List Row) (G : PyData) (gone : List Nat) (i : Nat) (sl : List SD) (cl : List Cell) : Prop := ∃ kvs, sl = [.dat (rowsD rs), .dat G, .own 0, .own 1, .unk, .unk, .unk, .unk] ∧
  cl = [.dic kvs, .lst (posD (doneL rs gone i)), .dead] ∧ kvs.length ≤ i ∧ ∀ z, (valD kvs (Sum.inr z)).isSome = remB rs gone i z
end
end Kp
end

section
-- conditions of operations on ints
local macro_rules | `(tactic| walk_at "syc") => `(tactic| first
  | exact Sy.cpow (by decide) (by decide)
  | exact Sy.mul_l (by omega) (by omega)
  | exact Sy.mul_r (by omega) (by omega)
  | exact Sy.fdiv_ok (by omega) (by omega)
  | ((show (0 : Int) < _); first | omega | (simp only [Sy.pow12, Sy.pow18, Sy.pow29, Sy.pow38, Sy.pow39, Sy.pow40]; omega)))
-- one step of the symbolic run
local macro_rules | `(tactic| walk_at "sy1") => `(tactic| first
  | with_reducible refine' Sy.ws_seq ?_
  | (with_reducible refine' Sy.ws_setI ?_)
  | (with_reducible refine' Sy.ws_asg ?_)
  | with_reducible refine' Sy.ws_ret (Sy.wp_lstO ?_)
  | with_reducible refine' Sy.ws_ret ?_
  | with_reducible refine' Sy.ws_if ?_
  | with_reducible refine' Sy.ws_drop ?_
  | with_reducible refine' Sy.ws_next ?_
  | with_reducible refine' Sy.ws_par ?_
  | with_reducible refine' Sy.wp_app ?_
  | with_reducible refine' Sy.ws_setI ?_
  | with_reducible refine' Sy.ws_dput ?_
  | with_reducible refine' Sy.wp_dget1 ?_
  | with_reducible refine' Sy.wp_dnotin ?_
  | ((with_reducible refine' Sy.wp_var ?h1 ?h2 ?_); (case h1 => rfl); (case h2 => (intro z; cases z)))
  | ((with_reducible refine' Sy.wp_c ?h1 ?_); (case h1 => rfl))
  | with_reducible refine' Sy.isi_int ?_
  | with_reducible refine' Sy.isi_bool ?_
  | with_reducible refine' Sy.isi_str ?_
  | with_reducible refine' Sy.isi_list ?_
  | with_reducible refine' Sy.isi_tuple ?_
  | with_reducible refine' Sy.isi_seq ?_
  | with_reducible refine' Sy.wp_op ?_
  | with_reducible refine' Sy.wp_neg ?_
  | with_reducible refine' Sy.wp_test ?_
  | with_reducible refine' Sy.wp_testB ?_
  | with_reducible refine' Sy.wp_and ?_
  | with_reducible refine' Sy.wp_or ?_
  | with_reducible refine' Sy.wp_not ?_
  | with_reducible refine' Sy.wp_if ?_
  | with_reducible refine' Sy.wp_andV ?_
  | with_reducible refine' Sy.wp_orV ?_
  | with_reducible refine' Sy.wp_notV ?_
  | with_reducible refine' Sy.wp_chain ?_
  | with_reducible refine' Sy.wp_cb ?_
  | with_reducible refine' Sy.wp_callE ?_
  | with_reducible refine' Sy.wp_callX0 ?_
  | (with_reducible refine' Sy.wp_ext ?_)
  | with_reducible refine' Sy.wp_tup ?_
  | with_reducible refine' Sy.wp_lst ?_
  | with_reducible refine' Sy.wp_sl ?_
  | with_reducible refine' Sy.wp_rev ?_
  | with_reducible refine' Sy.wp_join ?_
  | with_reducible refine' Sy.wo_none ?_
  | with_reducible refine' Sy.wo_some ?_
  | with_reducible refine' Sy.wa_nil ?_
  | with_reducible refine' Sy.wa_cons ?_
  | with_reducible refine' Sy.wp_yes ?_
  | with_reducible refine' Sy.wg_name ?_
  | with_reducible refine' Sy.wgs_nil ?_
  | with_reducible refine' Sy.wgs_cons ?_
  | (refine' Sy.wg_tup rfl rfl ?_)
  | (refine' Sy.wo_inl (Sy.wo_I0 rfl rfl rfl ?_))
  | (refine' Sy.wo_I0 rfl rfl rfl ?_)
  | (refine' Sy.wo_sign rfl rfl ?_)
  | (refine' Sy.wo_inl (Sy.wo_I rfl rfl ?h1 rfl ?_); (case h1 => walk_at "syc"))
  | (refine' Sy.wo_I rfl rfl ?h1 rfl ?_; (case h1 => walk_at "syc"))
  | (refine' Sy.wo_isN ?h1 rfl ?_; (case h1 => (intro z; cases z)))
  | (refine' Sy.wo_notN ?h1 rfl ?_; (case h1 => (intro z; cases z)))
  | (refine' Sy.wo_eq rfl rfl rfl ?_)
  | (refine' Sy.wo_inl (Sy.wo_eq rfl rfl rfl ?_))
  | (refine' Sy.wo_ne rfl rfl rfl ?_)
  | (refine' Sy.wo_inl (Sy.wo_ne rfl rfl rfl ?_))
  | (refine' Sy.wo_ixL rfl rfl ?h1 ?_; (case h1 => first | rfl | assumption))
  | (refine' Sy.wo_ixT rfl rfl ?h1 ?_; (case h1 => first | rfl | assumption))
  | (refine' Sy.wc_int1 rfl ?_)
  | (refine' Sy.wc_abs rfl ?_)
  | (refine' Sy.wc_max2 rfl rfl ?_)
  | (refine' Sy.wc_min2 rfl rfl ?_)
  | (refine' Sy.wc_len rfl ?_)
  | (refine' Sy.wc_lenS rfl ?h1 ?_; (case h1 => omega))
  | (refine' Sy.wc_list rfl ?_)
  | (refine' Sy.wc_listT rfl ?_)
  | (refine' Sy.wc_tuple rfl ?_)
  | ((with_reducible refine' And.intro ?h1 ?_); (case h1 => first | (with_reducible rfl) | omega | decide | (simp only [List.length_cons, List.length_nil]; omega)))
  | ((with_reducible show @ite Prop (true = true) _ _ _); refine' Sy.iteT0 ?_)
  | ((with_reducible show @ite Prop (false = true) _ _ _); refine' Sy.iteF0 ?_)
  | ((with_reducible show @ite Prop ((!true) = true) _ _ _); refine' Sy.iteNT ?_)
  | ((with_reducible show @ite Prop (@decide _ _ = true) _ _ _); (refine' Sy.iteDT ?h1 ?_); (case h1 => first | omega | rfl | (intro z; cases z)))
  | ((with_reducible show @ite Prop (@decide _ _ = true) _ _ _); (refine' Sy.iteDF ?h1 ?_); (case h1 => first | omega | rfl | (intro z; cases z)))
  | ((with_reducible show @ite Prop ((!@decide _ _) = true) _ _ _); (refine' Sy.iteND ?h1 ?_); (case h1 => first | omega | rfl | (intro z; cases z)))
  | ((with_reducible show @ite Prop ((!@decide _ _) = true) _ _ _); (refine' Sy.iteNDF ?h1 ?_); (case h1 => first | omega | rfl | (intro z; cases z)))
  | ((with_reducible show @ite Prop ((!false) = true) _ _ _); refine' Sy.iteNF ?_)
  | (with_reducible refine' Sy.ws_try ?_)
  | (with_reducible refine' Sy.wsx_drop (Sy.wx_call (Sy.wax_of ?_)))
  | (with_reducible refine' Sy.wsx_asg (Sy.wx_call (Sy.wax_of ?_)))
  | (with_reducible refine' Sy.wsx_ret (Sy.wx_call (Sy.wax_of ?_)))
  | (with_reducible refine' Sy.wsx_of ?_)
  | (refine ⟨_, rfl, ⟨_, rfl⟩, ?_⟩)
  | (refine ⟨_, rfl, ?_⟩)
  | (refine ⟨_, _, rfl, rfl, ?_⟩)
  | (refine ⟨_, _, rfl, ?_⟩)
  | ((refine' Sy.iteNo ?h1 ?_); (case h1 => (intro z; cases z)))
  | ((refine' Sy.iteYes ?h1 ?_); (case h1 => rfl)))
-- many steps
local macro_rules | `(tactic| walk_at "syd") => `(tactic| try dsimp only [List.set, List.length_cons, List.length_nil, Nat.reduceAdd, Sy.isNon, List.cons_append, List.nil_append, List.map, Bool.not_true, Bool.not_false, Sy.Ty.isInt, Sy.Ty.isBool, Sy.Ty.isStr, Sy.Ty.isList, Sy.Ty.isTuple, Sy.Ty.isSeq])
local macro_rules | `(tactic| walk_at "sy") => `(tactic| repeat ((walk_at "sy1"); (walk_at "syd")))
-- the start of a body
local macro_rules | `(tactic| walk_at "sy0") => `(tactic| dsimp only [L2.cxOf, List.length_cons, List.length_nil, Nat.reduceAdd, Nat.reduceSub, List.replicate, List.cons_append, List.nil_append])
-- a turn's end: the slots and the cells are said by the invariant
local macro_rules | `(tactic| walk_at "wkl") => `(tactic| repeat' first | exact trivial | refine ⟨.inl rfl, ?_⟩ | refine ⟨.inr rfl, ?_⟩)
local macro_rules | `(tactic| walk_at "lowl") => `(tactic| repeat' first | exact trivial | refine ⟨by omega, ?_⟩)
local macro_rules | `(tactic| walk_at "turn") => `(tactic| refine Sy.turn_q ⟨rfl, rfl⟩ (by walk_at "wkl") (by walk_at "lowl"))

namespace Kp
open PySem PySem.Spec L2 Sy
section
variable {Pg : Program} {w : World} {K : PySem.W.Frag} {mg : Str → Option Value} {base : Heap}
def pr__law_crate : Pr := fun as cl Φ => ∃ (ns : List Int) (at' : Nat), as = [.scr ns, .dat (.int (at' : Int))] ∧ cl = [] ∧ ns.length ≤ 63 ∧ at' ≤ 100 ∧ ∀ c, Crate 0 c → Φ (.own 0) [c]
theorem crate_b {x : Int} {at' : Nat} (h : at' ≤ 100) : (x % (100000000000000000000000000000000000000 + 177) * 67 + 47 * (at' : Int) + 37).natAbs < 2 ^ 200 := by
  have h1 := Int.emod_nonneg x (show (100000000000000000000000000000000000000 + 177 : Int) ≠ 0 by omega)
  have h2 := Int.emod_lt_of_pos x (show (0 : Int) < 100000000000000000000000000000000000000 + 177 by omega)
  omega
theorem p200 : (2 : Nat) ^ 200 = 1606938044258990275541962092341162602522202993782792835301376 := by decide +kernel
theorem p210 : (2 : Nat) ^ 210 = 1645504557321206042154969182557350504982735865633579863348609024 := by decide +kernel
theorem big1 {b k : Int} (h : b.natAbs < 2 ^ 200) (h1 : 0 ≤ k) (h2 : k ≤ 2000000) : (b + 70003 * k).natAbs < 2 ^ 210 := by
  rw [p200] at h
  rw [p210]
  omega
theorem big2 {x : Int} (h : 0 ≤ x) (h1 : x ≤ 10000000000000000000000000000000000000000000000000000) : x.natAbs < 2 ^ 210 := by
  rw [p210]
  omega
theorem ok__law_crate (T : Txt K mg) : FnOk Pg w K mg base CX0 1 T.f__law_crate T.d__law_crate ["script", "at"] (spS K pr__law_crate) := by
  refine ok_of _ T.F__law_crate sc__law_crate (fun as cl Φ ⟨_, _, h, _⟩ => by rw [h] <;> rfl) (fun cdv A outer s H E hr => ⟨_, (pss_cons (ps_set (i := 2) sc__law_crate.nd rfl (.inl rfl) (pe_ifExp (pt_cmpR op_lt (pv 1) (pe_callB call_len (by rfl) T.z_len (by decide +kernel) (pa_cons (pv 0) pa_nil)) (nomark _)) (pe_ix ix_seq (pv 0) (pv 1) (fun _ _ => rfl)) pe_int)) 
    (pss_one (ps_ret (pe_lst (pa_cons (pe_callB (call_max2 rfl) (by rfl) T.z_max (by decide +kernel) (pa_cons pe_int (pa_cons (pe_op op_sub (pe_callB call_abs (by rfl) T.z_abs (by decide +kernel) (pa_cons (pv 2) pa_nil)) (pe_op op_powW pe_int pe_int)) pa_nil))) (pa_cons (pe_op (OpR.or op_add (OpR.or op_cat op_add_str)) (pe_op (OpR.or op_add (OpR.or op_cat op_add_str)) (pe_op (OpR.or op_mul op_rep) (pe_op op_mod (pe_callTy call_int1 (by rfl) T.z_int (by decide +kernel) (pa_cons (pv 2) pa_nil)) (pe_op (OpR.or op_add (OpR.or op_cat op_add_str)) (pe_op op_powW pe_int pe_int) pe_int)) pe_int) (pe_op (OpR.or op_mul op_rep) pe_int (pv 1))) pe_int) (pa_cons pe_int pa_nil))))))), ?_⟩)
  walk_at "sy0"
  try dsimp only [N__law_crate, List.length_cons, List.length_nil, Nat.reduceAdd, Nat.reduceSub, List.replicate, List.cons_append, List.nil_append]
  rintro as cl Φ ⟨ns, at', rfl, rfl, hz, ha, q⟩
  walk_at "sy"
  have fin : ∀ cell : Int, Φ (.own 0) [.lst [.int (if (if cell < 0 then -cell else cell) - 1000000000000000000 > 0 then (if cell < 0 then -cell else cell) - 1000000000000000000 else 0), .int (cell % (100000000000000000000000000000000000000 + 177) * 67 + 47 * (at' : Int) + 37), .int 0]] := fun cell =>
    q _ ⟨_, _, _, rfl, by split <;> omega, crate_b ha, by omega, by omega⟩
  refine iteD (fun hc => ?_) (fun hc => ?_)
  · have hl : at' < ns.length := by rw [List.length_map] at hc; omega
    have hat : atI (ns.map PyData.int) (at' : Int) = some (.int ns[at']) := by
      refine atI_nat ?_
      rw [List.getElem?_map, List.getElem?_eq_getElem hl] <;> rfl
    walk_at "sy"
    rw [pow18, pow38]
    exact fin _
  · walk_at "sy"
    rw [pow18, pow38]
    exact fin _
def drawR : List PyData → PyData → Prop := fun ds d => ∃ span k : Int, ds = [.int span] ∧ 1 ≤ span ∧ span ≤ 1000000000 ∧ d = .int k ∧ 0 ≤ k ∧ k < span
def pr__law_grab : Pr := prC (fun _ => 1) drawR
theorem ok__law_grab (T : Txt K mg) : FnOk Pg w K mg base CX0 1 T.f__law_grab T.d__law_grab ["crate", "span"] (spS K pr__law_grab) := by
  refine ok_of _ T.F__law_grab sc__law_grab (hlenC (n := 1) fun ds d ⟨_, _, h, _⟩ => dlen h rfl) (fun cdv A outer s H E hr => ⟨_, (pss_cons (ps_if (pt_cmpR op_gt (pe_ix ix_seq (pv 0) pe_int (fun _ _ => rfl)) pe_int (nomark _)) (pss_cons (ps_set (i := 2) sc__law_grab.nd rfl (.inl rfl) (pe_op op_mod (pe_callTy call_int1 (by rfl) T.z_int (by decide +kernel) (pa_cons (pe_ix ix_seq (pv 0) pe_int (fun _ _ => rfl)) pa_nil)) (pv 1))) 
    (pss_cons (ps_asg (pe_op op_fdivW (pe_ix ix_seq (pv 0) pe_int (fun _ _ => rfl)) (pv 1)) (pg_sub (pv 0) pe_int set_list)) 
    (pss_one (ps_ret (pv 2))))) pss_nil) 
    (pss_cons (ps_asg (pe_op (OpR.or op_add (OpR.or op_cat op_add_str)) (pe_ix ix_seq (pv 0) pe_int (fun _ _ => rfl)) pe_int) (pg_sub (pv 0) pe_int set_list)) 
    (pss_cons (ps_set (i := 3) sc__law_grab.nd rfl (.inl rfl) (pe_op op_mod (pe_op op_powW (pe_callTy call_int1 (by rfl) T.z_int (by decide +kernel) (pa_cons (pe_op (OpR.or op_add (OpR.or op_cat op_add_str)) (pe_ix ix_seq (pv 0) pe_int (fun _ _ => rfl)) (pe_op (OpR.or op_mul op_rep) pe_int (pe_ix ix_seq (pv 0) pe_int (fun _ _ => rfl)))) pa_nil)) pe_int) (pe_op (OpR.or op_add (OpR.or op_cat op_add_str)) (pe_op op_powW pe_int pe_int) pe_int))) 
    (pss_cons (ps_set (i := 3) sc__law_grab.nd rfl (.inl rfl) (pe_op op_mod (pe_op op_powW (pe_callTy call_int1 (by rfl) T.z_int (by decide +kernel) (pa_cons (pe_op (OpR.or op_add (OpR.or op_cat op_add_str)) (pv 3) (pe_op (OpR.or op_mul op_rep) pe_int (pe_ix ix_seq (pv 0) pe_int (fun _ _ => rfl)))) pa_nil)) pe_int) (pe_op (OpR.or op_add (OpR.or op_cat op_add_str)) (pe_op op_powW pe_int pe_int) pe_int))) 
    (pss_one (ps_ret (pe_op op_mod (pe_op op_fdivW (pv 3) pe_int) (pv 1)))))))), ?_⟩)
  walk_at "sy0"
  try dsimp only [N__law_grab, List.length_cons, List.length_nil, Nat.reduceAdd, Nat.reduceSub, List.replicate, List.cons_append, List.nil_append]
  rintro as cl Φ ⟨ds, n, c, rfl, rfl, ⟨a, b, k, rfl, h1, h2, h3, h4⟩, hn, ⟨_, span, _, rfl, hs1, hs2, _⟩, q⟩
  dsimp only [List.map] at hn q ⊢
  walk_at "sy"
  refine iteD (fun hc => ?_) (fun hc => ?_)
  · walk_at "sy"
    refine ⟨_, 0, _, 0, 0, rfl, rfl, rfl, rfl, rfl, ?_⟩
    walk_at "sy"
    exact q _ _ ⟨span, _, rfl, hs1, hs2, rfl, Int.emod_nonneg _ (by omega), Int.emod_lt_of_pos _ (by omega)⟩ ⟨_, _, _, rfl, Int.ediv_nonneg h1 (by omega), h2, h3, by omega⟩
  · walk_at "sy"
    refine ⟨_, 0, _, 2, 2, rfl, rfl, rfl, rfl, rfl, ?_⟩
    walk_at "sy"
    refine wo_I rfl rfl (CPowW.of (b := 210) (big1 h2 (by omega) (by omega)) (by decide) (by decide) (by decide) (by decide)) rfl ?_
    walk_at "sy"
    generalize hch : (b + 70003 * (k + 1)) ^ (2 : Int).toNat % (10 ^ (39 : Int).toNat + 19) = ch
    have c1 : 0 ≤ ch := by rw [← hch]; exact Int.emod_nonneg _ (by rw [pow39]; omega)
    have c2 : ch < 10 ^ (39 : Int).toNat + 19 := by rw [← hch]; exact Int.emod_lt_of_pos _ (by rw [pow39]; omega)
    rw [pow39] at c2
    refine wo_I rfl rfl (CPowW.of (b := 210) (big2 (by omega) (by omega)) (by decide) (by decide) (by decide) (by decide)) rfl ?_
    walk_at "sy"
    exact q _ _ ⟨span, _, rfl, hs1, hs2, rfl, Int.emod_nonneg _ (by omega), Int.emod_lt_of_pos _ (by omega)⟩ ⟨_, _, _, rfl, h1, h2, by omega, by omega⟩
theorem grab_ok {sl : List SD} {cl : List Cell} {Φ : SD → List Cell → Prop} {k n : Nat} {c : Cell} {span : Int} (hk : cl[k]? = some c) (hc : Crate n c) (hn : n + 1 ≤ 1000000) (h1 : 1 ≤ span) (h2 : span ≤ 1000000000)
    (q : ∀ (x : Nat) c', (x : Int) < span → Crate (n + 1) c' → Φ (.dat (.int (x : Int))) (cl.set k c')) : ∃ sel, CallOk pr__law_grab [.own k, .dat (.int span)] sl cl sel Φ := by
  refine ⟨_, call_draw rfl hk hc hn ⟨_, span, 0, rfl, h1, h2, rfl, by omega, by omega⟩ fun d c' ⟨sp, x, e, _, _, ed, x0, x1⟩ hc' => ?_⟩
  cases e
  subst ed
  have e : x = (x.toNat : Int) := by omega
  rw [e]
  exact q _ c' (by omega) hc'
def pr__law_any_value : Pr := prC (fun _ => 3) fun ds d => ds = [] ∧ ∃ o, d = valP o
theorem ok__law_any_value (T : Txt K mg) : FnOk Pg w K mg base CX0 2 T.f__law_any_value T.d__law_any_value ["crate"] (spS K pr__law_any_value) := by
  refine ok_of _ T.F__law_any_value sc__law_any_value (hlenC (n := 0) fun ds d ⟨h, _⟩ => dlen h rfl) (fun cdv A outer s H E hr => ⟨_, (pss_cons (ps_set (i := 1) sc__law_any_value.nd rfl (.inl rfl) (pe_lst (pa_cons pe_non (pa_cons pe_int (pa_cons pe_int (pa_cons pe_int (pa_cons (pe_un un_neg pe_int) (pa_cons (pe_call (ok__law_grab T) (hr.mono (by decide)) (by rfl) T.g__law_grab T.F__law_grab.kp T.B__law_grab .nil pass0 (pa_cons (pv 0) (pa_cons pe_int pa_nil))) (pa_cons (pe_op (OpR.or op_add (OpR.or op_cat op_add_str)) (pe_op op_powW pe_int pe_int) (pe_call (ok__law_grab T) (hr.mono (by decide)) (by rfl) T.g__law_grab T.F__law_grab.kp T.B__law_grab .nil pass0 (pa_cons (pv 0) (pa_cons pe_int pa_nil)))) (pa_cons (pe_un un_neg (pe_op op_powW pe_int pe_int)) pa_nil)))))))))) 
    (pss_one (ps_ret (pe_ix ix_seq (pv 1) (pe_call (ok__law_grab T) (hr.mono (by decide)) (by rfl) T.g__law_grab T.F__law_grab.kp T.B__law_grab .nil pass0 (pa_cons (pv 0) (pa_cons pe_int pa_nil))) (fun _ _ => rfl))))), ?_⟩)
  walk_at "sy0"
  try dsimp only [N__law_any_value, List.length_cons, List.length_nil, Nat.reduceAdd, Nat.reduceSub, List.replicate, List.cons_append, List.nil_append]
  rintro as cl Φ ⟨ds, n, c, rfl, rfl, hc, hn, ⟨_, rfl, _⟩, q⟩
  dsimp only [List.map] at hn q ⊢
  walk_at "sy"
  refine grab_ok rfl hc (by omega) (by omega) (by omega) fun x c1 hx hc1 => ?_
  walk_at "sy"
  refine grab_ok rfl hc1 (by omega) (by omega) (by omega) fun y c2 hy hc2 => ?_
  walk_at "sy"
  refine grab_ok rfl hc2 (by omega) (by omega) (by omega) fun z c3 hz hc3 => ?_
  walk_at "sy"
  obtain ⟨d, hd, hat⟩ := atI_mem (ds := [PyData.none, .int 0, .int 1, .int 2, .int (-1), .int (x : Int), .int (10 ^ (29 : Int).toNat + (y : Int)), .int (-(10 ^ (12 : Int).toNat))]) (x := z) (by simp; omega)
  have hv : ∃ o, d = valP o := by
    simp only [List.mem_cons, List.not_mem_nil, or_false] at hd
    rcases hd with rfl | rfl | rfl | rfl | rfl | rfl | rfl | rfl
    · exact ⟨none, rfl⟩
    all_goals exact ⟨some _, rfl⟩
  walk_at "sy"
  exact q _ _ ⟨rfl, hv⟩ (hc3.mono (by omega))
theorem call_lenK {X : Cx} {K : PySem.W.Frag} (h : X.K = K) : CallR X (.builtin "len") (fun xs H Q => ∃ x n, xs = [x] ∧ LenV K x H n ∧ Q (.int n) H) := h ▸ call_len
theorem ix_seqK {X : Cx} {K : PySem.W.Frag} (h : X.K = K) : IxR X (rIx K) := h ▸ ix_seq
theorem op_eqDK {X : Cx} {K : PySem.W.Frag} (h : X.K = K) (hu : X.A.units + 64 < cLine) : OpR X (compareOp .Eq) (rEqD K) := h ▸ op_eqD hu
theorem op_neDK {X : Cx} {K : PySem.W.Frag} (h : X.K = K) (hu : X.A.units + 64 < cLine) : OpR X (compareOp .NotEq) (rNeD K) := h ▸ op_neD hu
theorem op_in_seqK {X : Cx} {K : PySem.W.Frag} (h : X.K = K) : OpR X (compareOp .In) (rIn K false) := h ▸ op_in_seq
theorem op_notIn_seqK {X : Cx} {K : PySem.W.Frag} (h : X.K = K) : OpR X (compareOp .NotIn) (rIn K true) := h ▸ op_notIn_seq
theorem layAll {xs : List PyData} (h : ∀ x ∈ xs, x.canLay0 = true) : PyData.canLayAll0 xs = true := by
  induction xs with
  | nil => rfl
  | cons a l ih =>
    show (a.canLay0 && PyData.canLayAll0 l) = true
    rw [h a List.mem_cons_self, ih fun x hx => h x (List.mem_cons_of_mem _ hx)] <;> rfl
theorem depAll {k : Nat} {xs : List PyData} (h : ∀ x ∈ xs, x.depth ≤ k) : PyData.depthAll xs ≤ k := by
  induction xs with
  | nil => exact Nat.zero_le _
  | cons a l ih =>
    show max a.depth (PyData.depthAll l) ≤ k
    have := h a List.mem_cons_self
    have := ih fun x hx => h x (List.mem_cons_of_mem _ hx)
    omega
def okD (k : Nat) (d : PyData) : Prop := d.canLay0 = true ∧ d.depth ≤ k
theorem okD.list {k : Nat} {xs : List PyData} (h : ∀ x ∈ xs, okD k x) : okD (k + 1) (.list xs) :=
  ⟨layAll fun x hx => (h x hx).1, Nat.succ_le_succ (depAll fun x hx => (h x hx).2)⟩
theorem okD.tuple {k : Nat} {xs : List PyData} (h : ∀ x ∈ xs, okD k x) : okD (k + 1) (.tuple xs) :=
  ⟨layAll fun x hx => (h x hx).1, Nat.succ_le_succ (depAll fun x hx => (h x hx).2)⟩
theorem okD.shaped {k : Nat} {d : PyData} (h : okD k d) (hk : k ≤ 64) : SeqAt.shaped d = true := by
  show (d.canLay0 && decide (d.depth ≤ 64)) = true
  rw [h.1, decide_eq_true (Nat.le_trans h.2 hk)] <;> rfl
theorem okD.int (i : Int) : okD 0 (.int i) := ⟨rfl, Nat.le_refl _⟩
theorem okD.mono {k j : Nat} {d : PyData} (h : okD k d) (l : k ≤ j) : okD j d := ⟨h.1, Nat.le_trans h.2 l⟩
theorem spanD_ok (s : Span) : okD 1 (spanD s) := .tuple fun x hx => by
  rcases List.mem_cons.mp hx with z | z
  · rw [z]; exact .int _
  · rw [List.mem_singleton.mp z]; exact .int _
theorem eqv_nil (xs : List PyData) : PyData.eqv (.list xs) (.list []) = xs.isEmpty := by cases xs <;> rfl
def rowsW : List PyData → Nat
  | .int m :: _ => 4 * m.toNat
  | _ => 0
theorem posD_ok {ps : List Nat} : okD 1 (.list (posD ps)) := okD.list fun x hx => by
  obtain ⟨p, _, rfl⟩ := List.mem_map.mp hx
  exact .int _
end
end Kp
end

section
-- conditions of operations on ints
local macro_rules | `(tactic| walk_at "syc") => `(tactic| first
  | exact Sy.cpow (by decide) (by decide)
  | exact Sy.mul_l (by omega) (by omega)
  | exact Sy.mul_r (by omega) (by omega)
  | exact Sy.fdiv_ok (by omega) (by omega)
  | ((show (0 : Int) < _); first | omega | (simp only [Sy.pow12, Sy.pow18, Sy.pow29, Sy.pow38, Sy.pow39, Sy.pow40]; omega)))
-- one step of the symbolic run
local macro_rules | `(tactic| walk_at "sy1") => `(tactic| first
  | with_reducible refine' Sy.ws_seq ?_
  | (with_reducible refine' Sy.ws_setI ?_)
  | (with_reducible refine' Sy.ws_asg ?_)
  | with_reducible refine' Sy.ws_ret (Sy.wp_lstO ?_)
  | with_reducible refine' Sy.ws_ret ?_
  | with_reducible refine' Sy.ws_if ?_
  | with_reducible refine' Sy.ws_drop ?_
  | with_reducible refine' Sy.ws_next ?_
  | with_reducible refine' Sy.ws_par ?_
  | with_reducible refine' Sy.wp_app ?_
  | with_reducible refine' Sy.ws_setI ?_
  | with_reducible refine' Sy.ws_dput ?_
  | with_reducible refine' Sy.wp_dget1 ?_
  | with_reducible refine' Sy.wp_dnotin ?_
  | ((with_reducible refine' Sy.wp_var ?h1 ?h2 ?_); (case h1 => rfl); (case h2 => (intro z; cases z)))
  | ((with_reducible refine' Sy.wp_c ?h1 ?_); (case h1 => rfl))
  | with_reducible refine' Sy.isi_int ?_
  | with_reducible refine' Sy.isi_bool ?_
  | with_reducible refine' Sy.isi_str ?_
  | with_reducible refine' Sy.isi_list ?_
  | with_reducible refine' Sy.isi_tuple ?_
  | with_reducible refine' Sy.isi_seq ?_
  | with_reducible refine' Sy.wp_op ?_
  | with_reducible refine' Sy.wp_neg ?_
  | with_reducible refine' Sy.wp_test ?_
  | with_reducible refine' Sy.wp_testB ?_
  | with_reducible refine' Sy.wp_and ?_
  | with_reducible refine' Sy.wp_or ?_
  | with_reducible refine' Sy.wp_not ?_
  | with_reducible refine' Sy.wp_if ?_
  | with_reducible refine' Sy.wp_andV ?_
  | with_reducible refine' Sy.wp_orV ?_
  | with_reducible refine' Sy.wp_notV ?_
  | with_reducible refine' Sy.wp_chain ?_
  | with_reducible refine' Sy.wp_cb ?_
  | with_reducible refine' Sy.wp_callE ?_
  | with_reducible refine' Sy.wp_callX0 ?_
  | (with_reducible refine' Sy.wp_ext ?_)
  | with_reducible refine' Sy.wp_tup ?_
  | with_reducible refine' Sy.wp_lst ?_
  | with_reducible refine' Sy.wp_sl ?_
  | with_reducible refine' Sy.wp_rev ?_
  | with_reducible refine' Sy.wp_join ?_
  | with_reducible refine' Sy.wo_none ?_
  | with_reducible refine' Sy.wo_some ?_
  | with_reducible refine' Sy.wa_nil ?_
  | with_reducible refine' Sy.wa_cons ?_
  | with_reducible refine' Sy.wp_yes ?_
  | with_reducible refine' Sy.wg_name ?_
  | with_reducible refine' Sy.wgs_nil ?_
  | with_reducible refine' Sy.wgs_cons ?_
  | (refine' Sy.wg_tup rfl rfl ?_)
  | (refine' Sy.wo_inl (Sy.wo_I0 rfl rfl rfl ?_))
  | (refine' Sy.wo_I0 rfl rfl rfl ?_)
  | (refine' Sy.wo_sign rfl rfl ?_)
  | (refine' Sy.wo_inl (Sy.wo_I rfl rfl ?h1 rfl ?_); (case h1 => walk_at "syc"))
  | (refine' Sy.wo_I rfl rfl ?h1 rfl ?_; (case h1 => walk_at "syc"))
  | (refine' Sy.wo_isN ?h1 rfl ?_; (case h1 => (intro z; cases z)))
  | (refine' Sy.wo_notN ?h1 rfl ?_; (case h1 => (intro z; cases z)))
  | (refine' Sy.wo_eq rfl rfl rfl ?_)
  | (refine' Sy.wo_inl (Sy.wo_eq rfl rfl rfl ?_))
  | (refine' Sy.wo_ne rfl rfl rfl ?_)
  | (refine' Sy.wo_inl (Sy.wo_ne rfl rfl rfl ?_))
  | (refine' Sy.wo_ixL rfl rfl ?h1 ?_; (case h1 => first | rfl | assumption))
  | (refine' Sy.wo_ixT rfl rfl ?h1 ?_; (case h1 => first | rfl | assumption))
  | (refine' Sy.wc_int1 rfl ?_)
  | (refine' Sy.wc_abs rfl ?_)
  | (refine' Sy.wc_max2 rfl rfl ?_)
  | (refine' Sy.wc_min2 rfl rfl ?_)
  | (refine' Sy.wc_len rfl ?_)
  | (refine' Sy.wc_lenS rfl ?h1 ?_; (case h1 => omega))
  | (refine' Sy.wc_list rfl ?_)
  | (refine' Sy.wc_listT rfl ?_)
  | (refine' Sy.wc_tuple rfl ?_)
  | ((with_reducible refine' And.intro ?h1 ?_); (case h1 => first | (with_reducible rfl) | omega | decide | (simp only [List.length_cons, List.length_nil]; omega)))
  | ((with_reducible show @ite Prop (true = true) _ _ _); refine' Sy.iteT0 ?_)
  | ((with_reducible show @ite Prop (false = true) _ _ _); refine' Sy.iteF0 ?_)
  | ((with_reducible show @ite Prop ((!true) = true) _ _ _); refine' Sy.iteNT ?_)
  | ((with_reducible show @ite Prop (@decide _ _ = true) _ _ _); (refine' Sy.iteDT ?h1 ?_); (case h1 => first | omega | rfl | (intro z; cases z)))
  | ((with_reducible show @ite Prop (@decide _ _ = true) _ _ _); (refine' Sy.iteDF ?h1 ?_); (case h1 => first | omega | rfl | (intro z; cases z)))
  | ((with_reducible show @ite Prop ((!@decide _ _) = true) _ _ _); (refine' Sy.iteND ?h1 ?_); (case h1 => first | omega | rfl | (intro z; cases z)))
  | ((with_reducible show @ite Prop ((!@decide _ _) = true) _ _ _); (refine' Sy.iteNDF ?h1 ?_); (case h1 => first | omega | rfl | (intro z; cases z)))
  | ((with_reducible show @ite Prop ((!false) = true) _ _ _); refine' Sy.iteNF ?_)
  | (with_reducible refine' Sy.ws_try ?_)
  | (with_reducible refine' Sy.wsx_drop (Sy.wx_call (Sy.wax_of ?_)))
  | (with_reducible refine' Sy.wsx_asg (Sy.wx_call (Sy.wax_of ?_)))
  | (with_reducible refine' Sy.wsx_ret (Sy.wx_call (Sy.wax_of ?_)))
  | (with_reducible refine' Sy.wsx_of ?_)
  | (refine ⟨_, rfl, ⟨_, rfl⟩, ?_⟩)
  | (refine ⟨_, rfl, ?_⟩)
  | (refine ⟨_, _, rfl, rfl, ?_⟩)
  | (refine ⟨_, _, rfl, ?_⟩)
  | ((refine' Sy.iteNo ?h1 ?_); (case h1 => (intro z; cases z)))
  | ((refine' Sy.iteYes ?h1 ?_); (case h1 => rfl)))
-- many steps
local macro_rules | `(tactic| walk_at "syd") => `(tactic| try dsimp only [List.set, List.length_cons, List.length_nil, Nat.reduceAdd, Sy.isNon, List.cons_append, List.nil_append, List.map, Bool.not_true, Bool.not_false, Sy.Ty.isInt, Sy.Ty.isBool, Sy.Ty.isStr, Sy.Ty.isList, Sy.Ty.isTuple, Sy.Ty.isSeq])
local macro_rules | `(tactic| walk_at "sy") => `(tactic| repeat ((walk_at "sy1"); (walk_at "syd")))
-- the start of a body
local macro_rules | `(tactic| walk_at "sy0") => `(tactic| dsimp only [L2.cxOf, List.length_cons, List.length_nil, Nat.reduceAdd, Nat.reduceSub, List.replicate, List.cons_append, List.nil_append])
-- a turn's end: the slots and the cells are said by the invariant
local macro_rules | `(tactic| walk_at "wkl") => `(tactic| repeat' first | exact trivial | refine ⟨.inl rfl, ?_⟩ | refine ⟨.inr rfl, ?_⟩)
local macro_rules | `(tactic| walk_at "lowl") => `(tactic| repeat' first | exact trivial | refine ⟨by omega, ?_⟩)
local macro_rules | `(tactic| walk_at "turn") => `(tactic| refine Sy.turn_q ⟨rfl, rfl⟩ (by walk_at "wkl") (by walk_at "lowl"))

namespace Kp
open PySem PySem.Spec L2 Sy
section
variable {Pg : Program} {w : World} {K : PySem.W.Frag} {mg : Str → Option Value} {base : Heap}
inductive OkW : Nat → PyData → Prop
  | none {m : Nat} : OkW m .none
  | bool {m : Nat} (b : Bool) : OkW m (.bool b)
  | int {m : Nat} (i : Int) : OkW m (.int i)
  | str {m : Nat} (z : Str) (h : (PyData.str z).canLay0 = true) : OkW m (.str z)
  | list {m : Nat} {xs : List PyData} (h : xs.length ≤ 20000) (a : ∀ x ∈ xs, OkW m x) : OkW (m + 1) (.list xs)
  | tuple {m : Nat} {xs : List PyData} (h : xs.length ≤ 20000) (a : ∀ x ∈ xs, OkW m x) : OkW (m + 1) (.tuple xs)
theorem OkW.okD {m : Nat} {d : PyData} (h : OkW m d) : okD m d := by
  induction h with
  | none => exact ⟨rfl, Nat.zero_le _⟩
  | bool b => exact ⟨rfl, Nat.zero_le _⟩
  | int i => exact ⟨rfl, Nat.zero_le _⟩
  | str z h => exact ⟨h, Nat.zero_le _⟩
  | list h a ih => exact .list ih
  | tuple h a ih => exact .tuple ih
theorem OkW.shaped {m : Nat} {d : PyData} (h : OkW m d) (hm : m ≤ 64) : SeqAt.shaped d = true := h.okD.shaped hm
def pr_mt (m : Nat) : Pr := prD fun ds d => ∃ k x, ds = [x, x] ∧ OkW k x ∧ k < m ∧ m ≤ 60 ∧ d = .bool true
theorem iteF' {A B : Prop} {b : Bool} (h : b = false) (q : B) : if b = true then A else B := by rw [h]; exact q
theorem fm_none {α β : Type} : ∀ (l : List α), l.filterMap (fun _ => (none : Option β)) = []
  | [] => rfl
  | _ :: l => fm_none l
theorem ok_mt (T : Txt K mg) : ∀ m, FnOk Pg w K mg base CX0 m T.f__law_matched T.d__law_matched ["found", "due"] (spS K (pr_mt m)) := by
  intro m
  induction m with
  | zero => exact ⟨fun vs H Q E ⟨_, _, _, _, _, _, ⟨_, _, _, _, ⟨_, _, _, _, h, _⟩, _⟩, _⟩ => absurd h (Nat.not_lt_zero _), fun _ _ _ _ _ _ _ _ _ _ _ _ _ ⟨_, _, _, _, _, _, ⟨_, _, _, _, ⟨_, _, _, _, h, _⟩, _⟩, _⟩ => absurd h (Nat.not_lt_zero _)⟩
  | succ m G =>
    refine ok_of _ T.F__law_matched sc__law_matched (hlenD fun ds d ⟨_, _, h, _⟩ => dlen h rfl) (fun cdv A outer s H E hr => ⟨_, (pss_cons (ps_if (PW.pt (pw_or (pt_val (pe_callB call_isi (by rfl) T.z_isinstance (by decide +kernel) (pa_cons (pv 0) (pa_cons (pe_bltn (v := .ty "bool") (u := .type "bool") (by rfl) T.z_bool (by decide +kernel) rfl) pa_nil)))) (pw_or1 (pt_val (pe_callB call_isi (by rfl) T.z_isinstance (by decide +kernel) (pa_cons (pv 1) (pa_cons (pe_bltn (v := .ty "bool") (u := .type "bool") (by rfl) T.z_bool (by decide +kernel) rfl) pa_nil))))))) (pss_one (ps_ret (pe_and (pe_callB call_isi (by rfl) T.z_isinstance (by decide +kernel) (pa_cons (pv 0) (pa_cons (pe_bltn (v := .ty "bool") (u := .type "bool") (by rfl) T.z_bool (by decide +kernel) rfl) pa_nil))) (pe_and (pe_callB call_isi (by rfl) T.z_isinstance (by decide +kernel) (pa_cons (pv 1) (pa_cons (pe_bltn (v := .ty "bool") (u := .type "bool") (by rfl) T.z_bool (by decide +kernel) rfl) pa_nil))) (pe_one (pe_cmpR (OpR.or op_eq (op_eqD hr.units)) (pv 0) (pv 1) (nomark _))))))) pss_nil) 
    (pss_cons (ps_if (PW.pt (pw_or (pt_cmpR (OpR.or op_ne (op_neD hr.units)) (pe_callB call_isi (by rfl) T.z_isinstance (by decide +kernel) (pa_cons (pv 0) (pa_cons (pe_bltn (v := .ty "list") (u := .type "list") (by rfl) T.z_list (by decide +kernel) rfl) pa_nil))) (pe_callB call_isi (by rfl) T.z_isinstance (by decide +kernel) (pa_cons (pv 1) (pa_cons (pe_bltn (v := .ty "list") (u := .type "list") (by rfl) T.z_list (by decide +kernel) rfl) pa_nil))) (nomark _)) (pw_or1 (pt_cmpR (OpR.or op_ne (op_neD hr.units)) (pe_callB call_isi (by rfl) T.z_isinstance (by decide +kernel) (pa_cons (pv 0) (pa_cons (pe_bltn (v := .ty "tuple") (u := .type "tuple") (by rfl) T.z_tuple (by decide +kernel) rfl) pa_nil))) (pe_callB call_isi (by rfl) T.z_isinstance (by decide +kernel) (pa_cons (pv 1) (pa_cons (pe_bltn (v := .ty "tuple") (u := .type "tuple") (by rfl) T.z_tuple (by decide +kernel) rfl) pa_nil))) (nomark _))))) (pss_one (ps_ret pe_bl)) pss_nil) 
    (pss_cons (ps_if (PW.pt (pw_or (pt_cmpR (OpR.or op_ne (op_neD hr.units)) (pe_callB call_isi (by rfl) T.z_isinstance (by decide +kernel) (pa_cons (pv 0) (pa_cons (pe_bltn (v := .ty "str") (u := .type "str") (by rfl) T.z_str (by decide +kernel) rfl) pa_nil))) (pe_callB call_isi (by rfl) T.z_isinstance (by decide +kernel) (pa_cons (pv 1) (pa_cons (pe_bltn (v := .ty "str") (u := .type "str") (by rfl) T.z_str (by decide +kernel) rfl) pa_nil))) (nomark _)) (pw_or1 (pt_cmpR (OpR.or op_ne (op_neD hr.units)) (pe_callB call_isi (by rfl) T.z_isinstance (by decide +kernel) (pa_cons (pv 0) (pa_cons (pe_bltn (v := .ty "int") (u := .type "int") (by rfl) T.z_int (by decide +kernel) rfl) pa_nil))) (pe_callB call_isi (by rfl) T.z_isinstance (by decide +kernel) (pa_cons (pv 1) (pa_cons (pe_bltn (v := .ty "int") (u := .type "int") (by rfl) T.z_int (by decide +kernel) rfl) pa_nil))) (nomark _))))) (pss_one (ps_ret pe_bl)) pss_nil) 
    (pss_cons (ps_if (pt_val (pe_callB call_isiT (by rfl) T.z_isinstance (by decide +kernel) (pa_cons (pv 1) (pa_cons (pe_tup (pa_cons (pe_bltn (v := .ty "list") (u := .type "list") (by rfl) T.z_list (by decide +kernel) rfl) (pa_cons (pe_bltn (v := .ty "tuple") (u := .type "tuple") (by rfl) T.z_tuple (by decide +kernel) rfl) pa_nil))) pa_nil)))) (pss_cons (ps_if (pt_cmpR (OpR.or op_ne (op_neD hr.units)) (pe_callB call_len (by rfl) T.z_len (by decide +kernel) (pa_cons (pv 0) pa_nil)) (pe_callB call_len (by rfl) T.z_len (by decide +kernel) (pa_cons (pv 1) pa_nil)) (nomark _)) (pss_one (ps_ret pe_bl)) pss_nil) 
    (pss_one (ps_ret (pe_cmpR (op_eqD hr.units) (pe_lc rfl sc__law_matched.nd (own := [("k", 2)]) (pi_range1 rfl T.z_range (pa_cons (pe_callB call_len (by rfl) T.z_len (by decide +kernel) (pa_cons (pv 1) pa_nil)) pa_nil)) (blkOk_by (own := [("k", 2)]) (N := N__law_matched) (sc := (defScope s__law_matched)) (by decide +kernel)) (fun _ _ _ _ _ => (pg_name (i := 2) sc__law_matched.nd rfl (.inl rfl))) (fun _ _ _ _ _ => (pts_one (pt_not (pt_val (pe_call G hr (by rfl) T.g__law_matched T.F__law_matched.kp T.B__law_matched .nil pass0 (pa_cons (pe_ix (ix_seqK (K := K) rfl) (pv 0) (pv 2) (fun _ _ => rfl)) (pa_cons (pe_ix (ix_seqK (K := K) rfl) (pv 1) (pv 2) (fun _ _ => rfl)) pa_nil))))))) (fun _ _ _ _ _ => (pv 2))) (pe_lst pa_nil) (nomark _))))) pss_nil) 
    (pss_one (ps_ret (pe_and (pe_cmpR (OpR.or op_eq (op_eqD hr.units)) (pe_cmpR op_isN (pv 0) pe_non (nomark _)) (pe_cmpR op_isN (pv 1) pe_non (nomark _)) (nomark _)) (pe_one (pe_cmpR (OpR.or op_eq (op_eqD hr.units)) (pv 0) (pv 1) (nomark _)))))))))), ?_⟩)
    walk_at "sy0"
    try dsimp only [N__law_matched, List.length_cons, List.length_nil, Nat.reduceAdd, Nat.reduceSub, List.replicate, List.cons_append, List.nil_append]
    rintro as cl Φ ⟨_, _, rfl, rfl, ⟨k, x, rfl, hx, hd, hm, rfl⟩, q⟩
    dsimp only [List.map]
    cases hx with
    | none => 
      walk_at "sy"
      exact q
    | bool b => 
      walk_at "sy"
      rw [decide_eq_true rfl]
      exact q
    | int i => 
      walk_at "sy"
      rw [decide_eq_true rfl]
      exact q
    | str z h => 
      walk_at "sy"
      rw [decide_eq_true rfl]
      exact q
    | @list k xs h a => 
      walk_at "sy"
      refine lc_map (fun _ => none) (wi_rng1 ?_)
      walk_at "sy"
      rw [Int.toNat_natCast]
      refine ⟨by rw [rngD_len]; omega, gk_name (by simp), fun i d hd => ?_, ?_⟩
      · obtain ⟨hi, rfl⟩ := rngD_get hd
        have e0 : (0 : Int) + (i : Int) = (i : Int) := by omega
        rw [e0]
        dsimp only [wipeS]
        walk_at "sy"
        refine wo_ixL rfl rfl (atI_nat (List.getElem?_eq_getElem hi)) ?_
        walk_at "sy"
        refine wo_ixL rfl rfl (atI_nat (List.getElem?_eq_getElem hi)) ?_
        walk_at "sy"
        refine ⟨_, call_dat rfl ⟨k, _, rfl, a _ (List.getElem_mem hi), by omega, by omega, rfl⟩ ?_⟩
        walk_at "sy"
      · rw [fm_none]
        walk_at "sy"
        refine wo_eqD rfl rfl (by decide) (by decide) ?_
        exact q
    | @tuple k xs h a => 
      walk_at "sy"
      refine lc_map (fun _ => none) (wi_rng1 ?_)
      walk_at "sy"
      rw [Int.toNat_natCast]
      refine ⟨by rw [rngD_len]; omega, gk_name (by simp), fun i d hd => ?_, ?_⟩
      · obtain ⟨hi, rfl⟩ := rngD_get hd
        have e0 : (0 : Int) + (i : Int) = (i : Int) := by omega
        rw [e0]
        dsimp only [wipeS]
        walk_at "sy"
        refine wo_ixT rfl rfl (atI_nat (List.getElem?_eq_getElem hi)) ?_
        walk_at "sy"
        refine wo_ixT rfl rfl (atI_nat (List.getElem?_eq_getElem hi)) ?_
        walk_at "sy"
        refine ⟨_, call_dat rfl ⟨k, _, rfl, a _ (List.getElem_mem hi), by omega, by omega, rfl⟩ ?_⟩
        walk_at "sy"
      · rw [fm_none]
        walk_at "sy"
        refine wo_eqD rfl rfl (by decide) (by decide) ?_
        exact q
abbrev letters : Str := Str.ofString "abcdefghijklmnopqrstuvwxyz"
def Low1 (z : Str) : Prop := ∀ c ∈ z.cps.toList, 97 ≤ c ∧ c ≤ 122
theorem letters_at {x : Nat} (h : x < 26) : atI letters.cps.toList (x : Int) = some (97 + x) := by
  refine atI_nat ?_
  have : ∀ k, k < 26 → letters.cps.toList[k]? = some (97 + k) := by decide +kernel
  exact this x h
theorem letters_len : letters.length = 26 := by decide +kernel
theorem app_len (a b : Str) : (a ++ b).length = a.length + b.length := by
  show (a.cps ++ b.cps).size = _
  rw [Array.size_append] <;> rfl
theorem app_list (a b : Str) : (a ++ b).cps.toList = a.cps.toList ++ b.cps.toList := by
  show (a.cps ++ b.cps).toList = _
  rw [Array.toList_append]
theorem low_app {a b : Str} (h1 : Low1 a) (h2 : Low1 b) : Low1 (a ++ b) := fun c hc => by
  rw [app_list] at hc
  rcases List.mem_append.mp hc with z | z
  · exact h1 c z
  · exact h2 c z
theorem low_sign {x : Nat} (h : x < 26) : Low1 ⟨#[97 + x]⟩ := fun c hc => by
  have : c ∈ [97 + x] := hc
  rw [List.mem_singleton.mp this]
  omega
theorem low_cut {z : Str} (h : Low1 z) (lo hi : Option Int) : Low1 (cutS z lo hi) := fun c hc =>
  h c (List.mem_of_mem_drop (List.mem_of_mem_take (show c ∈ List.take _ (List.drop _ z.cps.toList) from hc)))
theorem slen (z : Str) : z.cps.toList.length = z.length := rfl
theorem cut_len {z : Str} {lo hi : Option Int} : (cutS z lo hi).length = min (HT.sIx z.length z.length hi - HT.sIx z.length 0 lo) (z.length - HT.sIx z.length 0 lo) := by
  show (List.take _ (List.drop _ z.cps.toList)).length = _
  rw [List.length_take, List.length_drop, slen]
theorem cut7 {z : Str} : (cutS z none (some 7)).length = min 7 z.length := by
  rw [cut_len, HT.sIx_none, show (7 : Int) = ((7 : Nat) : Int) from rfl, HT.sIx_nat]
  omega
theorem cut1 {z : Str} : (cutS z none (some (-1))).length = z.length - 1 := by
  rw [cut_len, HT.sIx_none]
  show min (((-1 : Int) + (z.length : Int)).toNat - 0) (z.length - 0) = _
  omega
theorem glue0 : ∀ (zs : List Str) (acc : Array Nat), (zs.foldl (fun acc p => acc ++ (Str.ofString "").cps ++ p.cps) acc).toList = acc.toList ++ (zs.map fun z => z.cps.toList).flatten
  | [], acc => by rw [List.foldl_nil, List.map_nil, List.flatten_nil, List.append_nil]
  | z :: zs, acc => by
    have e : (Str.ofString "").cps = #[] := by decide +kernel
    rw [List.foldl_cons, glue0 zs, List.map_cons, List.flatten_cons, e]
    simp
theorem join0 (zs : List Str) : (Txt.join (Str.ofString "") zs).cps.toList = (zs.map fun z => z.cps.toList).flatten := by
  cases zs with
  | nil =>
    show (Str.empty).cps.toList = []
    rfl
  | cons z zs =>
    show ((zs.foldl (fun acc p => acc ++ (Str.ofString "").cps ++ p.cps) z.cps)).toList = _
    rw [glue0, List.map_cons, List.flatten_cons]
theorem join1 {zs : List Str} (h : ∀ z ∈ zs, z.length = 1 ∧ Low1 z) : (Txt.join (Str.ofString "") zs).length = zs.length ∧ Low1 (Txt.join (Str.ofString "") zs) := by
  constructor
  · rw [← slen, join0]
    induction zs with
    | nil => rfl
    | cons z zs ih =>
      rw [List.map_cons, List.flatten_cons, List.length_append, ih fun y hy => h y (List.mem_cons_of_mem _ hy), slen, (h z List.mem_cons_self).1, List.length_cons]
      omega
  · intro c hc
    rw [join0] at hc
    obtain ⟨l, hl, hc⟩ := List.mem_flatten.mp hc
    obtain ⟨z, hz, rfl⟩ := List.mem_map.mp hl
    exact (h z hz).2 c hc
theorem sum1 {zs : List Str} (h : ∀ z ∈ zs, z.length = 1 ∧ Low1 z) : (zs.map (·.length)).sum = zs.length := by
  induction zs with
  | nil => rfl
  | cons z zs ih =>
    rw [List.map_cons, List.sum_cons, ih fun y hy => h y (List.mem_cons_of_mem _ hy), (h z List.mem_cons_self).1, List.length_cons]
    omega
def strsD (zs : List Str) : List PyData := zs.map .str
theorem strsD_flat (zs : List Str) : (strsD zs).all flatD = true := by
  rw [List.all_eq_true]
  intro d hd
  obtain ⟨p, _, rfl⟩ := List.mem_map.mp hd
  rfl
theorem inD_str {z : Str} {zs : List Str} : inD (.str z) (strsD zs) = decide (z ∈ zs) := by
  unfold inD strsD
  rw [List.any_map]
  induction zs with
  | nil => simp
  | cons a l ih =>
    rw [List.any_cons, ih]
    show ((a == z) || decide (z ∈ l)) = decide (z ∈ a :: l)
    by_cases h : z = a
    · simp [h]
    · have : ¬ a = z := fun q => h q.symm
      simp [h, this]
theorem spare_one : ∀ (xs : List Str), xs.length < 26 → ∃ k, k < 26 ∧ ∀ z ∈ xs, z.cps.toList.head? ≠ some (97 + k) := by
  intro xs h
  refine Classical.byContradiction fun hn => ?_
  have all : ∀ k, k < 26 → (97 + k) ∈ xs.filterMap fun z => z.cps.toList.head? := fun k hk => by
    refine Classical.byContradiction fun hx => hn ⟨k, hk, fun z hz e => hx (List.mem_filterMap.mpr ⟨z, hz, e⟩)⟩
  have sub : (List.range 26).map (97 + ·) ⊆ xs.filterMap fun z => z.cps.toList.head? := fun c hc => by
    obtain ⟨k, hk, rfl⟩ := List.mem_map.mp hc
    exact all k (List.mem_range.mp hk)
  have nd : ((List.range 26).map (97 + ·)).Nodup := by decide +kernel
  have l1 := nd.length_le_of_subset sub
  have l2 := List.length_filterMap_le (fun z : Str => z.cps.toList.head?) xs
  rw [List.length_map, List.length_range] at l1
  omega
theorem ws_mid {sl : List SD} {cl : List Cell} {ts : TS} {E : SE} (P : List SD → List Cell → Prop) (h : WpS K ts sl cl { E with nx := P }) (k : ∀ sl' cl', P sl' cl' → E.nx sl' cl') : WpS K ts sl cl E := by
  intro A B ls τ σ H D s e
  exact h A B ls τ σ H D s ⟨fun σ' H' sl' cl' ls' p f s' => e.nx σ' H' sl' cl' ls' p (k sl' cl' f) s', e.rt, e.bk, e.ct⟩
theorem low_ok {z : Str} (h : Low1 z) : okD 0 (.str z) := by
  refine ⟨?_, Nat.le_refl _⟩
  show z.cps.all (fun c => decide (c < 0x110000)) = true
  rw [Array.all_eq_true']
  intro c hc
  have := h c (by simpa using hc)
  exact decide_eq_true (by omega)
theorem ixN_m1 {n : Nat} (h : 0 < n) : ixN n (-1) = some (n - 1) := by
  unfold ixN
  rw [if_neg (by omega), if_pos (by omega)]
  congr 1
  omega
theorem strsD_ok {zs : List Str} (h : ∀ z ∈ zs, Low1 z) : okD 1 (.list (strsD zs)) := okD.list fun x hx => by
  obtain ⟨p, hp, rfl⟩ := List.mem_map.mp hx
  exact low_ok (h p hp)
def spW (sg i t : Nat) : Str := (⟨#[97 + (sg + t) % 26]⟩ : Str) ++ ⟨#[97 + i]⟩
def spF (sg i : Nat) : PyData → Option PyData | .int t => some (.str (spW sg i t.toNat)) | _ => none
def spL (sg i : Nat) : List Str := (List.range 26).map (spW sg i)
theorem spL_eq {sg i : Nat} : (rngD 0 26).filterMap (spF sg i) = strsD (spL sg i) := by
  unfold rngD strsD spL
  rw [List.filterMap_map, List.map_map, ← List.filterMap_eq_map]
  congr 1
  funext t
  show some (PyData.str (spW sg i ((0 : Int) + (t : Int)).toNat)) = some (PyData.str (spW sg i t))
  rw [Int.zero_add, Int.toNat_natCast]
theorem spL_key {sg i : Nat} (h1 : sg < 26) (h2 : i < 26) : ∀ w ∈ spL sg i, Key1 w := fun w hw => by
  obtain ⟨t, _, rfl⟩ := List.mem_map.mp hw
  unfold spW
  refine ⟨?_, ?_, low_app (low_sign (Nat.mod_lt _ (by decide))) (low_sign h2)⟩
  · rw [app_len]; show 1 ≤ 1 + 1; decide
  · rw [app_len]; show 1 + 1 ≤ 8; decide
def freeF (zs : List Str) : PyData → Option PyData | .str z => if decide (z ∈ zs) = true then none else some (.str z) | _ => none
theorem free_eq (zs : List Str) : ∀ ws : List Str, (strsD ws).filterMap (freeF zs) = strsD (ws.filter fun z => !decide (z ∈ zs))
  | [] => rfl
  | w :: ws => by
    unfold strsD at *
    have ih := free_eq zs ws
    unfold strsD at ih
    rw [List.map_cons, List.filter_cons]
    by_cases h : w ∈ zs
    · rw [List.filterMap_cons_none (by show (if decide (w ∈ zs) = true then none else some (PyData.str w)) = none; rw [if_pos (decide_eq_true h)]), ih, if_neg (by simp [h])]
    · rw [List.filterMap_cons_some (by show (if decide (w ∈ zs) = true then none else some (PyData.str w)) = some (.str w); rw [if_neg (by simp [h])]), ih, if_pos (by simp [h]), List.map_cons]
theorem free_one {sg i : Nat} {zs : List Str} (hs : sg < 26) (h : zs.length < 26) : ∃ w ∈ spL sg i, w ∉ zs ∧ atI ((strsD (spL sg i)).filterMap (freeF zs)) 0 = some (.str w) := by
  obtain ⟨k, hk, hz⟩ := spare_one zs h
  have hm : spW sg i ((k + 26 * 26 - sg) % 26) ∈ spL sg i := List.mem_map.mpr ⟨_, List.mem_range.mpr (Nat.mod_lt _ (by decide)), rfl⟩
  have hn : spW sg i ((k + 26 * 26 - sg) % 26) ∉ zs := fun hin => hz _ hin (by
    unfold spW
    rw [app_list]
    show some (97 + (sg + (k + 26 * 26 - sg) % 26) % 26) = some (97 + k)
    have : (sg + (k + 26 * 26 - sg) % 26) % 26 = k := by omega
    rw [this])
  have hf : spW sg i ((k + 26 * 26 - sg) % 26) ∈ (spL sg i).filter fun z => !decide (z ∈ zs) := List.mem_filter.mpr ⟨hm, by simp [hn]⟩
  rw [free_eq]
  cases hl : (spL sg i).filter fun z => !decide (z ∈ zs) with
  | nil => rw [hl] at hf; cases hf
  | cons w l =>
    refine ⟨w, (List.mem_filter.mp (hl ▸ List.mem_cons_self : w ∈ (spL sg i).filter fun z => !decide (z ∈ zs))).1, ?_, ?_⟩
    · have := (List.mem_filter.mp (hl ▸ List.mem_cons_self : w ∈ (spL sg i).filter fun z => !decide (z ∈ zs))).2
      simpa using this
    exact atI_nat (j := 0) rfl
def prCO (w : List PyData → Nat) (R : List PyData → List PyData → Prop) : Pr := fun as cl Φ => ∃ ds n c, as = .own 0 :: ds.map .dat ∧ cl = [c] ∧ Crate n c ∧ n + w ds ≤ 1000000 ∧ (∃ es, R ds es) ∧ ∀ es c', R ds es → Crate (n + w ds) c' → Φ (.own 1) [c', .lst es]
theorem hlenCO {w : List PyData → Nat} {n : Nat} {R : List PyData → List PyData → Prop} (h : ∀ ds d, R ds d → ds.length = n) : ∀ as cl Φ, prCO w R as cl Φ → as.length = n + 1 := fun as cl Φ ⟨ds, _, _, e, _, _, _, ⟨d, r⟩, _⟩ => by rw [e, List.length_cons, List.length_map, h _ _ r]
theorem call_drawO {sl : List SD} {cl : List Cell} {Φ : SD → List Cell → Prop} {rs : List SD} {ds : List PyData} {k n : Nat} {w : List PyData → Nat} {c : Cell} {R : List PyData → List PyData → Prop} (e : dats rs = some ds) (hk : cl[k]? = some c) (hc : Crate n c) (hn : n + w ds ≤ 1000000) (hx : ∃ es, R ds es) (q : ∀ es c', R ds es → Crate (n + w ds) c' → Φ (.own cl.length) (cl.set k c' ++ [.lst es])) : CallOk (prCO w R) (.own k :: rs) sl cl [k] Φ := by
  refine ⟨by simp, fun j hj => ?_, .own 0 :: ds.map .dat, ?_, ds, n, c, rfl, ?_, hc, hn, hx, fun d c' hd hc' => ⟨by simp, ?_⟩⟩
  · rw [List.mem_singleton.mp hj]; exact (List.getElem?_eq_some_iff.mp hk).1
  · unfold remaps
    rw [remap1 e]
    have : remap [k] (.own k) = some (.own 0) := by
      show ([k].idxOf? k).map SD.own = _
      rw [show [k].idxOf? k = some 0 by simp [List.idxOf?]] <;> rfl
    rw [this]
  · show [(cl[k]?).getD .dead] = [c]
    rw [hk] <;> rfl
  · exact q d c' hd hc'
def namesW : List PyData → Nat
  | .int m :: _ => 20 * m.toNat
  | _ => 0
def pr__law_names : Pr := prCO namesW fun ds es => ∃ (m : Nat), ds = [.int (m : Int)] ∧ m ≤ 20 ∧ ∃ zs : List Str, es = strsD zs ∧ zs.length = m ∧ (∀ z ∈ zs, Key1 z) ∧ zs.Nodup
def nmInv (m n : Nat) (i : Nat) (sl : List SD) (cl : List Cell) : Prop := ∃ zs c, sl = [.own 0, .dat (.int (m : Int)), .dat (.str letters), .own 1, .unk, .unk, .unk, .unk, .unk, .unk, .unk] ∧
  cl = [c, .lst (strsD zs)] ∧ zs.length = i ∧ (∀ z ∈ zs, Key1 z) ∧ zs.Nodup ∧ Crate (n + 20 * i) c
theorem ok__law_names (T : Txt K mg) : FnOk Pg w K mg base CX0 2 T.f__law_names T.d__law_names ["crate", "many"] (spS K pr__law_names) := by
  refine ok_of _ T.F__law_names sc__law_names (hlenCO (n := 1) fun ds d ⟨_, h, _⟩ => dlen h rfl) (fun cdv A outer s H E hr => ⟨_, (pss_cons (ps_asg (pe_tup (pa_cons pe_str (pa_cons (pe_lst pa_nil) pa_nil))) (pg_tup rfl (pgs_cons (pg_name (i := 2) sc__law_names.nd rfl (.inr rfl)) (pgs_cons (pg_name (i := 3) sc__law_names.nd rfl (.inr rfl)) pgs_nil)))) 
    (pss_cons (ps_for PassesOwn.never rfl (pi_range1 rfl T.z_range (pa_cons (pv 1) pa_nil)) (pg_name (i := 4) sc__law_names.nd rfl (.inr rfl))
    (pss_cons (ps_asg (pe_tup (pa_cons (pe_ix ix_seq (pe_lst (pa_cons pe_int (pa_cons pe_int (pa_cons (pe_call (ok__law_grab T) (hr.mono (by decide)) (by rfl) T.g__law_grab T.F__law_grab.kp T.B__law_grab .nil pass0 (pa_cons (pv 0) (pa_cons pe_int pa_nil))) pa_nil)))) (pe_call (ok__law_grab T) (hr.mono (by decide)) (by rfl) T.g__law_grab T.F__law_grab.kp T.B__law_grab .nil pass0 (pa_cons (pv 0) (pa_cons pe_int pa_nil))) (fun _ _ => rfl)) (pa_cons (pe_call (ok__law_grab T) (hr.mono (by decide)) (by rfl) T.g__law_grab T.F__law_grab.kp T.B__law_grab .nil pass0 (pa_cons (pv 0) (pa_cons pe_int pa_nil))) pa_nil))) (pg_tup rfl (pgs_cons (pg_name (i := 5) sc__law_names.nd rfl (.inl rfl)) (pgs_cons (pg_name (i := 6) sc__law_names.nd rfl (.inr rfl)) pgs_nil)))) 
    (pss_cons (ps_set (i := 7) sc__law_names.nd rfl (.inl rfl) (pe_op (OpR.or op_add (OpR.or op_cat op_add_str)) (pe_ix ix_seq (pv 2) (pv 6) (fun _ _ => rfl)) (pe_join pe_str (pe_lc rfl sc__law_names.nd (own := [("turn", 9)]) (pi_range1 rfl T.z_range (pa_cons (pv 5) pa_nil)) (blkOk_by (own := [("turn", 9)]) (N := N__law_names) (sc := (defScope s__law_names)) (by decide +kernel)) (fun _ _ _ _ _ => (pg_name (i := 9) sc__law_names.nd rfl (.inl rfl))) (fun _ _ _ _ _ => pts_nil) (fun _ _ _ _ _ => (pe_ix (ix_seqK (K := K) rfl) (pv 2) (pe_call (ok__law_grab T) (hr.mono (by decide)) (by rfl) T.g__law_grab T.F__law_grab.kp T.B__law_grab .nil pass0 (pa_cons (pv 0) (pa_cons pe_int pa_nil))) (fun _ _ => rfl))))))) 
    (pss_cons (ps_if (PW.pt (pw_and (pt_cmpR (op_neD hr.units) (pv 3) (pe_lst pa_nil) (nomark _)) (pw_and1 (pt_cmpR op_eq (pe_call (ok__law_grab T) (hr.mono (by decide)) (by rfl) T.g__law_grab T.F__law_grab.kp T.B__law_grab .nil pass0 (pa_cons (pv 0) (pa_cons pe_int pa_nil))) pe_int (nomark _))))) (pss_one (ps_set (i := 7) sc__law_names.nd rfl (.inl rfl) (pe_ix ix_seq (pe_lst (pa_cons (pe_op (OpR.or op_add (OpR.or op_cat op_add_str)) (pe_slice (SlR.or sl_list sl_str) (pe_ix ix_seq (pv 3) (pe_un un_neg pe_int) (fun _ _ => rfl)) po_none (po_some pe_int)) (pe_ix ix_seq (pv 2) (pv 6) (fun _ _ => rfl))) (pa_cons (pe_op (OpR.or op_add (OpR.or op_cat op_add_str)) (pe_slice (SlR.or sl_list sl_str) (pe_ix ix_seq (pv 3) (pe_un un_neg pe_int) (fun _ _ => rfl)) po_none (po_some (pe_un un_neg pe_int))) (pe_ix ix_seq (pv 2) (pv 6) (fun _ _ => rfl))) pa_nil))) (pe_call (ok__law_grab T) (hr.mono (by decide)) (by rfl) T.g__law_grab T.F__law_grab.kp T.B__law_grab .nil pass0 (pa_cons (pv 0) (pa_cons pe_int pa_nil))) (fun _ _ => rfl)))) pss_nil) 
    (pss_cons (ps_setLc (i := 8) rfl sc__law_names.nd rfl rfl (sw_true rfl rfl rfl (by decide +kernel)) (own := [("turn", 9)]) (pi_range1 rfl T.z_range (pa_cons pe_int pa_nil)) (blkOk_by (own := [("turn", 9)]) (N := N__law_names) (sc := (defScope s__law_names)) (by decide +kernel)) (fun _ _ _ _ _ => (pg_name (i := 9) sc__law_names.nd rfl (.inl rfl))) (fun _ _ _ _ _ => pts_nil) (fun _ _ _ _ _ => (pe_op (OpR.or op_add (OpR.or op_cat op_add_str)) (pe_ix (ix_seqK (K := K) rfl) (pv 2) (pe_op op_mod (pe_op (OpR.or op_add (OpR.or op_cat op_add_str)) (pv 6) (pv 9)) pe_int) (fun _ _ => rfl)) (pe_ix (ix_seqK (K := K) rfl) (pv 2) (pv 4) (fun _ _ => rfl))))) 
    (pss_one (ps_expr (pe_bm PySem.F.plainAttrs_list PySem.F.slot_list_append PySem.F.type_list_append mt_append (pv 3) (pa_cons (pe_ifExp (pt_cmpR op_notIn_seq (pv 7) (pv 3) (by rfl)) (pv 7) (pe_ix ix_seq (pe_lc rfl sc__law_names.nd (own := [("word", 10)]) (pi_list (pv 8)) (blkOk_by (own := [("word", 10)]) (N := N__law_names) (sc := (defScope s__law_names)) (by decide +kernel)) (fun _ _ _ _ _ => (pg_name (i := 10) sc__law_names.nd rfl (.inl rfl))) (fun _ _ _ _ _ => (pts_one (pt_cmpR (op_notIn_seqK (K := K) rfl) (pv 10) (pv 3) (by rfl)))) (fun _ _ _ _ _ => (pv 10))) pe_int (fun _ _ => rfl))) pa_nil))))))))) 
    (pss_one (ps_ret (pv 3))))), ?_⟩)
  walk_at "sy0"
  try dsimp only [N__law_names, List.length_cons, List.length_nil, Nat.reduceAdd, Nat.reduceSub, List.replicate, List.cons_append, List.nil_append]
  rintro as cl Φ ⟨ds, n, c, rfl, rfl, hc, hn, ⟨_, m, rfl, hm, _⟩, q⟩
  dsimp only [List.map, namesW] at hn q ⊢
  rw [Int.toNat_natCast] at hn q
  refine ws_seq (ws_par2 rfl ?_)
  refine wa_cons (wp_c rfl (wa_cons (wp_lstO (wa_nil ⟨[], rfl, by simp, wa_nil ⟨_, _, rfl, ?_⟩⟩))))
  walk_at "sy"
  refine ws_seq (ws_for (wi_rng1 ?_))
  walk_at "sy"
  rw [Int.toNat_natCast]
  refine ⟨nmInv m n, ⟨[], c, rfl, rfl, rfl, (fun z hz => by cases hz), List.nodup_nil, hc⟩, fun i d sl' cl' hd hI hcl => ?_, fun sl' cl' hI hcl => ?_⟩
  · obtain ⟨hi, rfl⟩ := rngD_get hd
    obtain ⟨zs, c0, rfl, rfl, hl0, hz, hnd0, hc0⟩ := hI
    have e0 : (0 : Int) + (i : Int) = (i : Int) := by omega
    rw [e0]
    refine wg_name ?_
    walk_at "syd"
    refine ws_seq (ws_par2 rfl ?_)
    walk_at "sy"
    refine grab_ok rfl hc0 (by omega) (by omega) (by omega) fun x1 c1 hx1 hc1 => ?_
    walk_at "sy"
    refine grab_ok rfl hc1 (by omega) (by omega) (by omega) fun x2 c2 hx2 hc2 => ?_
    walk_at "sy"
    have hsz : ∃ sz : Nat, sz ≤ 7 ∧ atI [PyData.int 0, PyData.int 1, PyData.int (x1 : Int)] (x2 : Int) = some (.int (sz : Int)) := by
      match x2, hx2 with
      | 0, _ => exact ⟨0, by omega, rfl⟩
      | 1, _ => exact ⟨1, by omega, rfl⟩
      | 2, _ => exact ⟨x1, by omega, rfl⟩
      | k + 3, h => omega
    obtain ⟨sz, hsz, hat⟩ := hsz
    walk_at "sy"
    refine grab_ok rfl hc2 (by omega) (by omega) (by omega) fun sg c3 hsg hc3 => ?_
    walk_at "sy"
    have hsg : sg < 26 := by omega
    refine wo_ixS rfl rfl (by rw [letters_len]; omega) (letters_at hsg) ?_
    walk_at "sy"
    refine lc_raw (own := false) (wi_rng1 ?_)
    walk_at "sy"
    rw [Int.toNat_natCast]
    refine ⟨by rw [rngD_len]; omega, gk_name (by simp), fun j acc cl' => ∃ c ws, cl' = [c, .lst (strsD zs)] ∧ Crate (n + 20 * i + 3 + j) c ∧ acc = strsD ws ∧ ws.length = j ∧ ∀ z ∈ ws, z.length = 1 ∧ Low1 z, ⟨c3, [], rfl, hc3, rfl, rfl, fun z hz => by cases hz⟩, fun j d acc cl' hd hI ha hl => ?_, fun acc cl' hI ha hl => ?_⟩
    · obtain ⟨hj, rfl⟩ := rngD_get hd
      obtain ⟨c4, ws, rfl, hc4, rfl, hw, hw1⟩ := hI
      dsimp only [wipeS]
      walk_at "sy"
      refine grab_ok rfl hc4 (by omega) (by omega) (by omega) fun x c5 hx hc5 => ?_
      refine wo_ixS rfl rfl (by rw [letters_len]; omega) (letters_at (by omega)) ?_
      walk_at "sy"
      refine ⟨c5, ws ++ [⟨#[97 + x]⟩], rfl, hc5.mono (by omega), ?_, ?_, fun z hz => ?_⟩
      · unfold strsD
        rw [List.map_append] <;> rfl
      · rw [List.length_append, hw] <;> rfl
      · rcases List.mem_append.mp hz with q | q
        · exact hw1 z q
        · rw [List.mem_singleton.mp q]
          exact ⟨rfl, low_sign (by omega)⟩
    obtain ⟨c4, ws, rfl, hc4, rfl, hw, hw1⟩ := hI
    rw [rngD_len] at hw hc4
    have hj := join1 hw1
    refine ⟨ws, rfl, by rw [sum1 hw1]; have : (Str.ofString "").length = 0 := by decide +kernel
                        rw [this]; omega, ?_⟩
    have l1 : (⟨#[97 + sg]⟩ : Str).length = 1 := rfl
    refine wo_inr (wo_inr (wo_addS rfl rfl (by rw [hj.1, l1]; omega) (wg_name ?_)))
    walk_at "syd"
    have key0 : Key1 ((⟨#[97 + sg]⟩ : Str) ++ Txt.join (Str.ofString "") ws) := ⟨by rw [app_len, l1]; omega, by rw [app_len, l1, hj.1]; omega, low_app (low_sign hsg) hj.2⟩
    generalize ((⟨#[97 + sg]⟩ : Str) ++ Txt.join (Str.ofString "") ws) = nm0 at key0 ⊢
    refine ws_seq (ws_mid (fun sl2 cl2 => ∃ nm c, Key1 nm ∧ Crate (n + 20 * (i + 1)) c ∧ sl2 = [.own 0, .dat (.int (m : Int)), .dat (.str letters), .own 1, .dat (.int (i : Int)), .dat (.int (sz : Int)), .dat (.int (sg : Int)), .dat (.str nm), .unk, .unk, .unk] ∧ cl2 = [c, .lst (strsD zs)]) ?_ ?_)
    · refine ws_if (wp_and (wp_test ?_))
      walk_at "sy"
      refine wo_neD rfl rfl ((strsD_ok fun z h => (hz z h).2.2).shaped (by decide)) rfl ?_
      walk_at "sy"
      rw [eqv_nil]
      refine iteB (fun hne => ?_) (fun hne => ?_)
      · walk_at "sy"
        refine grab_ok rfl hc4 (by omega) (by omega) (by omega) fun x5 c5 hx5 hc5 => ?_
        walk_at "sy"
        refine iteD (fun hz0 => ?_) (fun hz0 => ?_)
        · have hzne : 0 < zs.length := by
            cases zs with
            | nil => cases hne
            | cons a l => exact Nat.succ_pos _
          have hlast : atI (strsD zs) (-1) = some (.str (zs[zs.length - 1]'(by omega))) := by
            unfold atI strsD
            rw [List.length_map, ixN_m1 hzne]
            show (List.map PyData.str zs)[zs.length - 1]? = _
            rw [List.getElem?_map, List.getElem?_eq_getElem (show zs.length - 1 < zs.length by omega)] <;> rfl
          have kl := hz _ (List.getElem_mem (show zs.length - 1 < zs.length by omega))
          generalize (zs[zs.length - 1]'(by omega)) = nl at kl hlast
          have lsg : (⟨#[97 + sg]⟩ : Str).length = 1 := rfl
          obtain ⟨kl1, kl2, kl3⟩ := kl
          walk_at "sy"
          refine wsl_inr (wsl_str rfl (by omega) ?_)
          walk_at "sy"
          refine wo_ixS rfl rfl (by rw [letters_len]; omega) (letters_at hsg) ?_
          refine wo_inr (wo_inr (wo_addS rfl rfl (by rw [cut7, lsg]; omega) ?_))
          walk_at "sy"
          refine wsl_inr (wsl_str rfl (by omega) ?_)
          walk_at "sy"
          refine wo_ixS rfl rfl (by rw [letters_len]; omega) (letters_at hsg) ?_
          refine wo_inr (wo_inr (wo_addS rfl rfl (by rw [cut1, lsg]; omega) ?_))
          walk_at "sy"
          refine grab_ok rfl hc5 (by omega) (by omega) (by omega) fun x6 c6 hx6 hc6 => ?_
          obtain ⟨nm1, kn1, hat1⟩ : ∃ nm1, Key1 nm1 ∧ atI [PyData.str (cutS nl none (some 7) ++ ⟨#[97 + sg]⟩), PyData.str (cutS nl none (some (-1)) ++ ⟨#[97 + sg]⟩)] (x6 : Int) = some (.str nm1) := by
            match x6, hx6 with
            | 0, _ => exact ⟨_, ⟨by rw [app_len, cut7, lsg]; omega, by rw [app_len, cut7, lsg]; omega, low_app (low_cut kl3 _ _) (low_sign hsg)⟩, rfl⟩
            | 1, _ => exact ⟨_, ⟨by rw [app_len, cut1, lsg]; omega, by rw [app_len, cut1, lsg]; omega, low_app (low_cut kl3 _ _) (low_sign hsg)⟩, rfl⟩
            | k + 2, h => omega
          walk_at "sy"
          exact ⟨nm1, c6, kn1, hc6.mono (by omega), rfl, rfl⟩
        · walk_at "sy"
          exact ⟨nm0, c5, key0, hc5.mono (by omega), rfl, rfl⟩
      · walk_at "sy"
        exact ⟨nm0, c4, key0, hc4.mono (by omega), rfl, rfl⟩
    · rintro _ _ ⟨nm, c5, key, hc5, rfl, rfl⟩
      have hi26 : i < 26 := by omega
      refine ws_seq (ws_asg (lc_map (spF sg i) (wi_rng1 ?_)))
      walk_at "sy"
      refine ⟨gk_name (by simp), fun j d hd => ?_, ?_⟩
      · obtain ⟨hj, rfl⟩ := rngD_get hd
        have hj : j < 26 := hj
        dsimp only [wipeS]
        walk_at "sy"
        have em : ((sg : Int) + (0 + (j : Int))) % 26 = (((sg + j) % 26 : Nat) : Int) := by omega
        rw [em]
        refine wo_ixS rfl rfl (by rw [letters_len]; omega) (letters_at (by omega)) ?_
        walk_at "sy"
        refine wo_ixS rfl rfl (by rw [letters_len]; omega) (letters_at hi26) ?_
        refine wo_inr (wo_inr (wo_addS rfl rfl (by show 1 + 1 ≤ _; decide) ?_))
        refine ⟨_, rfl, rfl, ?_⟩
        show some (PyData.str (spW sg i ((0 : Int) + (j : Int)).toNat)) = _
        rw [Int.zero_add, Int.toNat_natCast] <;> rfl
      · rw [show (26 : Int).toNat = 26 from rfl, spL_eq]
        refine wg_name ?_
        walk_at "syd"
        have fin : ∀ w, Key1 w → w ∉ zs → turnNx 2 (nmInv m n) i [.own 0, .dat (.int (m : Int)), .dat (.str letters), .own 1, .dat (.int (i : Int)), .dat (.int (sz : Int)), .dat (.int (sg : Int)), .dat (.str nm), .dat (.list (strsD (spL sg i))), .unk, .unk] [c5, .lst (strsD zs ++ [.str w])] := fun w kw kn => by
          refine turn_of [.own 0, .dat _, .dat _, .own 1, .unk, .unk, .unk, .unk, .unk, .unk, .unk] ⟨.inl rfl, .inl rfl, .inl rfl, .inl rfl, .inr rfl, .inr rfl, .inr rfl, .inr rfl, .inr rfl, .inl rfl, .inl rfl, trivial⟩ ⟨by omega, by omega, trivial⟩ ⟨zs ++ [w], c5, rfl, ?_, ?_, fun z hz' => ?_, by rw [List.nodup_append]; exact ⟨hnd0, by simp, fun a ha b hb => by rw [List.mem_singleton.mp hb]; exact fun z => kn (z ▸ ha)⟩, hc5⟩
          · show [c5, _] = [c5, _]
            unfold strsD
            rw [List.map_append] <;> rfl
          · rw [List.length_append, hl0] <;> rfl
          · rcases List.mem_append.mp hz' with q | q
            · exact hz z q
            · rw [List.mem_singleton.mp q]; exact kw
        have hlz : (strsD zs).length = i := by unfold strsD; rw [List.length_map, hl0]
        walk_at "sy"
        refine wo_in rfl rfl rfl (strsD_flat zs) ?_
        rw [inD_str]
        walk_at "sy"
        refine iteNDD (fun h1 => ?_) (fun h1 => ?_)
        · walk_at "sy"
          exact fin nm key h1
        · walk_at "sy"
          refine lc_map (freeF zs) (wi_list ?_)
          walk_at "sy"
          refine ⟨by unfold strsD spL; rw [List.length_map, List.length_map, List.length_range]; decide, gk_name (by simp), fun j d hd => ?_, ?_⟩
          · obtain ⟨w, hw, rfl⟩ := List.mem_map.mp (List.mem_of_getElem? hd)
            dsimp only [wipeS]
            walk_at "sy"
            refine wo_in rfl rfl rfl (strsD_flat zs) ?_
            rw [inD_str]
            have eF : freeF zs (.str w) = if decide (w ∈ zs) = true then none else some (.str w) := rfl
            walk_at "sy"
            refine iteNDD (fun h2 => ?_) (fun h2 => ?_)
            · walk_at "sy"
              rw [eF, decide_eq_false h2] <;> rfl
            · rw [eF, decide_eq_true h2] <;> rfl
          · obtain ⟨w, hw, hw2, hat0⟩ := free_one (sg := sg) (i := i) (zs := zs) hsg (by omega)
            walk_at "sy"
            exact fin w (spL_key hsg hi26 w hw) hw2
  · obtain ⟨zs, c0, rfl, rfl, hl0, hz, hnd0, hc0⟩ := hI
    rw [rngD_len] at hl0 hc0
    refine ws_next ?_
    walk_at "sy"
    exact q _ _ ⟨m, rfl, hm, zs, rfl, hl0, hz, hnd0⟩ hc0
end
end Kp
end

section
-- conditions of operations on ints
local macro_rules | `(tactic| walk_at "syc") => `(tactic| first
  | exact Sy.cpow (by decide) (by decide)
  | exact Sy.mul_l (by omega) (by omega)
  | exact Sy.mul_r (by omega) (by omega)
  | exact Sy.fdiv_ok (by omega) (by omega)
  | ((show (0 : Int) < _); first | omega | (simp only [Sy.pow12, Sy.pow18, Sy.pow29, Sy.pow38, Sy.pow39, Sy.pow40]; omega)))
-- one step of the symbolic run
local macro_rules | `(tactic| walk_at "sy1") => `(tactic| first
  | with_reducible refine' Sy.ws_seq ?_
  | (with_reducible refine' Sy.ws_setI ?_)
  | (with_reducible refine' Sy.ws_asg ?_)
  | with_reducible refine' Sy.ws_ret (Sy.wp_lstO ?_)
  | with_reducible refine' Sy.ws_ret ?_
  | with_reducible refine' Sy.ws_if ?_
  | with_reducible refine' Sy.ws_drop ?_
  | with_reducible refine' Sy.ws_next ?_
  | with_reducible refine' Sy.ws_par ?_
  | with_reducible refine' Sy.wp_app ?_
  | with_reducible refine' Sy.ws_setI ?_
  | with_reducible refine' Sy.ws_dput ?_
  | with_reducible refine' Sy.wp_dget1 ?_
  | with_reducible refine' Sy.wp_dnotin ?_
  | ((with_reducible refine' Sy.wp_var ?h1 ?h2 ?_); (case h1 => rfl); (case h2 => (intro z; cases z)))
  | ((with_reducible refine' Sy.wp_c ?h1 ?_); (case h1 => rfl))
  | with_reducible refine' Sy.isi_int ?_
  | with_reducible refine' Sy.isi_bool ?_
  | with_reducible refine' Sy.isi_str ?_
  | with_reducible refine' Sy.isi_list ?_
  | with_reducible refine' Sy.isi_tuple ?_
  | with_reducible refine' Sy.isi_seq ?_
  | with_reducible refine' Sy.wp_op ?_
  | with_reducible refine' Sy.wp_neg ?_
  | with_reducible refine' Sy.wp_test ?_
  | with_reducible refine' Sy.wp_testB ?_
  | with_reducible refine' Sy.wp_and ?_
  | with_reducible refine' Sy.wp_or ?_
  | with_reducible refine' Sy.wp_not ?_
  | with_reducible refine' Sy.wp_if ?_
  | with_reducible refine' Sy.wp_andV ?_
  | with_reducible refine' Sy.wp_orV ?_
  | with_reducible refine' Sy.wp_notV ?_
  | with_reducible refine' Sy.wp_chain ?_
  | with_reducible refine' Sy.wp_cb ?_
  | with_reducible refine' Sy.wp_callE ?_
  | with_reducible refine' Sy.wp_callX0 ?_
  | (with_reducible refine' Sy.wp_ext ?_)
  | with_reducible refine' Sy.wp_tup ?_
  | with_reducible refine' Sy.wp_lst ?_
  | with_reducible refine' Sy.wp_sl ?_
  | with_reducible refine' Sy.wp_rev ?_
  | with_reducible refine' Sy.wp_join ?_
  | with_reducible refine' Sy.wo_none ?_
  | with_reducible refine' Sy.wo_some ?_
  | with_reducible refine' Sy.wa_nil ?_
  | with_reducible refine' Sy.wa_cons ?_
  | with_reducible refine' Sy.wp_yes ?_
  | with_reducible refine' Sy.wg_name ?_
  | with_reducible refine' Sy.wgs_nil ?_
  | with_reducible refine' Sy.wgs_cons ?_
  | (refine' Sy.wg_tup rfl rfl ?_)
  | (refine' Sy.wo_inl (Sy.wo_I0 rfl rfl rfl ?_))
  | (refine' Sy.wo_I0 rfl rfl rfl ?_)
  | (refine' Sy.wo_sign rfl rfl ?_)
  | (refine' Sy.wo_inl (Sy.wo_I rfl rfl ?h1 rfl ?_); (case h1 => walk_at "syc"))
  | (refine' Sy.wo_I rfl rfl ?h1 rfl ?_; (case h1 => walk_at "syc"))
  | (refine' Sy.wo_isN ?h1 rfl ?_; (case h1 => (intro z; cases z)))
  | (refine' Sy.wo_notN ?h1 rfl ?_; (case h1 => (intro z; cases z)))
  | (refine' Sy.wo_eq rfl rfl rfl ?_)
  | (refine' Sy.wo_inl (Sy.wo_eq rfl rfl rfl ?_))
  | (refine' Sy.wo_ne rfl rfl rfl ?_)
  | (refine' Sy.wo_inl (Sy.wo_ne rfl rfl rfl ?_))
  | (refine' Sy.wo_ixL rfl rfl ?h1 ?_; (case h1 => first | rfl | assumption))
  | (refine' Sy.wo_ixT rfl rfl ?h1 ?_; (case h1 => first | rfl | assumption))
  | (refine' Sy.wc_int1 rfl ?_)
  | (refine' Sy.wc_abs rfl ?_)
  | (refine' Sy.wc_max2 rfl rfl ?_)
  | (refine' Sy.wc_min2 rfl rfl ?_)
  | (refine' Sy.wc_len rfl ?_)
  | (refine' Sy.wc_lenS rfl ?h1 ?_; (case h1 => omega))
  | (refine' Sy.wc_list rfl ?_)
  | (refine' Sy.wc_listT rfl ?_)
  | (refine' Sy.wc_tuple rfl ?_)
  | ((with_reducible refine' And.intro ?h1 ?_); (case h1 => first | (with_reducible rfl) | omega | decide | (simp only [List.length_cons, List.length_nil]; omega)))
  | ((with_reducible show @ite Prop (true = true) _ _ _); refine' Sy.iteT0 ?_)
  | ((with_reducible show @ite Prop (false = true) _ _ _); refine' Sy.iteF0 ?_)
  | ((with_reducible show @ite Prop ((!true) = true) _ _ _); refine' Sy.iteNT ?_)
  | ((with_reducible show @ite Prop (@decide _ _ = true) _ _ _); (refine' Sy.iteDT ?h1 ?_); (case h1 => first | omega | rfl | (intro z; cases z)))
  | ((with_reducible show @ite Prop (@decide _ _ = true) _ _ _); (refine' Sy.iteDF ?h1 ?_); (case h1 => first | omega | rfl | (intro z; cases z)))
  | ((with_reducible show @ite Prop ((!@decide _ _) = true) _ _ _); (refine' Sy.iteND ?h1 ?_); (case h1 => first | omega | rfl | (intro z; cases z)))
  | ((with_reducible show @ite Prop ((!@decide _ _) = true) _ _ _); (refine' Sy.iteNDF ?h1 ?_); (case h1 => first | omega | rfl | (intro z; cases z)))
  | ((with_reducible show @ite Prop ((!false) = true) _ _ _); refine' Sy.iteNF ?_)
  | (with_reducible refine' Sy.ws_try ?_)
  | (with_reducible refine' Sy.wsx_drop (Sy.wx_call (Sy.wax_of ?_)))
  | (with_reducible refine' Sy.wsx_asg (Sy.wx_call (Sy.wax_of ?_)))
  | (with_reducible refine' Sy.wsx_ret (Sy.wx_call (Sy.wax_of ?_)))
  | (with_reducible refine' Sy.wsx_of ?_)
  | (refine ⟨_, rfl, ⟨_, rfl⟩, ?_⟩)
  | (refine ⟨_, rfl, ?_⟩)
  | (refine ⟨_, _, rfl, rfl, ?_⟩)
  | (refine ⟨_, _, rfl, ?_⟩)
  | ((refine' Sy.iteNo ?h1 ?_); (case h1 => (intro z; cases z)))
  | ((refine' Sy.iteYes ?h1 ?_); (case h1 => rfl)))
-- many steps
local macro_rules | `(tactic| walk_at "syd") => `(tactic| try dsimp only [List.set, List.length_cons, List.length_nil, Nat.reduceAdd, Sy.isNon, List.cons_append, List.nil_append, List.map, Bool.not_true, Bool.not_false, Sy.Ty.isInt, Sy.Ty.isBool, Sy.Ty.isStr, Sy.Ty.isList, Sy.Ty.isTuple, Sy.Ty.isSeq])
local macro_rules | `(tactic| walk_at "sy") => `(tactic| repeat ((walk_at "sy1"); (walk_at "syd")))
-- the start of a body
local macro_rules | `(tactic| walk_at "sy0") => `(tactic| dsimp only [L2.cxOf, List.length_cons, List.length_nil, Nat.reduceAdd, Nat.reduceSub, List.replicate, List.cons_append, List.nil_append])
-- a turn's end: the slots and the cells are said by the invariant
local macro_rules | `(tactic| walk_at "wkl") => `(tactic| repeat' first | exact trivial | refine ⟨.inl rfl, ?_⟩ | refine ⟨.inr rfl, ?_⟩)
local macro_rules | `(tactic| walk_at "lowl") => `(tactic| repeat' first | exact trivial | refine ⟨by omega, ?_⟩)
local macro_rules | `(tactic| walk_at "turn") => `(tactic| refine Sy.turn_q ⟨rfl, rfl⟩ (by walk_at "wkl") (by walk_at "lowl"))

namespace Kp
open PySem PySem.Spec L2 Sy
section
variable {Pg : Program} {w : World} {K : PySem.W.Frag} {mg : Str → Option Value} {base : Heap}
theorem names_ex : ∀ m : Nat, m ≤ 26 → ∃ zs : List Str, zs.length = m ∧ (∀ z ∈ zs, Key1 z) ∧ zs.Nodup := fun m hm => by
  refine ⟨(List.range m).map fun k => (⟨#[97 + k]⟩ : Str), by simp, fun z hz => ?_, ?_⟩
  · obtain ⟨k, hk, rfl⟩ := List.mem_map.mp hz
    have := List.mem_range.mp hk
    exact ⟨Nat.le_refl 1, by show 1 ≤ 8; decide, low_sign (x := k) (by omega)⟩
  · rw [List.nodup_iff_pairwise_ne, List.pairwise_map]
    refine List.nodup_range.imp fun {a b} h e => h ?_
    have e2 : (#[97 + a] : Array Nat) = #[97 + b] := congrArg Str.cps e
    have e3 := congrArg Array.toList e2
    simp at e3
    exact e3
theorem rows_ex {names : List Str} (h : 1 ≤ names.length) (m : Nat) : ∃ rs : List Row, rs.length = m ∧ ∀ r ∈ rs, r.1 ∈ names := ⟨List.replicate m (names[0], none), List.length_replicate, fun z hz => by
  rw [(List.mem_replicate.mp hz).2]
  exact List.getElem_mem _⟩
theorem kb_fun {x qual : Str} {st : Stmt} {f : Addr} {fd : FuncData} {ps ks : List Str} {n : Nat} {g : List Value → List Value → List Value} {gV : List V → List V → List V} (F : Fun K x qual st f fd)
    (h : ∀ (kV doc pm : Value) (an : Option Addr) (cdv ct : Value) (us ws : List Value), us.length = n → ws.length = ks.length → bindArgs (PySem.W.fnOf x qual (defArgs st) (defBody st) (defScope st) .none kV doc pm an cdv ct) ⟨us, ks.zip ws⟩ = pure (ps.zip (g us ws)))
    (hr : ∀ {vs : List V} {us : List Value} {zs : List V} {ws : List Value}, Vals vs us → Vals zs ws → Vals (gV vs zs) (g us ws)) : KBn K fd ps n ks g gV := by
  obtain ⟨oc, od, kV, doc, pm, an, cdv, ct, osl, rfl, lk, hcd⟩ := F.ex
  exact ⟨fun s us ws X l1 l2 => .of_eq (h kV doc pm an cdv ct us ws l1 l2), hr⟩
def sw2 {α : Type} : List α → List α | [a, b] => [b, a] | l => l
theorem vals_sw2 {zs : List V} {ws : List Value} (r : Vals zs ws) : Vals (sw2 zs) (sw2 ws) := by
  match r with
  | .nil => exact .nil
  | .cons a .nil => exact .cons a .nil
  | .cons a (.cons b .nil) => exact .cons b (.cons a .nil)
  | .cons a (.cons b (.cons c r)) => exact .cons a (.cons b (.cons c r))
theorem len3 {α : Type} {l : List α} (h : l.length = 3) : ∃ a b c, l = [a, b, c] := by
  match l, h with
  | [a, b, c], _ => exact ⟨a, b, c, rfl⟩
theorem wp_callS2 {sl : List SD} {cl : List Cell} {Φ : SD → List Cell → Prop} {P : Pr} {E : XK} {tk : TA} (h : WpA K tk sl cl fun qs cl2 => ∃ a b, qs = [a, b] ∧ ∃ sel, CallOk P [b, a] sl cl2 sel Φ) : Wp K (tCallN 0 2 (spS K P) (fun _ zs => sw2 zs) E tNil tk) sl cl Φ :=
  wp_callN (fun _ qs => sw2 qs) (fun vs zs rs qs _ h2 _ h3 => by
    obtain ⟨a, b, rfl⟩ := len2 h3
    obtain ⟨x, y, rfl⟩ := len2 (h2.trans h3)
    refine ⟨rfl, fun p hp => .inr (.inl ?_)⟩
    have hp : p ∈ [(y, b), (x, a)] := hp
    show p ∈ [(x, a), (y, b)]
    simp only [List.mem_cons, List.not_mem_nil, or_false] at hp ⊢
    exact hp.symm) (wa_nil fun A B ls τ σ H s Q k => h A B ls τ σ H s Q fun vs H' rs cl' ls' p ⟨a, b, e, q⟩ hl s' => k vs H' rs cl' ls' p ⟨rfl, by rw [e] <;> rfl, by rw [e]; exact q⟩ hl s')
theorem posD_eqv (ps : List Nat) : PyData.eqv (.list (posD ps)) (.list (posD ps)) = true := by
  have h : ∀ l : List Nat, PyData.eqvAll (posD l) (posD l) = true := fun l => by
    induction l with
    | nil => rfl
    | cons a l ih =>
      show (PyData.eqv (.int (a : Int)) (.int (a : Int)) && PyData.eqvAll (posD l) (posD l)) = true
      rw [ih]
      show (decide ((a : Int) = (a : Int)) && true) = true
      simp
  exact h ps
theorem row_okw {r : Row} (h : Key1 r.1) : OkW 1 (rowD r) := .tuple (by show 2 ≤ _; decide) fun x hx => by
  rcases List.mem_cons.mp hx with z | z
  · rw [z]; exact .str _ (low_ok h.2.2).1
  · rw [List.mem_singleton.mp z]
    cases r.2 with
    | none => exact .none
    | some i => exact .int i
theorem wp_crate {sl : List SD} {cl : List Cell} {Φ : SD → List Cell → Prop} {ns : List Int} {at' : Nat} (hz : ns.length ≤ 63) (ha : at' ≤ 100) (q : ∀ c, Crate 0 c → Φ (.own cl.length) (cl ++ [c])) : ∃ sel, CallOk pr__law_crate [.scr ns, .dat (.int (at' : Int))] sl cl sel Φ :=
  ⟨[], List.nodup_nil, fun k hk => (List.not_mem_nil hk).elim, [SD.scr ns, SD.dat (.int (at' : Int))], rfl, ns, at', rfl, rfl, hz, ha, fun c hc => ⟨Nat.zero_le _, q c hc⟩⟩
theorem pos_okw {ps : List Nat} (hz : ps.length ≤ 1000) : OkW 2 (.list (posD ps)) := .list (by unfold posD; rw [List.length_map]; omega) fun x hx => by
  obtain ⟨p, _, rfl⟩ := List.mem_map.mp hx
  exact .int _
theorem ws_wk {sl : List SD} {cl : List Cell} {ts : TS} {E : SE} (sl2 : List SD) (w : WkL sl sl2) (h : WpS K ts sl2 cl E) : WpS K ts sl cl E := by
  intro A B ls τ σ H D ⟨G, c⟩ e
  obtain ⟨w1, w2⟩ := w.wk
  exact h A B ls τ σ H D ⟨G, c.exA, c.exG, c.exB, c.ban, c.banc, c.inj, c.len, c.cells, w1.trans c.slen, fun i sd e1 e2 => c.slots i sd (w2 i sd e1 e2) e2, c.tmp⟩ e
theorem rows_ok {rs : List Row} (h : ∀ r ∈ rs, Key1 r.1) : okD 2 (rowsD rs) := okD.list fun x hx => by
  obtain ⟨r, hr, rfl⟩ := List.mem_map.mp hx
  exact (row_okw (h r hr)).okD
theorem rngD_pos {n : Nat} : rngD 0 n = posD (List.range n) := by
  unfold rngD posD
  refine List.map_congr_left fun i _ => ?_
  rw [Int.zero_add]
theorem posD_rev (ps : List Nat) : (posD ps).reverse = posD ps.reverse := by
  unfold posD
  rw [List.map_reverse]
theorem posD_app (ps qs : List Nat) : posD ps ++ posD qs = posD (ps ++ qs) := by
  unfold posD
  rw [List.map_append]
theorem posD_cut2 (ps : List Nat) : cutD (posD ps) none (some 2) = posD (ps.take 2) := by
  unfold cutD posD
  rw [HT.sIx_none, show (2 : Int) = ((2 : Nat) : Int) from rfl, HT.sIx_nat, List.drop_zero, ← List.map_take, List.length_map]
  congr 1
  show List.take (min 2 ps.length - 0) ps = List.take 2 ps
  rw [Nat.sub_zero]
  by_cases h : 2 ≤ ps.length
  · rw [Nat.min_eq_left h]
  · rw [Nat.min_eq_right (by omega), List.take_length, List.take_of_length_le (by omega)]
end
end Kp
end

section
-- conditions of operations on ints
local macro_rules | `(tactic| walk_at "syc") => `(tactic| first
  | exact Sy.cpow (by decide) (by decide)
  | exact Sy.mul_l (by omega) (by omega)
  | exact Sy.mul_r (by omega) (by omega)
  | exact Sy.fdiv_ok (by omega) (by omega)
  | ((show (0 : Int) < _); first | omega | (simp only [Sy.pow12, Sy.pow18, Sy.pow29, Sy.pow38, Sy.pow39, Sy.pow40]; omega)))
-- one step of the symbolic run
local macro_rules | `(tactic| walk_at "sy1") => `(tactic| first
  | with_reducible refine' Sy.ws_seq ?_
  | (with_reducible refine' Sy.ws_setI ?_)
  | (with_reducible refine' Sy.ws_asg ?_)
  | with_reducible refine' Sy.ws_ret (Sy.wp_lstO ?_)
  | with_reducible refine' Sy.ws_ret ?_
  | with_reducible refine' Sy.ws_if ?_
  | with_reducible refine' Sy.ws_drop ?_
  | with_reducible refine' Sy.ws_next ?_
  | with_reducible refine' Sy.ws_par ?_
  | with_reducible refine' Sy.wp_app ?_
  | with_reducible refine' Sy.ws_setI ?_
  | with_reducible refine' Sy.ws_dput ?_
  | with_reducible refine' Sy.wp_dget1 ?_
  | with_reducible refine' Sy.wp_dnotin ?_
  | ((with_reducible refine' Sy.wp_var ?h1 ?h2 ?_); (case h1 => rfl); (case h2 => (intro z; cases z)))
  | ((with_reducible refine' Sy.wp_c ?h1 ?_); (case h1 => rfl))
  | with_reducible refine' Sy.isi_int ?_
  | with_reducible refine' Sy.isi_bool ?_
  | with_reducible refine' Sy.isi_str ?_
  | with_reducible refine' Sy.isi_list ?_
  | with_reducible refine' Sy.isi_tuple ?_
  | with_reducible refine' Sy.isi_seq ?_
  | with_reducible refine' Sy.wp_op ?_
  | with_reducible refine' Sy.wp_neg ?_
  | with_reducible refine' Sy.wp_test ?_
  | with_reducible refine' Sy.wp_testB ?_
  | with_reducible refine' Sy.wp_and ?_
  | with_reducible refine' Sy.wp_or ?_
  | with_reducible refine' Sy.wp_not ?_
  | with_reducible refine' Sy.wp_if ?_
  | with_reducible refine' Sy.wp_andV ?_
  | with_reducible refine' Sy.wp_orV ?_
  | with_reducible refine' Sy.wp_notV ?_
  | with_reducible refine' Sy.wp_chain ?_
  | with_reducible refine' Sy.wp_cb ?_
  | with_reducible refine' Sy.wp_callE ?_
  | with_reducible refine' Sy.wp_callX0 ?_
  | (with_reducible refine' Sy.wp_ext ?_)
  | with_reducible refine' Sy.wp_tup ?_
  | with_reducible refine' Sy.wp_lst ?_
  | with_reducible refine' Sy.wp_sl ?_
  | with_reducible refine' Sy.wp_rev ?_
  | with_reducible refine' Sy.wp_join ?_
  | with_reducible refine' Sy.wo_none ?_
  | with_reducible refine' Sy.wo_some ?_
  | with_reducible refine' Sy.wa_nil ?_
  | with_reducible refine' Sy.wa_cons ?_
  | with_reducible refine' Sy.wp_yes ?_
  | with_reducible refine' Sy.wg_name ?_
  | with_reducible refine' Sy.wgs_nil ?_
  | with_reducible refine' Sy.wgs_cons ?_
  | (refine' Sy.wg_tup rfl rfl ?_)
  | (refine' Sy.wo_inl (Sy.wo_I0 rfl rfl rfl ?_))
  | (refine' Sy.wo_I0 rfl rfl rfl ?_)
  | (refine' Sy.wo_sign rfl rfl ?_)
  | (refine' Sy.wo_inl (Sy.wo_I rfl rfl ?h1 rfl ?_); (case h1 => walk_at "syc"))
  | (refine' Sy.wo_I rfl rfl ?h1 rfl ?_; (case h1 => walk_at "syc"))
  | (refine' Sy.wo_isN ?h1 rfl ?_; (case h1 => (intro z; cases z)))
  | (refine' Sy.wo_notN ?h1 rfl ?_; (case h1 => (intro z; cases z)))
  | (refine' Sy.wo_eq rfl rfl rfl ?_)
  | (refine' Sy.wo_inl (Sy.wo_eq rfl rfl rfl ?_))
  | (refine' Sy.wo_ne rfl rfl rfl ?_)
  | (refine' Sy.wo_inl (Sy.wo_ne rfl rfl rfl ?_))
  | (refine' Sy.wo_ixL rfl rfl ?h1 ?_; (case h1 => first | rfl | assumption))
  | (refine' Sy.wo_ixT rfl rfl ?h1 ?_; (case h1 => first | rfl | assumption))
  | (refine' Sy.wc_int1 rfl ?_)
  | (refine' Sy.wc_abs rfl ?_)
  | (refine' Sy.wc_max2 rfl rfl ?_)
  | (refine' Sy.wc_min2 rfl rfl ?_)
  | (refine' Sy.wc_len rfl ?_)
  | (refine' Sy.wc_lenS rfl ?h1 ?_; (case h1 => omega))
  | (refine' Sy.wc_list rfl ?_)
  | (refine' Sy.wc_listT rfl ?_)
  | (refine' Sy.wc_tuple rfl ?_)
  | ((with_reducible refine' And.intro ?h1 ?_); (case h1 => first | (with_reducible rfl) | omega | decide | (simp only [List.length_cons, List.length_nil]; omega)))
  | ((with_reducible show @ite Prop (true = true) _ _ _); refine' Sy.iteT0 ?_)
  | ((with_reducible show @ite Prop (false = true) _ _ _); refine' Sy.iteF0 ?_)
  | ((with_reducible show @ite Prop ((!true) = true) _ _ _); refine' Sy.iteNT ?_)
  | ((with_reducible show @ite Prop (@decide _ _ = true) _ _ _); (refine' Sy.iteDT ?h1 ?_); (case h1 => first | omega | rfl | (intro z; cases z)))
  | ((with_reducible show @ite Prop (@decide _ _ = true) _ _ _); (refine' Sy.iteDF ?h1 ?_); (case h1 => first | omega | rfl | (intro z; cases z)))
  | ((with_reducible show @ite Prop ((!@decide _ _) = true) _ _ _); (refine' Sy.iteND ?h1 ?_); (case h1 => first | omega | rfl | (intro z; cases z)))
  | ((with_reducible show @ite Prop ((!@decide _ _) = true) _ _ _); (refine' Sy.iteNDF ?h1 ?_); (case h1 => first | omega | rfl | (intro z; cases z)))
  | ((with_reducible show @ite Prop ((!false) = true) _ _ _); refine' Sy.iteNF ?_)
  | (with_reducible refine' Sy.ws_try ?_)
  | (with_reducible refine' Sy.wsx_drop (Sy.wx_call (Sy.wax_of ?_)))
  | (with_reducible refine' Sy.wsx_asg (Sy.wx_call (Sy.wax_of ?_)))
  | (with_reducible refine' Sy.wsx_ret (Sy.wx_call (Sy.wax_of ?_)))
  | (with_reducible refine' Sy.wsx_of ?_)
  | (refine ⟨_, rfl, ⟨_, rfl⟩, ?_⟩)
  | (refine ⟨_, rfl, ?_⟩)
  | (refine ⟨_, _, rfl, rfl, ?_⟩)
  | (refine ⟨_, _, rfl, ?_⟩)
  | ((refine' Sy.iteNo ?h1 ?_); (case h1 => (intro z; cases z)))
  | ((refine' Sy.iteYes ?h1 ?_); (case h1 => rfl)))
-- many steps
local macro_rules | `(tactic| walk_at "syd") => `(tactic| try dsimp only [List.set, List.length_cons, List.length_nil, Nat.reduceAdd, Sy.isNon, List.cons_append, List.nil_append, List.map, Bool.not_true, Bool.not_false, Sy.Ty.isInt, Sy.Ty.isBool, Sy.Ty.isStr, Sy.Ty.isList, Sy.Ty.isTuple, Sy.Ty.isSeq])
local macro_rules | `(tactic| walk_at "sy") => `(tactic| repeat ((walk_at "sy1"); (walk_at "syd")))
-- the start of a body
local macro_rules | `(tactic| walk_at "sy0") => `(tactic| dsimp only [L2.cxOf, List.length_cons, List.length_nil, Nat.reduceAdd, Nat.reduceSub, List.replicate, List.cons_append, List.nil_append])
-- a turn's end: the slots and the cells are said by the invariant
local macro_rules | `(tactic| walk_at "wkl") => `(tactic| repeat' first | exact trivial | refine ⟨.inl rfl, ?_⟩ | refine ⟨.inr rfl, ?_⟩)
local macro_rules | `(tactic| walk_at "lowl") => `(tactic| repeat' first | exact trivial | refine ⟨by omega, ?_⟩)
local macro_rules | `(tactic| walk_at "turn") => `(tactic| refine Sy.turn_q ⟨rfl, rfl⟩ (by walk_at "wkl") (by walk_at "lowl"))

namespace Kp
open PySem PySem.Spec L2 Sy
section
variable {Pg : Program} {w : World} {K : PySem.W.Frag} {mg : Str → Option Value} {base : Heap}
section
variable {α β : Type} [DecidableEq α] [DecidableEq β]
def ffk (z : α) : List α → Nat → Option Nat
  | [], _ => none
  | r :: t, k => if r = z then some k else ffk z t (k + 1)
def nxk (ks : List α) (i : Nat) : Option Nat := match ks[i]? with
  | some z => ffk z (ks.drop (i + 1)) (i + 1)
  | none => none
theorem ffk_spec {z : α} {e : Nat} : ∀ (l : List α) (k : Nat), ffk z l k = some e → ∃ t, e = k + t ∧ l[t]? = some z ∧ ∀ s : Nat, s < t → l[s]? ≠ some z
  | [], _, h => by cases h
  | r :: t, k, h => by
    unfold ffk at h
    by_cases hr : r = z
    · rw [if_pos hr] at h
      have := Option.some.inj h
      exact ⟨0, by omega, by rw [hr] <;> rfl, fun s hs => absurd hs (Nat.not_lt_zero _)⟩
    · rw [if_neg hr] at h
      obtain ⟨u, e1, e2, e3⟩ := ffk_spec t (k + 1) h
      refine ⟨u + 1, by omega, e2, fun s hs => ?_⟩
      cases s with
      | zero => exact fun q => hr (Option.some.inj q)
      | succ s => exact e3 s (by omega)
theorem ffk_none {z : α} : ∀ (l : List α) (k : Nat), ffk z l k = none → ∀ s : Nat, l[s]? ≠ some z
  | [], _, _, s => by simp
  | r :: t, k, h, s => by
    unfold ffk at h
    by_cases hr : r = z
    · rw [if_pos hr] at h; cases h
    · rw [if_neg hr] at h
      cases s with
      | zero => exact fun q => hr (Option.some.inj q)
      | succ s => exact ffk_none t (k + 1) h s
theorem nxk_spec {ks : List α} {i e : Nat} (h : nxk ks i = some e) : i < e ∧ e < ks.length ∧ ks[e]? = ks[i]? ∧ ∀ k, i < k → k < e → ks[k]? ≠ ks[i]? := by
  unfold nxk at h
  split at h
  next r hr =>
    obtain ⟨t, e1, e2, e3⟩ := ffk_spec _ _ h
    rw [List.getElem?_drop] at e2
    have e2' : ks[e]? = some r := by rw [e1]; exact e2
    have hl : e < ks.length := by
      refine Classical.byContradiction fun hn => ?_
      rw [List.getElem?_eq_none (by omega)] at e2'
      cases e2'
    refine ⟨by omega, hl, by rw [e2', hr], fun k h1 h2 => ?_⟩
    have := e3 (k - (i + 1)) (by omega)
    rw [List.getElem?_drop, show i + 1 + (k - (i + 1)) = k by omega] at this
    rw [hr]
    exact this
  next => cases h
theorem nxk_inj {ks : List α} {i j e : Nat} (h1 : nxk ks i = some e) (h2 : nxk ks j = some e) : i = j := by
  obtain ⟨a1, a2, a3, a4⟩ := nxk_spec h1
  obtain ⟨b1, b2, b3, b4⟩ := nxk_spec h2
  rcases Nat.lt_trichotomy i j with z | z | z
  · exact absurd (b3.symm.trans a3) (a4 j z b1)
  · exact z
  · exact absurd (a3.symm.trans b3) (b4 i z a1)
theorem ffk_map {f : α → β} {z : α} : ∀ (l : List α) (k : Nat), (∀ a ∈ l, f a = f z → a = z) → ffk (f z) (l.map f) k = ffk z l k
  | [], _, _ => rfl
  | r :: t, k, h => by
    rw [List.map_cons]
    unfold ffk
    by_cases hr : r = z
    · rw [if_pos (by rw [hr]), if_pos hr]
    · rw [if_neg (fun q => hr (h r List.mem_cons_self q)), if_neg hr, ffk_map t (k + 1) fun a ha => h a (List.mem_cons_of_mem _ ha)]
theorem nxk_map {f : α → β} {ks : List α} (h : ∀ a ∈ ks, ∀ b ∈ ks, f a = f b → a = b) (i : Nat) : nxk (ks.map f) i = nxk ks i := by
  unfold nxk
  rw [List.getElem?_map]
  cases hz : ks[i]? with
  | none => rfl
  | some z =>
    show ffk (f z) ((ks.map f).drop (i + 1)) (i + 1) = ffk z (ks.drop (i + 1)) (i + 1)
    rw [← List.map_drop]
    exact ffk_map _ _ fun a ha e => h a (List.mem_of_mem_drop ha) z (List.mem_of_getElem? hz) e
end
theorem ffx_ffk {z : Str} : ∀ (l : List Row) (k : Nat), ffx l k z = ffk z (l.map Prod.fst) k
  | [], _ => rfl
  | r :: t, k => by
    unfold ffx
    rw [List.map_cons]
    unfold ffk
    rw [ffx_ffk t (k + 1)]
theorem nxt_nxk (rs : List Row) (i : Nat) : nxt rs i = nxk (rs.map Prod.fst) i := by
  unfold nxt nxk
  rw [List.getElem?_map]
  cases rs[i]? with
  | none => rfl
  | some r =>
    show ffx (rs.drop (i + 1)) (i + 1) r.1 = ffk r.1 ((rs.map Prod.fst).drop (i + 1)) (i + 1)
    rw [ffx_ffk, List.map_drop]
theorem nxt_lt {rs : List Row} {i e : Nat} (h : nxt rs i = some e) : i < e ∧ e < rs.length := by
  rw [nxt_nxk] at h
  obtain ⟨a, b, _⟩ := nxk_spec h
  exact ⟨a, by rw [List.length_map] at b; exact b⟩
def befU (f : Nat → Option Nat) : Nat → Nat → Option Nat
  | 0, _ => none
  | i + 1, j => if f i = some j then some i else befU f i j
theorem befU_some {f : Nat → Option Nat} {i j : Nat} : ∀ {m : Nat}, befU f m j = some i → i < m ∧ f i = some j
  | 0, h => by cases h
  | m + 1, h => by
    unfold befU at h
    by_cases e : f m = some j
    · rw [if_pos e] at h
      have := Option.some.inj h
      subst this
      exact ⟨Nat.lt_succ_self _, e⟩
    · rw [if_neg e] at h
      have := befU_some h
      exact ⟨by omega, this.2⟩
theorem befU_none {f : Nat → Option Nat} {j : Nat} : ∀ {m : Nat}, befU f m j = none → ∀ i, i < m → f i ≠ some j
  | 0, _, i, h => absurd h (Nat.not_lt_zero _)
  | m + 1, h, i, hi => by
    unfold befU at h
    by_cases e : f m = some j
    · rw [if_pos e] at h; cases h
    · rw [if_neg e] at h
      by_cases hm : i = m
      · rw [hm]; exact e
      · exact befU_none h i (by omega)
theorem befU_skip {n : Nat} {f : Nat → Option Nat} {i : Nat} (h : f i = none) : optsD n (befU f (i + 1)) = optsD n (befU f i) := by
  unfold optsD
  refine List.map_congr_left fun j _ => ?_
  show optD (if f i = some j then some i else befU f i j) = _
  rw [if_neg (by rw [h]; intro z; cases z)]
theorem befU_set {n : Nat} {f : Nat → Option Nat} {i e : Nat} (h : f i = some e) : (optsD n (befU f i)).set e (.int (i : Int)) = optsD n (befU f (i + 1)) := by
  unfold optsD
  refine set_range fun j _ => ?_
  show optD (if f i = some j then some i else befU f i j) = _
  rw [h]
  by_cases ej : j = e
  · rw [if_pos ej, ej, if_pos rfl] <;> rfl
  · rw [if_neg ej, if_neg (fun z => ej (Option.some.inj z).symm)]
def pr_befores_of : Pr := prO fun ds es => ∃ (n : Nat) (f : Nat → Option Nat), ds = [.list (optsD n f)] ∧ n ≤ 10000 ∧ (∀ i e, i < n → f i = some e → e < n) ∧ es = optsD n (befU f n)
theorem ok_befores_of (T : Txt K mg) : FnOk Pg w K mg base CX0 1 T.f_befores_of T.d_befores_of ["nexts"] (spS K pr_befores_of) := by
  refine ok_of _ T.F_befores_of sc_befores_of (hlenO fun ds d ⟨_, _, h, _⟩ => dlen h rfl) (fun cdv A outer s H E hr => ⟨_, (pss_cons (ps_set (i := 1) sc_befores_of.nd rfl (.inl rfl) (pe_op (OpR.or op_mul op_rep) (pe_lst (pa_cons pe_non pa_nil)) (pe_callB call_len (by rfl) T.z_len (by decide +kernel) (pa_cons (pv 0) pa_nil)))) 
    (pss_cons (ps_for PassesOwn.never rfl (pi_enum rfl T.z_enumerate (pa_cons (pv 0) pa_nil)) (pg_tup rfl (pgs_cons (pg_name (i := 2) sc_befores_of.nd rfl (.inl rfl)) (pgs_cons (pg_name (i := 3) sc_befores_of.nd rfl (.inl rfl)) pgs_nil)))
    (pss_one (ps_if (pt_cmpR op_notN (pv 3) pe_non (nomark _)) (pss_one (ps_asg (pv 2) (pg_sub (pv 1) (pv 3) set_list))) pss_nil))) 
    (pss_one (ps_ret (pv 1))))), ?_⟩)
  walk_at "sy0"
  try dsimp only [N_befores_of, List.length_cons, List.length_nil, Nat.reduceAdd, Nat.reduceSub, List.replicate, List.cons_append, List.nil_append]
  rintro as cl Φ ⟨_, _, rfl, rfl, ⟨n, f, rfl, hz, hf, rfl⟩, q⟩
  have hn := optsD_len (n := n) (f := f)
  dsimp only [List.map]
  refine ws_seq (ws_asg ?_)
  walk_at "sy"
  refine wo_inr (wo_repO rfl rfl ⟨by omega, by omega⟩ (by simp; omega) (wg_name ?_))
  walk_at "syd"
  refine ws_seq (ws_for (wi_enum ?_))
  walk_at "sy"
  refine ⟨fun (i : Nat) (sl : List SD) (cl : List Cell) => sl = [.dat (.list (optsD n f)), .own 0, .unk, .unk] ∧ cl = [.lst (optsD n (befU f i))], ⟨rfl, ?_⟩, fun i d sl' cl' hd hI hc => ?_, fun sl' cl' hI hc => ?_⟩
  · rw [rep1]
    have e : List.replicate (((optsD n f).length : Nat) : Int).toNat PyData.none = optsD n (befU f 0) := by
      rw [hn]
      unfold optsD
      refine List.ext_getElem (by simp) fun j h1 h2 => ?_
      rw [List.getElem_replicate, List.getElem_map] <;> rfl
    rw [e]
  · obtain ⟨rfl, rfl⟩ := hI
    obtain ⟨x, hx, rfl⟩ := enumD_get hd
    have hi : i < n := by have := (List.getElem?_eq_some_iff.mp hx).1; omega
    have ex : x = optD (f i) := by
      unfold optsD at hx
      rw [List.getElem?_map, List.getElem?_range hi] at hx
      exact (Option.some.inj hx).symm
    subst ex
    cases hfi : f i with
    | none =>
      dsimp only [optD]
      walk_at "sy"
      exact turn_of [.dat _, .own 0, .unk, .unk] ⟨.inl rfl, .inl rfl, .inr rfl, .inr rfl, trivial⟩ ⟨by omega, trivial⟩ ⟨rfl, by rw [befU_skip hfi] <;> rfl⟩
    | some e =>
      dsimp only [optD]
      walk_at "sy"
      refine ⟨_, 0, _, (e : Int), e, rfl, rfl, rfl, rfl, Evl.ixN_nat (by rw [optsD_len]; exact hf i e hi hfi), ?_⟩
      exact turn_of [.dat _, .own 0, .unk, .unk] ⟨.inl rfl, .inl rfl, .inr rfl, .inr rfl, trivial⟩ ⟨by omega, trivial⟩ ⟨rfl, by rw [← befU_set hfi] <;> rfl⟩
  · obtain ⟨rfl, rfl⟩ := hI
    walk_at "sy"
    rw [enumD_len, hn]
    exact q
def pstep (g : Nat → Option Nat) (s : List Nat × Nat) (j : Nat) : List Nat × Nat := match g j with
  | none => (s.1 ++ [s.2], s.2 + 1)
  | some i => (s.1 ++ [s.1.getD i 0], s.2)
def patS (g : Nat → Option Nat) (n : Nat) : List Nat × Nat := (List.range n).foldl (pstep g) ([], 0)
theorem patS_succ (g : Nat → Option Nat) (n : Nat) : patS g (n + 1) = pstep g (patS g n) n := by
  unfold patS
  rw [List.range_succ, List.foldl_append] <;> rfl
theorem patS_len (g : Nat → Option Nat) : ∀ n, (patS g n).1.length = n
  | 0 => rfl
  | n + 1 => by
    rw [patS_succ]
    unfold pstep
    split <;> (rw [List.length_append, patS_len g n] <;> rfl)
theorem posD_snoc {ps : List Nat} {k : Nat} : posD (ps ++ [k]) = posD ps ++ [.int (k : Int)] := by
  unfold posD
  rw [List.map_append] <;> rfl
theorem posD_length {ps : List Nat} : (posD ps).length = ps.length := List.length_map _
theorem posD_at {ps : List Nat} {i : Nat} (h : i < ps.length) : atI (posD ps) (i : Int) = some (.int ((ps.getD i 0 : Nat) : Int)) := by
  refine atI_nat ?_
  unfold posD
  rw [List.getElem?_map, List.getD_eq_getElem?_getD, List.getElem?_eq_getElem h] <;> rfl
def pr_pattern_of : Pr := prO fun ds es => ∃ (n : Nat) (f : Nat → Option Nat), ds = [.list (optsD n f)] ∧ n ≤ 10000 ∧ (∀ i e, i < n → f i = some e → i < e ∧ e < n) ∧ es = posD (patS (befU f n) n).1
theorem ok_pattern_of (T : Txt K mg) : FnOk Pg w K mg base CX0 2 T.f_pattern_of T.d_pattern_of ["nexts"] (spS K pr_pattern_of) := by
  refine ok_of _ T.F_pattern_of sc_pattern_of (hlenO fun ds d ⟨_, _, h, _⟩ => dlen h rfl) (fun cdv A outer s H E hr => ⟨_, (pss_cons (ps_set (i := 1) sc_pattern_of.nd rfl (.inl rfl) (pe_lst pa_nil)) 
    (pss_cons (ps_set (i := 2) sc_pattern_of.nd rfl (.inl rfl) pe_int) 
    (pss_cons (ps_for PassesOwn.never rfl (pi_list (pe_call (ok_befores_of T) (hr.mono (by decide)) (by rfl) T.g_befores_of T.F_befores_of.kp T.B_befores_of .nil pass0 (pa_cons (pv 0) pa_nil))) (pg_name (i := 3) sc_pattern_of.nd rfl (.inl rfl))
    (pss_one (ps_if (pt_cmpR op_isN (pv 3) pe_non (nomark _)) (pss_cons (ps_expr (pe_bm PySem.F.plainAttrs_list PySem.F.slot_list_append PySem.F.type_list_append mt_append (pv 1) (pa_cons (pv 2) pa_nil))) 
    (pss_one (ps_aug (i := 2) sc_pattern_of.nd rfl (.inl rfl) pe_int ip_add))) (pss_one (ps_expr (pe_bm PySem.F.plainAttrs_list PySem.F.slot_list_append PySem.F.type_list_append mt_append (pv 1) (pa_cons (pe_ix ix_seq (pv 1) (pv 3) (fun _ _ => rfl)) pa_nil))))))) 
    (pss_one (ps_ret (pv 1)))))), ?_⟩)
  walk_at "sy0"
  try dsimp only [N_pattern_of, List.length_cons, List.length_nil, Nat.reduceAdd, Nat.reduceSub, List.replicate, List.cons_append, List.nil_append]
  rintro as cl Φ ⟨_, _, rfl, rfl, ⟨n, f, rfl, hz, hf, rfl⟩, q⟩
  dsimp only [List.map]
  refine ws_seq (ws_asg (wp_lstO (wa_nil ⟨[], rfl, by simp, wg_name ?_⟩)))
  walk_at "syd"
  refine ws_seq ?_
  walk_at "sy"
  refine ws_for (wi_list (wp_frz (wp_callE ?_)))
  walk_at "sy"
  refine ⟨_, call_own rfl ⟨n, f, rfl, hz, fun i e hi h => (hf i e hi h).2, rfl⟩ ⟨_, _, rfl, rfl, ?_⟩⟩
  walk_at "sy"
  refine ⟨fun (i : Nat) (sl : List SD) (cl : List Cell) => sl = [.dat (.list (optsD n f)), .own 0, .dat (.int ((patS (befU f n) i).2 : Int)), .unk] ∧ cl = [.lst (posD (patS (befU f n) i).1), .dead], ⟨rfl, rfl⟩, fun i d sl' cl' hd hI hc => ?_, fun sl' cl' hI hc => ?_⟩
  · obtain ⟨rfl, rfl⟩ := hI
    have hi : i < n := by have := (List.getElem?_eq_some_iff.mp hd).1; rw [optsD_len] at this; exact this
    have ex : d = optD (befU f n i) := by
      unfold optsD at hd
      rw [List.getElem?_map, List.getElem?_range hi] at hd
      exact (Option.some.inj hd).symm
    subst ex
    have hl := patS_len (befU f n) i
    have hl2 : (posD (patS (befU f n) i).1).length = i := posD_length.trans hl
    have hs := patS_succ (befU f n) i
    unfold pstep at hs
    cases hg : befU f n i with
    | none =>
      rw [hg] at hs
      dsimp only at hs
      dsimp only [optD]
      walk_at "sy"
      refine ws_aug rfl ?_
      walk_at "sy"
      exact turn_of [.dat _, .own 0, .dat _, .unk] ⟨.inl rfl, .inl rfl, .inl rfl, .inr rfl, trivial⟩ ⟨by omega, trivial⟩ ⟨by rw [hs] <;> rfl, by rw [hs, posD_snoc] <;> rfl⟩
    | some k =>
      rw [hg] at hs
      dsimp only at hs
      have hk := hf k i (befU_some hg).1 (befU_some hg).2
      have hat := posD_at (ps := (patS (befU f n) i).1) (i := k) (by omega)
      dsimp only [optD]
      walk_at "sy"
      exact turn_of [.dat _, .own 0, .dat _, .unk] ⟨.inl rfl, .inl rfl, .inl rfl, .inr rfl, trivial⟩ ⟨by omega, trivial⟩ ⟨by rw [hs] <;> rfl, by rw [hs, posD_snoc] <;> rfl⟩
  · obtain ⟨rfl, rfl⟩ := hI
    walk_at "sy"
    rw [optsD_len]
    exact q
def NxOk (n : Nat) (f : Nat → Option Nat) : Prop := (∀ i e, f i = some e → i < e ∧ e < n) ∧ ∀ i j e, f i = some e → f j = some e → i = j
theorem nxk_ok {α : Type} [DecidableEq α] (ks : List α) : NxOk ks.length (nxk ks) := ⟨fun i e h => ⟨(nxk_spec h).1, (nxk_spec h).2.1⟩, fun i j e h1 h2 => nxk_inj h1 h2⟩
def byN (n : Nat) (f : Nat → Option Nat) : List Nat := (List.range n).filterMap (befU f n)
theorem bef_iff {n : Nat} {f : Nat → Option Nat} (h : NxOk n f) {i j : Nat} : befU f n j = some i ↔ f i = some j := by
  constructor
  · exact fun e => (befU_some e).2
  · intro e
    cases hb : befU f n j with
    | none =>
      have := h.1 i j e
      exact absurd e (befU_none hb i (by omega))
    | some k =>
      have := (befU_some hb).2
      rw [h.2 k i j this e]
theorem byN_mem {n : Nat} {f : Nat → Option Nat} (h : NxOk n f) {i : Nat} : i ∈ byN n f ↔ ∃ j, f i = some j := by
  unfold byN
  rw [List.mem_filterMap]
  constructor
  · rintro ⟨j, _, e⟩
    exact ⟨j, (bef_iff h).mp e⟩
  · rintro ⟨j, e⟩
    exact ⟨j, List.mem_range.mpr (h.1 i j e).2, (bef_iff h).mpr e⟩
def ltF (f : Nat → Option Nat) (i j : Nat) : Prop := ∃ a b, f i = some a ∧ f j = some b ∧ a < b
theorem byN_sorted {n : Nat} {f : Nat → Option Nat} (h : NxOk n f) : (byN n f).Pairwise (ltF f) := by
  unfold byN
  rw [List.pairwise_filterMap]
  refine List.Pairwise.imp ?_ List.pairwise_lt_range
  intro a b hab i hi j hj
  exact ⟨a, b, (bef_iff h).mp hi, (bef_iff h).mp hj, hab⟩
/-- two lists with the same members, sorted by the same order, are one -/
theorem sorted_ext {α : Type} {R : α → α → Prop} (asym : ∀ a b, R a b → ¬ R b a) : ∀ (xs ys : List α), xs.Pairwise R → ys.Pairwise R → (∀ k, k ∈ xs ↔ k ∈ ys) → xs = ys
  | [], [], _, _, _ => rfl
  | [], y :: ys, _, _, h => absurd ((h y).mpr List.mem_cons_self) List.not_mem_nil
  | x :: xs, [], _, _, h => absurd ((h x).mp List.mem_cons_self) List.not_mem_nil
  | x :: xs, y :: ys, hx, hy, h => by
    obtain ⟨x1, x2⟩ := List.pairwise_cons.mp hx
    obtain ⟨y1, y2⟩ := List.pairwise_cons.mp hy
    have e : x = y := by
      rcases List.mem_cons.mp ((h x).mp List.mem_cons_self) with z | z
      · exact z
      · rcases List.mem_cons.mp ((h y).mpr List.mem_cons_self) with z' | z'
        · exact z'.symm
        · exact absurd (y1 x z) (asym _ _ (x1 y z'))
    subst e
    have nx : x ∉ xs := fun z => (asym _ _ (x1 x z)) (x1 x z)
    have ny : x ∉ ys := fun z => (asym _ _ (y1 x z)) (y1 x z)
    have e2 := sorted_ext asym xs ys x2 y2 fun k => by
      have hk := h k
      rw [List.mem_cons, List.mem_cons] at hk
      constructor
      · intro z
        rcases hk.mp (.inr z) with q | q
        · exact absurd (q ▸ z) nx
        · exact q
      · intro z
        rcases hk.mpr (.inr z) with q | q
        · exact absurd (q ▸ z) ny
        · exact q
    rw [e2]
theorem ltF_asym {f : Nat → Option Nat} (i j : Nat) (h : ltF f i j) : ¬ ltF f j i := by
  rintro ⟨a, b, h1, h2, h3⟩
  obtain ⟨c, d, g1, g2, g3⟩ := h
  rw [h1] at g2
  rw [h2] at g1
  cases g1
  cases g2
  omega
theorem byN_uniq {n : Nat} {f : Nat → Option Nat} (h : NxOk n f) {l : List Nat} (hs : l.Pairwise (ltF f)) (hm : ∀ i, i ∈ l ↔ ∃ j, f i = some j) : l = byN n f :=
  sorted_ext ltF_asym _ _ hs (byN_sorted h) fun i => (hm i).trans (byN_mem h).symm
/-! results without facts and rules -/
def inB (f : Nat → Option Nat) (i j : Nat) : Bool := match f i, f j with
  | some a, some b => decide (j ≤ i) && decide (a ≤ b)
  | _, _ => false
theorem inB_iff {f : Nat → Option Nat} {i j : Nat} : inB f i j = true ↔ ∃ a b, f i = some a ∧ f j = some b ∧ j ≤ i ∧ a ≤ b := by
  unfold inB
  cases h1 : f i with
  | none => exact ⟨(fun z => by cases z), fun ⟨a, b, z, _⟩ => by cases z⟩
  | some a => cases h2 : f j with
    | none => exact ⟨(fun z => by cases z), fun ⟨_, b, _, z, _⟩ => by cases z⟩
    | some b =>
      dsimp only
      rw [Bool.and_eq_true, decide_eq_true_eq, decide_eq_true_eq]
      exact ⟨fun ⟨x, y⟩ => ⟨a, b, rfl, rfl, x, y⟩, fun ⟨a', b', e1, e2, x, y⟩ => by cases e1; cases e2; exact ⟨x, y⟩⟩
def goodB (n : Nat) (f : Nat → Option Nat) (L : List Nat) : Bool := (L.all fun k => (f k).isSome) && L.all fun k => (List.range n).all fun j => !inB f j k || decide (j ∈ L)
theorem goodB_iff {n : Nat} {f : Nat → Option Nat} {L : List Nat} : goodB n f L = true ↔ (∀ k ∈ L, ∃ e, f k = some e) ∧ ∀ k ∈ L, ∀ j, j < n → inB f j k = true → j ∈ L := by
  unfold goodB
  rw [Bool.and_eq_true, List.all_eq_true, List.all_eq_true]
  constructor
  · rintro ⟨h1, h2⟩
    refine ⟨fun k hk => Option.isSome_iff_exists.mp (h1 k hk), fun k hk j hj hb => ?_⟩
    have := List.all_eq_true.mp (h2 k hk) j (List.mem_range.mpr hj)
    rw [hb] at this
    simpa using this
  · rintro ⟨h1, h2⟩
    refine ⟨fun k hk => Option.isSome_iff_exists.mpr (h1 k hk), fun k hk => List.all_eq_true.mpr fun j hj => ?_⟩
    cases hb : inB f j k with
    | false => rfl
    | true => simpa using h2 k hk j (List.mem_range.mp hj) hb
def subsN : Nat → List (List Nat)
  | 0 => [[]]
  | k + 1 => subsN k ++ (subsN k).map fun l => l ++ [k]
def resN (n : Nat) (f : Nat → Option Nat) : List (List Nat) := (subsN n).filter (goodB n f)
theorem filter_subs (p : Nat → Bool) : ∀ n, (List.range n).filter p ∈ subsN n
  | 0 => List.mem_singleton.mpr rfl
  | n + 1 => by
    have ih := filter_subs p n
    unfold subsN
    rw [List.range_succ, List.filter_append, List.mem_append]
    cases hp : p n with
    | false => exact .inl (by rw [List.filter_cons, if_neg (by rw [hp]; exact Bool.false_ne_true), List.filter_nil, List.append_nil]; exact ih)
    | true => exact .inr (List.mem_map.mpr ⟨_, ih, by rw [List.filter_cons, if_pos hp, List.filter_nil]⟩)
theorem inB_order {n : Nat} {f : Nat → Option Nat} (h : NxOk n f) {i j a b : Nat} (hi : f i = some a) (hj : f j = some b) (hij : i < j) : b < a ↔ inB f j i = true := by
  rw [inB_iff]
  constructor
  · exact fun z => ⟨b, a, hj, hi, by omega, by omega⟩
  · rintro ⟨b', a', e1, e2, _, z⟩
    rw [hj] at e1
    rw [hi] at e2
    cases e1
    cases e2
    rcases Nat.lt_or_ge b a with q | q
    · exact q
    · have : a = b := by omega
      rw [this] at hi
      have := h.2 i j b hi hj
      omega
/-- the same results exactly if the same order of the next positions -/
theorem res_iff {n : Nat} {f g : Nat → Option Nat} (hf : NxOk n f) (hg : NxOk n g) : resN n f = resN n g ↔ byN n f = byN n g := by
  have fn : ∀ {f : Nat → Option Nat}, NxOk n f → ∀ i e, f i = some e → i < n := fun h i e he => by have := h.1 i e he; omega
  constructor
  · intro he
    have good : ∀ p : Nat → Bool, goodB n f ((List.range n).filter p) = goodB n g ((List.range n).filter p) := fun p => by
      have hm := filter_subs p n
      rw [Bool.eq_iff_iff]
      constructor
      · intro z
        have : (List.range n).filter p ∈ resN n f := List.mem_filter.mpr ⟨hm, z⟩
        rw [he] at this
        exact (List.mem_filter.mp this).2
      · intro z
        have : (List.range n).filter p ∈ resN n g := List.mem_filter.mpr ⟨hm, z⟩
        rw [← he] at this
        exact (List.mem_filter.mp this).2
    have clo : ∀ {f : Nat → Option Nat}, NxOk n f → ∀ i e, f i = some e → goodB n f ((List.range n).filter fun j => inB f j i) = true ∧ i ∈ (List.range n).filter fun j => inB f j i := fun {f} h i e hi => by
      refine ⟨goodB_iff.mpr ⟨fun k hk => ?_, fun k hk j hj hb => ?_⟩, List.mem_filter.mpr ⟨List.mem_range.mpr (fn h i e hi), inB_iff.mpr ⟨e, e, hi, hi, by omega, by omega⟩⟩⟩
      · obtain ⟨a, _, z, _⟩ := inB_iff.mp (List.mem_filter.mp hk).2
        exact ⟨a, z⟩
      · obtain ⟨a, b, z1, z2, z3, z4⟩ := inB_iff.mp (List.mem_filter.mp hk).2
        obtain ⟨c, d, y1, y2, y3, y4⟩ := inB_iff.mp hb
        rw [z1] at y2
        cases y2
        exact List.mem_filter.mpr ⟨List.mem_range.mpr hj, inB_iff.mpr ⟨c, b, y1, z2, by omega, by omega⟩⟩
    have half : ∀ {f g : Nat → Option Nat}, NxOk n f → NxOk n g → (∀ p : Nat → Bool, goodB n f ((List.range n).filter p) = goodB n g ((List.range n).filter p)) → ∀ i e, f i = some e → (∃ e', g i = some e') ∧ ∀ j, inB g j i = true → inB f j i = true := fun {f g} h1 h2 hgd i e hi => by
      obtain ⟨c1, c2⟩ := clo h1 i e hi
      rw [hgd] at c1
      obtain ⟨g1, g2⟩ := goodB_iff.mp c1
      refine ⟨g1 i c2, fun j hb => ?_⟩
      obtain ⟨a, b, y1, _⟩ := inB_iff.mp hb
      exact (List.mem_filter.mp (g2 i c2 j (fn h2 j a y1) hb)).2
    have some_iff : ∀ i, (∃ e, f i = some e) ↔ ∃ e, g i = some e := fun i => ⟨fun ⟨e, z⟩ => (half hf hg good i e z).1, fun ⟨e, z⟩ => (half hg hf (fun p => (good p).symm) i e z).1⟩
    have in_iff : ∀ i j, inB f j i = inB g j i := fun i j => by
      rw [Bool.eq_iff_iff]
      constructor
      · intro z
        obtain ⟨_, b, _, y, _⟩ := inB_iff.mp z
        obtain ⟨b', y'⟩ := (some_iff i).mp ⟨b, y⟩
        exact (half hg hf (fun p => (good p).symm) i b' y').2 j z
      · intro z
        obtain ⟨_, b, _, y, _⟩ := inB_iff.mp z
        obtain ⟨b', y'⟩ := (some_iff i).mpr ⟨b, y⟩
        exact (half hf hg good i b' y').2 j z
    refine byN_uniq hg ((byN_sorted hf).imp fun {i j} ⟨a, b, h1, h2, h3⟩ => ?_) fun i => (byN_mem hf).trans (some_iff i)
    obtain ⟨a', h1'⟩ := (some_iff i).mp ⟨a, h1⟩
    obtain ⟨b', h2'⟩ := (some_iff j).mp ⟨b, h2⟩
    refine ⟨a', b', h1', h2', ?_⟩
    rcases Nat.lt_trichotomy i j with z | z | z
    · have := inB_order hf h1 h2 z
      rw [in_iff, ← inB_order hg h1' h2' z] at this
      rcases Nat.lt_trichotomy a' b' with q | q | q
      · exact q
      · rw [q] at h1'
        have := hg.2 i j b' h1' h2'
        omega
      · have := this.mpr q
        omega
    · rw [z] at h1
      rw [h1] at h2
      cases h2
      omega
    · have := inB_order hf h2 h1 z
      rw [in_iff, ← inB_order hg h2' h1' z] at this
      exact this.mp h3
  · intro he
    have some_iff : ∀ i, (∃ e, f i = some e) ↔ ∃ e, g i = some e := fun i => by rw [← byN_mem hf, ← byN_mem hg, he]
    have ord : ∀ {f g : Nat → Option Nat}, NxOk n f → NxOk n g → byN n f = byN n g → ∀ i j a b a' b', f i = some a → f j = some b → g i = some a' → g j = some b' → a < b → a' < b' := fun {f g} h1 h2 he i j a b a' b' x1 x2 y1 y2 hab => by
      have s1 := byN_sorted h1
      have s2 := byN_sorted h2
      rw [← he] at s2
      have mi : i ∈ byN n f := (byN_mem h1).mpr ⟨a, x1⟩
      have mj : j ∈ byN n f := (byN_mem h1).mpr ⟨b, x2⟩
      obtain ⟨k, hk, ek⟩ := List.mem_iff_getElem.mp mi
      obtain ⟨m, hm, em⟩ := List.mem_iff_getElem.mp mj
      rw [List.pairwise_iff_getElem] at s1 s2
      rcases Nat.lt_trichotomy k m with z | z | z
      · obtain ⟨c, d, w1, w2, w3⟩ := s2 k m hk hm z
        rw [ek, y1] at w1
        rw [em, y2] at w2
        cases w1
        cases w2
        exact w3
      · subst z
        rw [ek] at em
        rw [em, x2] at x1
        cases x1
        omega
      · obtain ⟨c, d, w1, w2, w3⟩ := s1 m k hm hk z
        rw [em, x2] at w1
        rw [ek, x1] at w2
        cases w1
        cases w2
        omega
    have in_iff : ∀ {f g : Nat → Option Nat}, NxOk n f → NxOk n g → byN n f = byN n g → ∀ i j, inB f j i = true → inB g j i = true := fun {f g} h1 h2 he i j hb => by
      obtain ⟨a, b, x1, x2, x3, x4⟩ := inB_iff.mp hb
      have m1 : ∃ e, g j = some e := by rw [← byN_mem h2, ← he, byN_mem h1]; exact ⟨a, x1⟩
      have m2 : ∃ e, g i = some e := by rw [← byN_mem h2, ← he, byN_mem h1]; exact ⟨b, x2⟩
      obtain ⟨a', y1⟩ := m1
      obtain ⟨b', y2⟩ := m2
      refine inB_iff.mpr ⟨a', b', y1, y2, x3, ?_⟩
      rcases Nat.lt_or_ge a b with q | q
      · exact Nat.le_of_lt (ord h1 h2 he j i a b a' b' x1 x2 y1 y2 q)
      · have : a = b := by omega
        rw [this] at x1
        have := h1.2 j i b x1 x2
        rw [this, y2] at y1
        cases y1
        exact Nat.le_refl _
    have hin : ∀ i j, inB f j i = inB g j i := fun i j => Bool.eq_iff_iff.mpr ⟨in_iff hf hg he i j, in_iff hg hf he.symm i j⟩
    unfold resN
    congr 1
    funext L
    rw [Bool.eq_iff_iff, goodB_iff, goodB_iff]
    constructor
    · rintro ⟨h1, h2⟩
      exact ⟨fun k hk => (some_iff k).mp (h1 k hk), fun k hk j hj hb => h2 k hk j hj (by rw [hin]; exact hb)⟩
    · rintro ⟨h1, h2⟩
      exact ⟨fun k hk => (some_iff k).mpr (h1 k hk), fun k hk j hj hb => h2 k hk j hj (by rw [← hin]; exact hb)⟩
theorem posD_inj {ps qs : List Nat} (h : posD ps = posD qs) : ps = qs := by
  unfold posD at h
  exact (List.map_inj_right fun a b h => by have := PyData.int.inj h; omega).mp h
theorem posD_eqv2 (ps qs : List Nat) : PyData.eqv (.list (posD ps)) (.list (posD qs)) = decide (ps = qs) := by
  have h : ∀ l m : List Nat, PyData.eqvAll (posD l) (posD m) = decide (l = m) := fun l => by
    induction l with
    | nil => intro m; cases m <;> rfl
    | cons a l ih =>
      intro m
      cases m with
      | nil => rfl
      | cons b m =>
        show (PyData.eqv (.int (a : Int)) (.int (b : Int)) && PyData.eqvAll (posD l) (posD m)) = _
        rw [ih]
        show (decide ((a : Int) = (b : Int)) && decide (l = m)) = _
        by_cases h1 : a = b
        · subst h1
          by_cases h2 : l = m
          · simp [h2]
          · simp [h2]
        · have : ¬ (a : Int) = (b : Int) := by omega
          simp [h1, this]
  exact h ps qs
theorem opt_filter {n : Nat} {g : Nat → Option Nat} (F : PyData → Option PyData) (hF : ∀ o, F (optD o) = o.map fun (k : Nat) => PyData.int (k : Int)) : (optsD n g).filterMap F = posD ((List.range n).filterMap g) := by
  unfold optsD posD
  rw [List.filterMap_map, List.map_filterMap]
  congr 1
  funext i
  exact hF (g i)
def someF : PyData → Option PyData | .int k => some (.int k) | _ => none
theorem someF_opt (o : Option Nat) : someF (optD o) = o.map fun (k : Nat) => PyData.int (k : Int) := by cases o <;> rfl
theorem nxt_ok (rs : List Row) : NxOk rs.length (nxt rs) := by
  have h := nxk_ok (rs.map Prod.fst)
  rw [List.length_map] at h
  have e : nxt rs = nxk (rs.map Prod.fst) := funext fun i => nxt_nxk rs i
  rw [e]
  exact h
def pr_by_next : Pr := prO fun ds es => ∃ rs : List Row, ds = [rowsD rs] ∧ rs.length ≤ 10000 ∧ es = posD (byN rs.length (nxt rs))
theorem ok_by_next (T : Txt K mg) : FnOk Pg w K mg base CX0 2 T.f_by_next T.d_by_next ["log"] (spS K pr_by_next) := by
  refine ok_of _ T.F_by_next sc_by_next (hlenO fun ds d ⟨_, h, _⟩ => dlen h rfl) (fun cdv A outer s H E hr => ⟨_, (pss_one (ps_ret (pe_lc rfl sc_by_next.nd (own := [("i", 1)]) (pi_list (pe_call (ok_befores_of T) (hr.mono (by decide)) (by rfl) T.g_befores_of T.F_befores_of.kp T.B_befores_of .nil pass0 (pa_cons (pe_call (ok_next_list T) (hr.mono (by decide)) (by rfl) T.g_next_list T.F_next_list.kp T.B_next_list .nil pass0 (pa_cons (pv 0) pa_nil)) pa_nil))) (blkOk_by (own := [("i", 1)]) (N := N_by_next) (sc := (defScope s_by_next)) (by decide +kernel)) (fun _ _ _ _ _ => (pg_name (i := 1) sc_by_next.nd rfl (.inl rfl))) (fun _ _ _ _ _ => (pts_one (pt_cmpR op_notN (pv 1) pe_non (nomark _)))) (fun _ _ _ _ _ => (pv 1))))), ?_⟩)
  walk_at "sy0"
  try dsimp only [N_by_next, List.length_cons, List.length_nil, Nat.reduceAdd, Nat.reduceSub, List.replicate, List.cons_append, List.nil_append]
  rintro as cl Φ ⟨_, _, rfl, rfl, ⟨rs, rfl, hz, rfl⟩, q⟩
  dsimp only [List.map]
  refine ws_ret (lc_mapO someF (wi_list (wp_frz (wp_callE (wa_cons (wp_frz (wp_callE ?_)))))))
  walk_at "sy"
  refine ⟨_, call_own rfl ⟨rs, rfl, hz, rfl⟩ ⟨_, _, rfl, rfl, ?_⟩⟩
  walk_at "sy"
  refine ⟨_, call_own rfl ⟨rs.length, nxt rs, rfl, hz, fun i e _ h => (nxt_lt h).2, rfl⟩ ⟨_, _, rfl, rfl, _, rfl, ?_⟩⟩
  refine ⟨by rw [optsD_len]; omega, gk_name (by simp), fun i d hd => ?_, ?_⟩
  · unfold optsD at hd
    rw [List.getElem?_map] at hd
    cases hi : (List.range rs.length)[i]? with
    | none => rw [hi] at hd; cases hd
    | some j =>
      rw [hi] at hd
      have hd : optD (befU (nxt rs) rs.length j) = d := Option.some.inj hd
      subst hd
      cases befU (nxt rs) rs.length j with
      | none =>
        dsimp only [optD, wipeS]
        walk_at "sy"
        try rfl
      | some k =>
        dsimp only [optD, wipeS]
        walk_at "sy"
        try rfl
  · rw [opt_filter someF someF_opt]
    exact ⟨_, rfl, q⟩
def alikeB (n m : Nat) (f g : Nat → Option Nat) : Bool := decide (n = m) && decide (byN n f = byN m g)
def pr_are_alike : Pr := prD fun ds d => ∃ rs ss : List Row, ds = [rowsD rs, rowsD ss] ∧ isRows rs ∧ isRows ss ∧ d = .bool (alikeB rs.length ss.length (nxt rs) (nxt ss))
theorem ok_are_alike (T : Txt K mg) : FnOk Pg w K mg base CX0 4 T.f_are_alike T.d_are_alike ["log", "other"] (spS K pr_are_alike) := by
  refine ok_of _ T.F_are_alike sc_are_alike (hlenD fun ds d ⟨_, _, h, _⟩ => dlen h rfl) (fun cdv A outer s H E hr => ⟨_, (pss_cons (ps_expr (pe_call (ok_check_log T) (hr.mono (by decide)) (by rfl) T.g_check_log T.F_check_log.kp T.B_check_log .nil pass0 (pa_cons (pv 0) pa_nil))) 
    (pss_cons (ps_expr (pe_call (ok_check_log T) (hr.mono (by decide)) (by rfl) T.g_check_log T.F_check_log.kp T.B_check_log .nil pass0 (pa_cons (pv 1) pa_nil))) 
    (pss_one (ps_ret (pe_and (pe_cmpR (OpR.or op_eq (op_eqD hr.units)) (pe_callB call_len (by rfl) T.z_len (by decide +kernel) (pa_cons (pv 0) pa_nil)) (pe_callB call_len (by rfl) T.z_len (by decide +kernel) (pa_cons (pv 1) pa_nil)) (nomark _)) (pe_one (pe_cmpR (OpR.or op_eq (op_eqD hr.units)) (pe_call (ok_by_next T) (hr.mono (by decide)) (by rfl) T.g_by_next T.F_by_next.kp T.B_by_next .nil pass0 (pa_cons (pv 0) pa_nil)) (pe_call (ok_by_next T) (hr.mono (by decide)) (by rfl) T.g_by_next T.F_by_next.kp T.B_by_next .nil pass0 (pa_cons (pv 1) pa_nil)) (nomark _)))))))), ?_⟩)
  walk_at "sy0"
  try dsimp only [N_are_alike, List.length_cons, List.length_nil, Nat.reduceAdd, Nat.reduceSub, List.replicate, List.cons_append, List.nil_append]
  rintro as cl Φ ⟨_, _, rfl, rfl, ⟨rs, ss, rfl, ⟨hz, hk⟩, ⟨hz2, hk2⟩, rfl⟩, q⟩
  have hn : (rs.map rowD).length = rs.length := List.length_map _
  have hn2 : (ss.map rowD).length = ss.length := List.length_map _
  dsimp only [List.map]
  walk_at "sy"
  refine ⟨_, call_dat rfl ⟨_, rfl, by omega, hk, rfl⟩ ?_⟩
  walk_at "sy"
  refine ⟨_, call_dat rfl ⟨_, rfl, by omega, hk2, rfl⟩ ?_⟩
  unfold alikeB at q
  refine ws_ret (wp_andV ?_)
  dsimp only [rowsD]
  walk_at "sy"
  rw [hn, hn2]
  by_cases h : rs.length = ss.length
  · rw [decide_eq_true h, Bool.true_and] at q
    have h' : (rs.length : Int) = (ss.length : Int) := by omega
    rw [decide_eq_true h']
    refine iteT0 ?_
    walk_at "sy"
    refine ⟨_, call_own rfl ⟨rs, rfl, hz, rfl⟩ ?_⟩
    walk_at "sy"
    refine ⟨_, call_own rfl ⟨ss, rfl, hz2, rfl⟩ ?_⟩
    refine wo_inr (wo_eqD rfl rfl (posD_ok.shaped (by decide)) (posD_ok.shaped (by decide)) ?_)
    rw [posD_eqv2]
    exact q
  · rw [decide_eq_false h, Bool.false_and] at q
    have h' : ¬ (rs.length : Int) = (ss.length : Int) := by omega
    rw [decide_eq_false h']
    refine iteF0 ?_
    exact q
section
variable {α β : Type} [DecidableEq α] [DecidableEq β]
def dedA (acc : List α) : List α → List α
  | [] => acc
  | x :: t => dedA (if x ∈ acc then acc else acc ++ [x]) t
def ded (l : List α) : List α := dedA [] l
theorem dedA_app : ∀ (l m acc : List α), dedA acc (l ++ m) = dedA (dedA acc l) m
  | [], _, _ => rfl
  | x :: l, m, acc => dedA_app l m _
theorem ded_snoc (l : List α) (x : α) : ded (l ++ [x]) = if x ∈ ded l then ded l else ded l ++ [x] := by
  unfold ded
  rw [dedA_app] <;> rfl
theorem mem_dedA {y : α} : ∀ (l acc : List α), y ∈ dedA acc l ↔ y ∈ acc ∨ y ∈ l
  | [], acc => by simp [dedA]
  | x :: l, acc => by
    unfold dedA
    rw [mem_dedA l, List.mem_cons]
    by_cases h : x ∈ acc
    · rw [if_pos h]
      constructor
      · exact fun z => z.elim .inl fun z => .inr (.inr z)
      · rintro (z | z | z)
        · exact .inl z
        · exact .inl (z ▸ h)
        · exact .inr z
    · rw [if_neg h, List.mem_append, List.mem_singleton]
      constructor
      · rintro ((z | z) | z)
        · exact .inl z
        · exact .inr (.inl z)
        · exact .inr (.inr z)
      · rintro (z | z | z)
        · exact .inl (.inl z)
        · exact .inl (.inr z)
        · exact .inr z
theorem mem_ded {y : α} {l : List α} : y ∈ ded l ↔ y ∈ l := by
  unfold ded
  rw [mem_dedA]
  simp
theorem dedA_map {f : α → β} : ∀ (l acc : List α), (∀ a, a ∈ acc ∨ a ∈ l → ∀ b, b ∈ acc ∨ b ∈ l → f a = f b → a = b) → dedA (acc.map f) (l.map f) = (dedA acc l).map f
  | [], _, _ => rfl
  | x :: l, acc, h => by
    rw [List.map_cons]
    unfold dedA
    have e : (f x ∈ acc.map f) ↔ x ∈ acc := by
      constructor
      · intro z
        obtain ⟨a, ha, e⟩ := List.mem_map.mp z
        rw [← h a (.inl ha) x (.inr List.mem_cons_self) e]
        exact ha
      · exact fun z => List.mem_map.mpr ⟨x, z, rfl⟩
    by_cases hx : x ∈ acc
    · rw [if_pos (e.mpr hx), if_pos hx]
      exact dedA_map l acc fun a ha b hb => h a (ha.imp id (List.mem_cons_of_mem _)) b (hb.imp id (List.mem_cons_of_mem _))
    · rw [if_neg (fun z => hx (e.mp z)), if_neg hx]
      have := dedA_map (f := f) l (acc ++ [x]) fun a ha b hb => h a (by
        rw [List.mem_append, List.mem_singleton] at ha
        rcases ha with (z | z) | z
        · exact .inl z
        · exact .inr (z ▸ List.mem_cons_self)
        · exact .inr (List.mem_cons_of_mem _ z)) b (by
        rw [List.mem_append, List.mem_singleton] at hb
        rcases hb with (z | z) | z
        · exact .inl z
        · exact .inr (z ▸ List.mem_cons_self)
        · exact .inr (List.mem_cons_of_mem _ z))
      rw [List.map_append] at this
      exact this
theorem ded_map {f : α → β} {l : List α} (h : ∀ a ∈ l, ∀ b ∈ l, f a = f b → a = b) : ded (l.map f) = (ded l).map f :=
  dedA_map l [] fun a ha b hb => h a (ha.elim (fun z => (List.not_mem_nil z).elim) id) b (hb.elim (fun z => (List.not_mem_nil z).elim) id)
/-- the first place of a value -/
def ixO (x : α) : List α → Nat
  | [] => 0
  | y :: t => if y = x then 0 else ixO x t + 1
theorem ixO_lt {x : α} : ∀ {l : List α}, x ∈ l → ixO x l < l.length
  | [], h => (List.not_mem_nil h).elim
  | y :: t, h => by
    unfold ixO
    by_cases e : y = x
    · rw [if_pos e]; exact Nat.succ_pos _
    · rw [if_neg e]
      have := ixO_lt ((List.mem_cons.mp h).resolve_left fun z => e z.symm)
      rw [List.length_cons]; omega
theorem ixO_get {x : α} : ∀ {l : List α}, x ∈ l → l[ixO x l]? = some x
  | [], h => (List.not_mem_nil h).elim
  | y :: t, h => by
    unfold ixO
    by_cases e : y = x
    · rw [if_pos e, e] <;> rfl
    · rw [if_neg e]
      exact ixO_get ((List.mem_cons.mp h).resolve_left fun z => e z.symm)
theorem ixO_first {x y : α} : ∀ {l : List α} {m : Nat}, m < ixO x l → l[m]? = some y → y ≠ x
  | [], _, h, _ => (Nat.not_lt_zero _ h).elim
  | z :: t, m, h, hy => by
    unfold ixO at h
    by_cases e : z = x
    · rw [if_pos e] at h; exact (Nat.not_lt_zero _ h).elim
    · rw [if_neg e] at h
      cases m with
      | zero => rw [← Option.some.inj (show some z = some y from hy)]; exact e
      | succ m => exact ixO_first (l := t) (m := m) (by omega) hy
theorem ixO_inj {x y : α} {l : List α} (hx : x ∈ l) (hy : y ∈ l) (h : ixO x l = ixO y l) : x = y := by
  have a := ixO_get hx
  rw [h, ixO_get hy] at a
  exact (Option.some.inj a).symm
theorem ixO_app {x : α} : ∀ {l m : List α}, x ∈ l → ixO x (l ++ m) = ixO x l
  | [], _, h => (List.not_mem_nil h).elim
  | y :: t, m, h => by
    rw [List.cons_append]
    unfold ixO
    by_cases e : y = x
    · rw [if_pos e, if_pos e]
    · rw [if_neg e, if_neg e, ixO_app ((List.mem_cons.mp h).resolve_left fun z => e z.symm)]
theorem ixO_new {x : α} : ∀ {l : List α}, x ∉ l → ixO x (l ++ [x]) = l.length
  | [], _ => by show (if x = x then 0 else _) = 0; rw [if_pos rfl]
  | y :: t, h => by
    rw [List.cons_append]
    unfold ixO
    rw [if_neg (fun z => h (by rw [z]; exact List.mem_cons_self)), ixO_new fun z => h (List.mem_cons_of_mem _ z), List.length_cons]
theorem ixO_map {f : α → β} {x : α} : ∀ {l : List α}, (∀ a ∈ l, f a = f x → a = x) → ixO (f x) (l.map f) = ixO x l
  | [], _ => rfl
  | y :: t, h => by
    rw [List.map_cons]
    unfold ixO
    by_cases e : y = x
    · rw [if_pos e, if_pos (by rw [e])]
    · rw [if_neg e, if_neg (fun z => e (h y List.mem_cons_self z)), ixO_map fun a ha => h a (List.mem_cons_of_mem _ ha)]
def patL (xs : List α) : List Nat := xs.map fun x => ixO x (ded xs)
theorem patL_len (xs : List α) : (patL xs).length = xs.length := List.length_map _
theorem patL_map {f : α → β} {l : List α} (h : ∀ a ∈ l, ∀ b ∈ l, f a = f b → a = b) : patL (l.map f) = patL l := by
  unfold patL
  rw [List.map_map, ded_map h]
  refine List.map_congr_left fun x hx => ?_
  exact ixO_map fun a ha e => h a (mem_ded.mp ha) x hx e
theorem patL_self {l : List α} : patL (patL l) = patL l := by
  show patL (l.map _) = _
  exact patL_map fun a ha b hb e => ixO_inj (mem_ded.mpr ha) (mem_ded.mpr hb) e
theorem patL_snoc (l : List α) (x : α) : patL (l ++ [x]) = patL l ++ [ixO x (ded (l ++ [x]))] := by
  unfold patL
  rw [List.map_append]
  congr 1
  refine List.map_congr_left fun y hy => ?_
  rw [ded_snoc]
  split
  · rfl
  · exact ixO_app (mem_ded.mpr hy)
theorem ded_len (l : List α) : (ded l).length ≤ l.length := by
  have : ∀ (l acc : List α), (dedA acc l).length ≤ acc.length + l.length := fun l => by
    induction l with
    | nil => exact fun acc => Nat.le_refl _
    | cons x t ih =>
      intro acc
      unfold dedA
      have := ih (if x ∈ acc then acc else acc ++ [x])
      have h2 : (if x ∈ acc then acc else acc ++ [x]).length ≤ acc.length + 1 := by
        split
        · omega
        · rw [List.length_append] <;> exact Nat.le_refl _
      rw [List.length_cons]
      omega
  have := this l []
  simpa [ded] using this
theorem patL_lt {l : List α} {p : Nat} (h : p ∈ patL l) : p < l.length := by
  obtain ⟨x, hx, rfl⟩ := List.mem_map.mp h
  exact Nat.lt_of_lt_of_le (ixO_lt (mem_ded.mpr hx)) (ded_len l)
end
end
end Kp
end

section
-- conditions of operations on ints
local macro_rules | `(tactic| walk_at "syc") => `(tactic| first
  | exact Sy.cpow (by decide) (by decide)
  | exact Sy.mul_l (by omega) (by omega)
  | exact Sy.mul_r (by omega) (by omega)
  | exact Sy.fdiv_ok (by omega) (by omega)
  | ((show (0 : Int) < _); first | omega | (simp only [Sy.pow12, Sy.pow18, Sy.pow29, Sy.pow38, Sy.pow39, Sy.pow40]; omega)))
-- one step of the symbolic run
local macro_rules | `(tactic| walk_at "sy1") => `(tactic| first
  | with_reducible refine' Sy.ws_seq ?_
  | (with_reducible refine' Sy.ws_setI ?_)
  | (with_reducible refine' Sy.ws_asg ?_)
  | with_reducible refine' Sy.ws_ret (Sy.wp_lstO ?_)
  | with_reducible refine' Sy.ws_ret ?_
  | with_reducible refine' Sy.ws_if ?_
  | with_reducible refine' Sy.ws_drop ?_
  | with_reducible refine' Sy.ws_next ?_
  | with_reducible refine' Sy.ws_par ?_
  | with_reducible refine' Sy.wp_app ?_
  | with_reducible refine' Sy.ws_setI ?_
  | with_reducible refine' Sy.ws_dput ?_
  | with_reducible refine' Sy.wp_dget1 ?_
  | with_reducible refine' Sy.wp_dnotin ?_
  | ((with_reducible refine' Sy.wp_var ?h1 ?h2 ?_); (case h1 => rfl); (case h2 => (intro z; cases z)))
  | ((with_reducible refine' Sy.wp_c ?h1 ?_); (case h1 => rfl))
  | with_reducible refine' Sy.isi_int ?_
  | with_reducible refine' Sy.isi_bool ?_
  | with_reducible refine' Sy.isi_str ?_
  | with_reducible refine' Sy.isi_list ?_
  | with_reducible refine' Sy.isi_tuple ?_
  | with_reducible refine' Sy.isi_seq ?_
  | with_reducible refine' Sy.wp_op ?_
  | with_reducible refine' Sy.wp_neg ?_
  | with_reducible refine' Sy.wp_test ?_
  | with_reducible refine' Sy.wp_testB ?_
  | with_reducible refine' Sy.wp_and ?_
  | with_reducible refine' Sy.wp_or ?_
  | with_reducible refine' Sy.wp_not ?_
  | with_reducible refine' Sy.wp_if ?_
  | with_reducible refine' Sy.wp_andV ?_
  | with_reducible refine' Sy.wp_orV ?_
  | with_reducible refine' Sy.wp_notV ?_
  | with_reducible refine' Sy.wp_chain ?_
  | with_reducible refine' Sy.wp_cb ?_
  | with_reducible refine' Sy.wp_callE ?_
  | with_reducible refine' Sy.wp_callX0 ?_
  | (with_reducible refine' Sy.wp_ext ?_)
  | with_reducible refine' Sy.wp_tup ?_
  | with_reducible refine' Sy.wp_lst ?_
  | with_reducible refine' Sy.wp_sl ?_
  | with_reducible refine' Sy.wp_rev ?_
  | with_reducible refine' Sy.wp_join ?_
  | with_reducible refine' Sy.wo_none ?_
  | with_reducible refine' Sy.wo_some ?_
  | with_reducible refine' Sy.wa_nil ?_
  | with_reducible refine' Sy.wa_cons ?_
  | with_reducible refine' Sy.wp_yes ?_
  | with_reducible refine' Sy.wg_name ?_
  | with_reducible refine' Sy.wgs_nil ?_
  | with_reducible refine' Sy.wgs_cons ?_
  | (refine' Sy.wg_tup rfl rfl ?_)
  | (refine' Sy.wo_inl (Sy.wo_I0 rfl rfl rfl ?_))
  | (refine' Sy.wo_I0 rfl rfl rfl ?_)
  | (refine' Sy.wo_sign rfl rfl ?_)
  | (refine' Sy.wo_inl (Sy.wo_I rfl rfl ?h1 rfl ?_); (case h1 => walk_at "syc"))
  | (refine' Sy.wo_I rfl rfl ?h1 rfl ?_; (case h1 => walk_at "syc"))
  | (refine' Sy.wo_isN ?h1 rfl ?_; (case h1 => (intro z; cases z)))
  | (refine' Sy.wo_notN ?h1 rfl ?_; (case h1 => (intro z; cases z)))
  | (refine' Sy.wo_eq rfl rfl rfl ?_)
  | (refine' Sy.wo_inl (Sy.wo_eq rfl rfl rfl ?_))
  | (refine' Sy.wo_ne rfl rfl rfl ?_)
  | (refine' Sy.wo_inl (Sy.wo_ne rfl rfl rfl ?_))
  | (refine' Sy.wo_ixL rfl rfl ?h1 ?_; (case h1 => first | rfl | assumption))
  | (refine' Sy.wo_ixT rfl rfl ?h1 ?_; (case h1 => first | rfl | assumption))
  | (refine' Sy.wc_int1 rfl ?_)
  | (refine' Sy.wc_abs rfl ?_)
  | (refine' Sy.wc_max2 rfl rfl ?_)
  | (refine' Sy.wc_min2 rfl rfl ?_)
  | (refine' Sy.wc_len rfl ?_)
  | (refine' Sy.wc_lenS rfl ?h1 ?_; (case h1 => omega))
  | (refine' Sy.wc_list rfl ?_)
  | (refine' Sy.wc_listT rfl ?_)
  | (refine' Sy.wc_tuple rfl ?_)
  | ((with_reducible refine' And.intro ?h1 ?_); (case h1 => first | (with_reducible rfl) | omega | decide | (simp only [List.length_cons, List.length_nil]; omega)))
  | ((with_reducible show @ite Prop (true = true) _ _ _); refine' Sy.iteT0 ?_)
  | ((with_reducible show @ite Prop (false = true) _ _ _); refine' Sy.iteF0 ?_)
  | ((with_reducible show @ite Prop ((!true) = true) _ _ _); refine' Sy.iteNT ?_)
  | ((with_reducible show @ite Prop (@decide _ _ = true) _ _ _); (refine' Sy.iteDT ?h1 ?_); (case h1 => first | omega | rfl | (intro z; cases z)))
  | ((with_reducible show @ite Prop (@decide _ _ = true) _ _ _); (refine' Sy.iteDF ?h1 ?_); (case h1 => first | omega | rfl | (intro z; cases z)))
  | ((with_reducible show @ite Prop ((!@decide _ _) = true) _ _ _); (refine' Sy.iteND ?h1 ?_); (case h1 => first | omega | rfl | (intro z; cases z)))
  | ((with_reducible show @ite Prop ((!@decide _ _) = true) _ _ _); (refine' Sy.iteNDF ?h1 ?_); (case h1 => first | omega | rfl | (intro z; cases z)))
  | ((with_reducible show @ite Prop ((!false) = true) _ _ _); refine' Sy.iteNF ?_)
  | (with_reducible refine' Sy.ws_try ?_)
  | (with_reducible refine' Sy.wsx_drop (Sy.wx_call (Sy.wax_of ?_)))
  | (with_reducible refine' Sy.wsx_asg (Sy.wx_call (Sy.wax_of ?_)))
  | (with_reducible refine' Sy.wsx_ret (Sy.wx_call (Sy.wax_of ?_)))
  | (with_reducible refine' Sy.wsx_of ?_)
  | (refine ⟨_, rfl, ⟨_, rfl⟩, ?_⟩)
  | (refine ⟨_, rfl, ?_⟩)
  | (refine ⟨_, _, rfl, rfl, ?_⟩)
  | (refine ⟨_, _, rfl, ?_⟩)
  | ((refine' Sy.iteNo ?h1 ?_); (case h1 => (intro z; cases z)))
  | ((refine' Sy.iteYes ?h1 ?_); (case h1 => rfl)))
-- many steps
local macro_rules | `(tactic| walk_at "syd") => `(tactic| try dsimp only [List.set, List.length_cons, List.length_nil, Nat.reduceAdd, Sy.isNon, List.cons_append, List.nil_append, List.map, Bool.not_true, Bool.not_false, Sy.Ty.isInt, Sy.Ty.isBool, Sy.Ty.isStr, Sy.Ty.isList, Sy.Ty.isTuple, Sy.Ty.isSeq])
local macro_rules | `(tactic| walk_at "sy") => `(tactic| repeat ((walk_at "sy1"); (walk_at "syd")))
-- the start of a body
local macro_rules | `(tactic| walk_at "sy0") => `(tactic| dsimp only [L2.cxOf, List.length_cons, List.length_nil, Nat.reduceAdd, Nat.reduceSub, List.replicate, List.cons_append, List.nil_append])
-- a turn's end: the slots and the cells are said by the invariant
local macro_rules | `(tactic| walk_at "wkl") => `(tactic| repeat' first | exact trivial | refine ⟨.inl rfl, ?_⟩ | refine ⟨.inr rfl, ?_⟩)
local macro_rules | `(tactic| walk_at "lowl") => `(tactic| repeat' first | exact trivial | refine ⟨by omega, ?_⟩)
local macro_rules | `(tactic| walk_at "turn") => `(tactic| refine Sy.turn_q ⟨rfl, rfl⟩ (by walk_at "wkl") (by walk_at "lowl"))

namespace Kp
open PySem PySem.Spec L2 Sy
section
variable {Pg : Program} {w : World} {K : PySem.W.Frag} {mg : Str → Option Value} {base : Heap}
def keyS (n : Nat) : Str := ((⟨#[97 + n % 26]⟩ : Str) ++ ⟨#[97 + n / 26 % 26]⟩) ++ (if n % 2 = 0 then Str.ofString "" else Str.ofString "x")
theorem low_e : Low1 (Str.ofString "") := fun c hc => by
  have e : (Str.ofString "").cps.toList = [] := by decide +kernel
  rw [e] at hc; cases hc
theorem low_x : Low1 (Str.ofString "x") := fun c hc => by
  have e : (Str.ofString "x").cps.toList = [120] := by decide +kernel
  rw [e] at hc
  rw [List.mem_singleton.mp hc]; omega
theorem len_e : (Str.ofString "").length = 0 := by decide +kernel
theorem len_x : (Str.ofString "x").length = 1 := by decide +kernel
theorem keyS_key (n : Nat) : Key1 (keyS n) := by
  unfold keyS
  have l1 : ((⟨#[97 + n % 26]⟩ : Str) ++ ⟨#[97 + n / 26 % 26]⟩).length = 2 := by rw [app_len] <;> rfl
  refine ⟨by rw [app_len, l1]; omega, ?_, low_app (low_app (low_sign (Nat.mod_lt _ (by decide))) (low_sign (Nat.mod_lt _ (by decide)))) ?_⟩
  · rw [app_len, l1]
    split
    · rw [len_e]; omega
    · rw [len_x]; omega
  · split
    · exact low_e
    · exact low_x
theorem keyS_inj {n m : Nat} (h : keyS n = keyS m) : n % 676 = m % 676 := by
  have e := congrArg (fun z : Str => z.cps.toList) h
  unfold keyS at e
  rw [app_list, app_list, app_list, app_list] at e
  have e : (97 + n % 26) :: (97 + n / 26 % 26) :: (if n % 2 = 0 then Str.ofString "" else Str.ofString "x").cps.toList = (97 + m % 26) :: (97 + m / 26 % 26) :: (if m % 2 = 0 then Str.ofString "" else Str.ofString "x").cps.toList := e
  obtain ⟨e1, e2⟩ := List.cons.inj e
  have e3 := (List.cons.inj e2).1
  omega
def pr__law_key : Pr := prD fun ds d => ∃ n : Nat, ds = [.int (n : Int)] ∧ n ≤ 100000 ∧ d = .str (keyS n)
theorem ok__law_key (T : Txt K mg) : FnOk Pg w K mg base CX0 1 T.f__law_key T.d__law_key ["number_here"] (spS K pr__law_key) := by
  refine ok_of _ T.F__law_key sc__law_key (hlenD fun ds d ⟨_, h, _⟩ => dlen h rfl) (fun cdv A outer s H E hr => ⟨_, (pss_cons (ps_set (i := 1) sc__law_key.nd rfl (.inl rfl) pe_str) 
    (pss_one (ps_ret (pe_op (OpR.or op_add (OpR.or op_cat op_add_str)) (pe_op (OpR.or op_add (OpR.or op_cat op_add_str)) (pe_ix ix_seq (pv 1) (pe_op op_mod (pv 0) pe_int) (fun _ _ => rfl)) (pe_ix ix_seq (pv 1) (pe_op op_mod (pe_op op_fdivW (pv 0) pe_int) pe_int) (fun _ _ => rfl))) (pe_ix ix_seq (pe_lst (pa_cons pe_str (pa_cons pe_str pa_nil))) (pe_op op_mod (pv 0) pe_int) (fun _ _ => rfl)))))), ?_⟩)
  walk_at "sy0"
  try dsimp only [N__law_key, List.length_cons, List.length_nil, Nat.reduceAdd, Nat.reduceSub, List.replicate, List.cons_append, List.nil_append]
  rintro as cl Φ ⟨_, _, rfl, rfl, ⟨n, rfl, hn, rfl⟩, q⟩
  dsimp only [List.map]
  walk_at "sy"
  have e1 : (n : Int) % 26 = ((n % 26 : Nat) : Int) := by omega
  rw [e1]
  refine wo_ixS rfl rfl (by rw [letters_len]; omega) (letters_at (Nat.mod_lt _ (by decide))) ?_
  walk_at "sy"
  have e2 : (n : Int) / 26 % 26 = ((n / 26 % 26 : Nat) : Int) := by omega
  rw [e2]
  refine wo_ixS rfl rfl (by rw [letters_len]; omega) (letters_at (Nat.mod_lt _ (by decide))) ?_
  refine wo_inr (wo_inr (wo_addS rfl rfl (by show 1 + 1 ≤ _; decide) ?_))
  walk_at "sy"
  have l1 : ((⟨#[97 + n % 26]⟩ : Str) ++ ⟨#[97 + n / 26 % 26]⟩).length = 2 := by rw [app_len] <;> rfl
  by_cases h : n % 2 = 0
  · have hat : atI [PyData.str (Str.ofString ""), .str (Str.ofString "x")] ((n : Int) % 2) = some (.str (Str.ofString "")) := by
      have e3 : (n : Int) % 2 = 0 := by omega
      rw [e3] <;> rfl
    refine wo_ixL rfl rfl hat ?_
    refine wo_inr (wo_inr (wo_addS rfl rfl (by rw [l1, len_e]; omega) ?_))
    unfold keyS at q
    rw [if_pos h] at q
    exact q
  · have hat : atI [PyData.str (Str.ofString ""), .str (Str.ofString "x")] ((n : Int) % 2) = some (.str (Str.ofString "x")) := by
      have e3 : (n : Int) % 2 = 1 := by omega
      rw [e3] <;> rfl
    refine wo_ixL rfl rfl hat ?_
    refine wo_inr (wo_inr (wo_addS rfl rfl (by rw [l1, len_x]; omega) ?_))
    unfold keyS at q
    rw [if_neg h] at q
    exact q
theorem wc_maxL {sl : List SD} {cl : List Cell} {Φ : SD → List Cell → Prop} {r : SD} {ns : List Int} (h : seeL cl r = some (ns.map .int)) (hp : 0 < ns.length) (q : ∀ m, m ∈ ns → (∀ y, y ∈ ns → y ≤ m) → Φ (.dat (.int m)) cl) : Wc K (rMax K) [r] sl cl Φ := by
  intro A B ls τ σ H vs ⟨G, c⟩ hl hm Q k
  obtain ⟨v, rfl, hv⟩ := one_of hl hm
  obtain ⟨a, ws, rfl, e2, e3⟩ := c.seeL hv h
  rw [e3.ints] at e2
  exact ⟨a, ns, rfl, e2, hp, fun m h1 h2 => k _ H _ cl ls (List.prefix_refl _) (q m h1 h2) (c.push (r := .dat (.int m)) (.int _)).sta⟩
def keyedW : List PyData → Nat
  | .list ps :: _ => 450 + 3 * ps.length
  | _ => 0
def keyedR (ps : List Nat) (rs : List Row) : Prop := ∃ nm : Nat → Str, rs.map (·.1) = ps.map nm ∧ (∀ p ∈ ps, Key1 (nm p)) ∧ ∀ p ∈ ps, ∀ p' ∈ ps, nm p = nm p' → p = p'
theorem keyedR.len {ps : List Nat} {rs : List Row} (h : keyedR ps rs) : rs.length = ps.length := by
  obtain ⟨nm, h1, _⟩ := h
  have := congrArg List.length h1
  rw [List.length_map, List.length_map] at this
  exact this
theorem keyedR.key {ps : List Nat} {rs : List Row} (h : keyedR ps rs) : ∀ r ∈ rs, Key1 r.1 := fun r hr => by
  obtain ⟨nm, h1, h2, _⟩ := h
  have : r.1 ∈ rs.map (·.1) := List.mem_map.mpr ⟨r, hr, rfl⟩
  rw [h1] at this
  obtain ⟨p, hp, e⟩ := List.mem_map.mp this
  rw [← e]
  exact h2 p hp
def pr__law_keyed : Pr := prC keyedW fun ds d => ∃ ps : List Nat, ds = [.list (posD ps)] ∧ ps.length ≤ 1000 ∧ (∀ p ∈ ps, p < 600) ∧ ∃ rs : List Row, d = rowsD rs ∧ keyedR ps rs
theorem keyed_ex (ps : List Nat) (h : ∀ p ∈ ps, p < 600) : ∃ rs : List Row, keyedR ps rs := by
  refine ⟨ps.map fun p => (keyS p, none), keyS, ?_, fun p _ => keyS_key p, fun p hp p' hp' e => ?_⟩
  · rw [List.map_map] <;> rfl
  · have := keyS_inj e
    have := h p hp
    have := h p' hp'
    omega
theorem nodup_inj {α : Type} {l : List α} (h : l.Nodup) {i j : Nat} (hi : i < l.length) (hj : j < l.length) (e : l[i] = l[j]) : i = j := by
  have h := List.pairwise_iff_getElem.mp (List.nodup_iff_pairwise_ne.mp h)
  rcases Nat.lt_trichotomy i j with z | z | z
  · exact absurd e (h i j hi hj z)
  · exact z
  · exact absurd e.symm (h j i hj hi z)
def kyF (turn : Nat) : PyData → Option PyData | .int t => some (.str (keyS (t.toNat + turn))) | _ => none
theorem kyF_eq {turn n : Nat} : (rngD 0 n).filterMap (kyF turn) = strsD ((List.range n).map fun k => keyS (k + turn)) := by
  unfold rngD strsD
  rw [List.filterMap_map, List.map_map, ← List.filterMap_eq_map]
  congr 1
  funext t
  show some (PyData.str (keyS (((0 : Int) + (t : Int)).toNat + turn))) = some (PyData.str (keyS (t + turn)))
  rw [Int.zero_add, Int.toNat_natCast]
theorem ok__law_keyed (T : Txt K mg) : FnOk Pg w K mg base CX0 3 T.f__law_keyed T.d__law_keyed ["crate", "shape_here"] (spS K pr__law_keyed) := by
  refine ok_of _ T.F__law_keyed sc__law_keyed (hlenC (n := 1) fun ds d ⟨_, h, _⟩ => dlen h rfl) (fun cdv A outer s H E hr => ⟨_, (pss_cons (ps_asg (pe_tup (pa_cons (pe_op (OpR.or op_add (OpR.or op_cat op_add_str)) (pe_callB (cr_max rfl) (by rfl) T.z_max (by decide +kernel) (pa_cons (pe_op (OpR.or op_add (OpR.or op_cat op_add_str)) (pv 1) (pe_lst (pa_cons (pe_un un_neg pe_int) pa_nil))) pa_nil)) pe_int) (pa_cons (pe_call (ok__law_grab T) (hr.mono (by decide)) (by rfl) T.g__law_grab T.F__law_grab.kp T.B__law_grab .nil pass0 (pa_cons (pv 0) (pa_cons pe_int pa_nil))) pa_nil))) (pg_tup rfl (pgs_cons (pg_name (i := 2) sc__law_keyed.nd rfl (.inl rfl)) (pgs_cons (pg_name (i := 3) sc__law_keyed.nd rfl (.inr rfl)) pgs_nil)))) 
    (pss_cons (ps_set (i := 4) sc__law_keyed.nd rfl (.inr rfl) (pe_lc rfl sc__law_keyed.nd (own := [("number_here", 5)]) (pi_range1 rfl T.z_range (pa_cons (pv 2) pa_nil)) (blkOk_by (own := [("number_here", 5)]) (N := N__law_keyed) (sc := (defScope s__law_keyed)) (by decide +kernel)) (fun _ _ _ _ _ => (pg_name (i := 5) sc__law_keyed.nd rfl (.inl rfl))) (fun _ _ _ _ _ => pts_nil) (fun _ _ _ _ _ => (pe_call (ok__law_key T) (hr.mono (by decide)) (by rfl) T.g__law_key T.F__law_key.kp T.B__law_key .nil pass0 (pa_cons (pe_op (OpR.or op_add (OpR.or op_cat op_add_str)) (pv 5) (pv 3)) pa_nil))))) 
    (pss_cons (ps_if (PW.pt (pw_and (pt_cmpR op_lt (pv 2) pe_int (nomark _)) (pw_and1 (pt_cmpR op_eq (pe_call (ok__law_grab T) (hr.mono (by decide)) (by rfl) T.g__law_grab T.F__law_grab.kp T.B__law_grab .nil pass0 (pa_cons (pv 0) (pa_cons pe_int pa_nil))) pe_int (nomark _))))) (pss_one (ps_set (i := 4) sc__law_keyed.nd rfl (.inr rfl) (pe_call (ok__law_names T) (hr.mono (by decide)) (by rfl) T.g__law_names T.F__law_names.kp T.B__law_names .nil pass0 (pa_cons (pv 0) (pa_cons (pv 2) pa_nil))))) pss_nil) 
    (pss_one (ps_ret (pe_lc rfl sc__law_keyed.nd (own := [("number_here", 5)]) (pi_list (pv 1)) (blkOk_by (own := [("number_here", 5)]) (N := N__law_keyed) (sc := (defScope s__law_keyed)) (by decide +kernel)) (fun _ _ _ _ _ => (pg_name (i := 5) sc__law_keyed.nd rfl (.inl rfl))) (fun _ _ _ _ _ => pts_nil) (fun _ _ _ _ _ => (pe_tup (pa_cons (pe_ix (ix_seqK (K := K) rfl) (pv 4) (pv 5) (fun _ _ => rfl)) (pa_cons (pe_call (ok__law_any_value T) (hr.mono (by decide)) (by rfl) T.g__law_any_value T.F__law_any_value.kp T.B__law_any_value .nil pass0 (pa_cons (pv 0) pa_nil)) pa_nil)))))))))), ?_⟩)
  walk_at "sy0"
  try dsimp only [N__law_keyed, List.length_cons, List.length_nil, Nat.reduceAdd, Nat.reduceSub, List.replicate, List.cons_append, List.nil_append]
  rintro as cl Φ ⟨ds, n, c, rfl, rfl, hc, hn, ⟨_, ps, rfl, hpl, hp, _⟩, q⟩
  have hpz : (posD ps).length = ps.length := List.length_map _
  have ew : keyedW [.list (posD ps)] = 450 + 3 * ps.length := by
    show 450 + 3 * (posD ps).length = _
    rw [hpz]
  dsimp only [List.map] at hn q ⊢
  rw [ew] at hn q
  refine ws_seq (ws_par2 rfl ?_)
  walk_at "sy"
  refine wo_inr (wo_inl (wo_cat rfl rfl (by rw [hpz]; show ps.length + 1 ≤ _; omega) ?_))
  have e0 : posD ps ++ [PyData.int (-1)] = (ps.map (fun (p : Nat) => (p : Int)) ++ [-1]).map PyData.int := by
    unfold posD
    rw [List.map_append, List.map_map] <;> rfl
  rw [e0]
  walk_at "sy"
  refine wc_maxL rfl (by rw [List.length_append]; exact Nat.succ_pos _) fun m hm1 hm2 => ?_
  have hm : -1 ≤ m ∧ m < 600 := by
    rcases List.mem_append.mp hm1 with h | h
    · obtain ⟨p, h1, h2⟩ := List.mem_map.mp h
      have := hp p h1
      omega
    · rw [List.mem_singleton.mp h]
      omega
  have hm3 : ∀ p ∈ ps, (p : Int) ≤ m := fun p h => hm2 _ (List.mem_append_left _ (List.mem_map.mpr ⟨p, h, rfl⟩))
  clear hm1 hm2 e0
  obtain ⟨cnt, ecnt⟩ : ∃ cnt : Nat, m + 1 = (cnt : Int) := ⟨(m + 1).toNat, by omega⟩
  have hp2 : ∀ p ∈ ps, p < cnt := fun p h => by have := hm3 p h; omega
  have hcnt : cnt ≤ 600 := by omega
  walk_at "sy"
  rw [ecnt]
  clear hm3 hm ecnt
  refine grab_ok rfl hc (by omega) (by omega) (by omega) fun turn c1 hturn hc1 => ?_
  walk_at "sy"
  refine lc_map (kyF turn) (wi_rng1 ?_)
  walk_at "sy"
  rw [Int.toNat_natCast]
  refine ⟨by rw [rngD_len]; omega, gk_name (by simp), fun j d hd => ?_, ?_⟩
  · obtain ⟨hj, rfl⟩ := rngD_get hd
    have e0 : (0 : Int) + (j : Int) = (j : Int) := by omega
    rw [e0]
    dsimp only [wipeS]
    walk_at "sy"
    have e1 : (j : Int) + (turn : Int) = ((j + turn : Nat) : Int) := by omega
    rw [e1]
    exact ⟨_, call_dat rfl ⟨j + turn, rfl, by omega, rfl⟩ ⟨_, rfl, rfl, by show some (PyData.str (keyS ((j : Int).toNat + turn))) = _; rw [Int.toNat_natCast]⟩⟩
  rw [kyF_eq]
  refine wg_name ?_
  walk_at "syd"
  refine ws_seq (ws_mid (fun sl cl => ∃ zs c tl, sl = [.own 0, .dat (.list (posD ps)), .dat (.int (cnt : Int)), .dat (.int (turn : Int)), .dat (.list (strsD zs)), .unk] ∧ cl = c :: tl ∧ zs.length = cnt ∧ (∀ z ∈ zs, Key1 z) ∧ zs.Nodup ∧ Crate (n + 402) c) (ws_if ?_) fun sl' cl' hP => ?_)
  · have own : ∀ c2, Crate (n + 402) c2 → ∃ zs c tl, [SD.own 0, .dat (.list (posD ps)), .dat (.int (cnt : Int)), .dat (.int (turn : Int)), .dat (.list (strsD ((List.range cnt).map fun k => keyS (k + turn)))), .unk] = [.own 0, .dat (.list (posD ps)), .dat (.int (cnt : Int)), .dat (.int (turn : Int)), .dat (.list (strsD zs)), .unk] ∧ [c2] = c :: tl ∧ zs.length = cnt ∧ (∀ z ∈ zs, Key1 z) ∧ zs.Nodup ∧ Crate (n + 402) c := fun c2 h2 => by
      refine ⟨_, c2, [], rfl, rfl, by rw [List.length_map, List.length_range], fun z hz => ?_, ?_, h2⟩
      · obtain ⟨k, _, rfl⟩ := List.mem_map.mp hz
        exact keyS_key _
      · rw [List.nodup_iff_pairwise_ne, List.pairwise_map]
        refine List.Pairwise.imp_of_mem ?_ List.nodup_range
        intro a b ha hb hab e
        have := keyS_inj e
        have := List.mem_range.mp ha
        have := List.mem_range.mp hb
        exact hab (by omega)
    walk_at "sy"
    refine iteD (fun h1 => ?_) (fun h1 => ?_)
    · walk_at "sy"
      refine grab_ok rfl hc1 (by omega) (by omega) (by omega) fun y c2 hy hc2 => ?_
      walk_at "sy"
      refine iteD (fun h2 => ?_) (fun h2 => ?_)
      · refine ws_asg (wp_frz (wp_callE ?_))
        walk_at "sy"
        obtain ⟨zs0, hz0⟩ := names_ex cnt (by omega)
        have en : namesW [.int (cnt : Int)] = 20 * cnt := by
          show 20 * (cnt : Int).toNat = _
          rw [Int.toNat_natCast]
        refine ⟨_, call_drawO rfl rfl hc2 (by rw [en]; omega) ⟨_, cnt, rfl, by omega, zs0, rfl, hz0⟩ fun es c3 ⟨m, em, _, zs, hes, hl, hk, hnd⟩ hc3 => ⟨1, es, rfl, rfl, wg_name ?_⟩⟩
        have em' : (cnt : Int) = (m : Int) := PyData.int.inj (List.cons.inj em).1
        subst hes
        rw [en] at hc3
        exact ⟨zs, c3, _, rfl, rfl, by omega, hk, hnd, hc3.mono (by omega)⟩
      · walk_at "sy"
        exact own c2 (hc2.mono (by omega))
    · walk_at "sy"
      exact own c1 (hc1.mono (by omega))
  · obtain ⟨zs, c2, tl, rfl, rfl, hzl, hzk, hznd, hc2⟩ := hP
    refine ws_ret (lc_raw (own := false) (wi_list ?_))
    walk_at "sy"
    refine ⟨gk_name (by simp), fun i acc cl' => ∃ c rs, cl' = c :: tl ∧ Crate (n + 402 + 3 * i) c ∧ acc = List.map rowD rs ∧ rs.map (·.1) = (ps.take i).map fun p => zs.getD p default, ⟨c2, [], rfl, hc2, rfl, rfl⟩, fun i d acc cl' hd hI ha hl => ?_, fun acc cl' hI ha hl => ?_⟩
    · obtain ⟨c3, rs, rfl, hc3, rfl, hrs⟩ := hI
      have hi : i < ps.length := by have := (List.getElem?_eq_some_iff.mp hd).1; omega
      have ed : d = .int (ps[i] : Int) := by
        unfold posD at hd
        rw [List.getElem?_map, List.getElem?_eq_getElem hi] at hd
        exact (Option.some.inj hd).symm
      subst ed
      have hpi := hp2 _ (List.getElem_mem hi)
      have hat : atI (strsD zs) (ps[i] : Int) = some (.str (zs[ps[i]]'(by omega))) := by
        refine atI_nat ?_
        unfold strsD
        rw [List.getElem?_map, List.getElem?_eq_getElem (by omega)] <;> rfl
      dsimp only [wipeS]
      walk_at "sy"
      refine ⟨_, call_draw rfl rfl hc3 (by omega) ⟨_, rfl, none, rfl⟩ fun d c4 ⟨_, o, ho⟩ hc4 => ?_⟩
      subst ho
      walk_at "sy"
      refine ⟨c4, rs ++ [(zs[ps[i]]'(by omega), o)], List.take_length (l := c4 :: tl), hc4.mono (by omega), by rw [List.map_append] <;> rfl, ?_⟩
      rw [List.map_append, hrs, List.take_succ_eq_append_getElem hi, List.map_append]
      congr 1
      show [zs[ps[i]]'(by omega)] = [zs.getD ps[i] default]
      rw [List.getD_eq_getElem?_getD, List.getElem?_eq_getElem (by omega)] <;> rfl
    · obtain ⟨c3, rs, rfl, hc3, rfl, hrs⟩ := hI
      rw [hpz] at hrs hc3
      rw [List.take_length] at hrs
      refine q (rowsD rs) c3 ⟨ps, rfl, hpl, hp, rs, rfl, fun p => zs.getD p default, hrs, fun p h => ?_, fun p h p' h' e => ?_⟩ (hc3.mono (by omega))
      · have := hp2 p h
        show Key1 (zs.getD p default)
        rw [List.getD_eq_getElem?_getD, List.getElem?_eq_getElem (by omega)]
        exact hzk _ (List.getElem_mem _)
      · have h1 := hp2 p h
        have h2 := hp2 p' h'
        dsimp only at e
        rw [List.getD_eq_getElem?_getD, List.getElem?_eq_getElem (by omega), List.getD_eq_getElem?_getD, List.getElem?_eq_getElem (by omega)] at e
        exact nodup_inj hznd (by omega) (by omega) e
theorem keyed_ok {sl : List SD} {cl : List Cell} {Φ : SD → List Cell → Prop} {k n : Nat} {c : Cell} {ps : List Nat} (hk : cl[k]? = some c) (hc : Crate n c) (hl : ps.length ≤ 1000) (hn : n + (450 + 3 * ps.length) ≤ 1000000) (hp : ∀ p ∈ ps, p < 600)
    (q : ∀ (rs : List Row) c', keyedR ps rs → Crate (n + (450 + 3 * ps.length)) c' → Φ (.dat (rowsD rs)) (cl.set k c')) : ∃ sel, CallOk pr__law_keyed [.own k, .dat (.list (posD ps))] sl cl sel Φ := by
  have ew : keyedW [.list (posD ps)] = 450 + 3 * ps.length := by
    show 450 + 3 * (posD ps).length = _
    rw [show (posD ps).length = ps.length from List.length_map _]
  obtain ⟨rs0, h0⟩ := keyed_ex ps hp
  refine ⟨_, call_draw rfl hk hc (by rw [ew]; exact hn) ⟨_, ps, rfl, hl, hp, rs0, rfl, h0⟩ fun d c' ⟨ps', e, _, _, rs, hd, hr⟩ hc' => ?_⟩
  rw [ew] at hc'
  subst hd
  have e2 : ps = ps' := by
    have := PyData.list.inj (List.cons.inj e).1
    unfold posD at this
    exact (List.map_inj_right fun a b h => by have := PyData.int.inj h; omega).mp this
  exact q rs c' (e2 ▸ hr) hc'
end
end Kp
end

section
-- conditions of operations on ints
local macro_rules | `(tactic| walk_at "syc") => `(tactic| first
  | exact Sy.cpow (by decide) (by decide)
  | exact Sy.mul_l (by omega) (by omega)
  | exact Sy.mul_r (by omega) (by omega)
  | exact Sy.fdiv_ok (by omega) (by omega)
  | ((show (0 : Int) < _); first | omega | (simp only [Sy.pow12, Sy.pow18, Sy.pow29, Sy.pow38, Sy.pow39, Sy.pow40]; omega)))
-- one step of the symbolic run
local macro_rules | `(tactic| walk_at "sy1") => `(tactic| first
  | with_reducible refine' Sy.ws_seq ?_
  | (with_reducible refine' Sy.ws_setI ?_)
  | (with_reducible refine' Sy.ws_asg ?_)
  | with_reducible refine' Sy.ws_ret (Sy.wp_lstO ?_)
  | with_reducible refine' Sy.ws_ret ?_
  | with_reducible refine' Sy.ws_if ?_
  | with_reducible refine' Sy.ws_drop ?_
  | with_reducible refine' Sy.ws_next ?_
  | with_reducible refine' Sy.ws_par ?_
  | with_reducible refine' Sy.wp_app ?_
  | with_reducible refine' Sy.ws_setI ?_
  | with_reducible refine' Sy.ws_dput ?_
  | with_reducible refine' Sy.wp_dget1 ?_
  | with_reducible refine' Sy.wp_dnotin ?_
  | ((with_reducible refine' Sy.wp_var ?h1 ?h2 ?_); (case h1 => rfl); (case h2 => (intro z; cases z)))
  | ((with_reducible refine' Sy.wp_c ?h1 ?_); (case h1 => rfl))
  | with_reducible refine' Sy.isi_int ?_
  | with_reducible refine' Sy.isi_bool ?_
  | with_reducible refine' Sy.isi_str ?_
  | with_reducible refine' Sy.isi_list ?_
  | with_reducible refine' Sy.isi_tuple ?_
  | with_reducible refine' Sy.isi_seq ?_
  | with_reducible refine' Sy.wp_op ?_
  | with_reducible refine' Sy.wp_neg ?_
  | with_reducible refine' Sy.wp_test ?_
  | with_reducible refine' Sy.wp_testB ?_
  | with_reducible refine' Sy.wp_and ?_
  | with_reducible refine' Sy.wp_or ?_
  | with_reducible refine' Sy.wp_not ?_
  | with_reducible refine' Sy.wp_if ?_
  | with_reducible refine' Sy.wp_andV ?_
  | with_reducible refine' Sy.wp_orV ?_
  | with_reducible refine' Sy.wp_notV ?_
  | with_reducible refine' Sy.wp_chain ?_
  | with_reducible refine' Sy.wp_cb ?_
  | with_reducible refine' Sy.wp_callE ?_
  | with_reducible refine' Sy.wp_callX0 ?_
  | (with_reducible refine' Sy.wp_ext ?_)
  | with_reducible refine' Sy.wp_tup ?_
  | with_reducible refine' Sy.wp_lst ?_
  | with_reducible refine' Sy.wp_sl ?_
  | with_reducible refine' Sy.wp_rev ?_
  | with_reducible refine' Sy.wp_join ?_
  | with_reducible refine' Sy.wo_none ?_
  | with_reducible refine' Sy.wo_some ?_
  | with_reducible refine' Sy.wa_nil ?_
  | with_reducible refine' Sy.wa_cons ?_
  | with_reducible refine' Sy.wp_yes ?_
  | with_reducible refine' Sy.wg_name ?_
  | with_reducible refine' Sy.wgs_nil ?_
  | with_reducible refine' Sy.wgs_cons ?_
  | (refine' Sy.wg_tup rfl rfl ?_)
  | (refine' Sy.wo_inl (Sy.wo_I0 rfl rfl rfl ?_))
  | (refine' Sy.wo_I0 rfl rfl rfl ?_)
  | (refine' Sy.wo_sign rfl rfl ?_)
  | (refine' Sy.wo_inl (Sy.wo_I rfl rfl ?h1 rfl ?_); (case h1 => walk_at "syc"))
  | (refine' Sy.wo_I rfl rfl ?h1 rfl ?_; (case h1 => walk_at "syc"))
  | (refine' Sy.wo_isN ?h1 rfl ?_; (case h1 => (intro z; cases z)))
  | (refine' Sy.wo_notN ?h1 rfl ?_; (case h1 => (intro z; cases z)))
  | (refine' Sy.wo_eq rfl rfl rfl ?_)
  | (refine' Sy.wo_inl (Sy.wo_eq rfl rfl rfl ?_))
  | (refine' Sy.wo_ne rfl rfl rfl ?_)
  | (refine' Sy.wo_inl (Sy.wo_ne rfl rfl rfl ?_))
  | (refine' Sy.wo_ixL rfl rfl ?h1 ?_; (case h1 => first | rfl | assumption))
  | (refine' Sy.wo_ixT rfl rfl ?h1 ?_; (case h1 => first | rfl | assumption))
  | (refine' Sy.wc_int1 rfl ?_)
  | (refine' Sy.wc_abs rfl ?_)
  | (refine' Sy.wc_max2 rfl rfl ?_)
  | (refine' Sy.wc_min2 rfl rfl ?_)
  | (refine' Sy.wc_len rfl ?_)
  | (refine' Sy.wc_lenS rfl ?h1 ?_; (case h1 => omega))
  | (refine' Sy.wc_list rfl ?_)
  | (refine' Sy.wc_listT rfl ?_)
  | (refine' Sy.wc_tuple rfl ?_)
  | ((with_reducible refine' And.intro ?h1 ?_); (case h1 => first | (with_reducible rfl) | omega | decide | (simp only [List.length_cons, List.length_nil]; omega)))
  | ((with_reducible show @ite Prop (true = true) _ _ _); refine' Sy.iteT0 ?_)
  | ((with_reducible show @ite Prop (false = true) _ _ _); refine' Sy.iteF0 ?_)
  | ((with_reducible show @ite Prop ((!true) = true) _ _ _); refine' Sy.iteNT ?_)
  | ((with_reducible show @ite Prop (@decide _ _ = true) _ _ _); (refine' Sy.iteDT ?h1 ?_); (case h1 => first | omega | rfl | (intro z; cases z)))
  | ((with_reducible show @ite Prop (@decide _ _ = true) _ _ _); (refine' Sy.iteDF ?h1 ?_); (case h1 => first | omega | rfl | (intro z; cases z)))
  | ((with_reducible show @ite Prop ((!@decide _ _) = true) _ _ _); (refine' Sy.iteND ?h1 ?_); (case h1 => first | omega | rfl | (intro z; cases z)))
  | ((with_reducible show @ite Prop ((!@decide _ _) = true) _ _ _); (refine' Sy.iteNDF ?h1 ?_); (case h1 => first | omega | rfl | (intro z; cases z)))
  | ((with_reducible show @ite Prop ((!false) = true) _ _ _); refine' Sy.iteNF ?_)
  | (with_reducible refine' Sy.ws_try ?_)
  | (with_reducible refine' Sy.wsx_drop (Sy.wx_call (Sy.wax_of ?_)))
  | (with_reducible refine' Sy.wsx_asg (Sy.wx_call (Sy.wax_of ?_)))
  | (with_reducible refine' Sy.wsx_ret (Sy.wx_call (Sy.wax_of ?_)))
  | (with_reducible refine' Sy.wsx_of ?_)
  | (refine ⟨_, rfl, ⟨_, rfl⟩, ?_⟩)
  | (refine ⟨_, rfl, ?_⟩)
  | (refine ⟨_, _, rfl, rfl, ?_⟩)
  | (refine ⟨_, _, rfl, ?_⟩)
  | ((refine' Sy.iteNo ?h1 ?_); (case h1 => (intro z; cases z)))
  | ((refine' Sy.iteYes ?h1 ?_); (case h1 => rfl)))
-- many steps
local macro_rules | `(tactic| walk_at "syd") => `(tactic| try dsimp only [List.set, List.length_cons, List.length_nil, Nat.reduceAdd, Sy.isNon, List.cons_append, List.nil_append, List.map, Bool.not_true, Bool.not_false, Sy.Ty.isInt, Sy.Ty.isBool, Sy.Ty.isStr, Sy.Ty.isList, Sy.Ty.isTuple, Sy.Ty.isSeq])
local macro_rules | `(tactic| walk_at "sy") => `(tactic| repeat ((walk_at "sy1"); (walk_at "syd")))
-- the start of a body
local macro_rules | `(tactic| walk_at "sy0") => `(tactic| dsimp only [L2.cxOf, List.length_cons, List.length_nil, Nat.reduceAdd, Nat.reduceSub, List.replicate, List.cons_append, List.nil_append])
-- a turn's end: the slots and the cells are said by the invariant
local macro_rules | `(tactic| walk_at "wkl") => `(tactic| repeat' first | exact trivial | refine ⟨.inl rfl, ?_⟩ | refine ⟨.inr rfl, ?_⟩)
local macro_rules | `(tactic| walk_at "lowl") => `(tactic| repeat' first | exact trivial | refine ⟨by omega, ?_⟩)
local macro_rules | `(tactic| walk_at "turn") => `(tactic| refine Sy.turn_q ⟨rfl, rfl⟩ (by walk_at "wkl") (by walk_at "lowl"))

namespace Kp
open PySem PySem.Spec L2 Sy
section
variable {Pg : Program} {w : World} {K : PySem.W.Frag} {mg : Str → Option Value} {base : Heap}
inductive Kx | inl (i : Int) | inr (z : Str)
  deriving DecidableEq
def kxD : Kx → PyData | .inl i => .int i | .inr z => .str z
theorem kxD_flat (x : Kx) : flatD (kxD x) = true := by cases x <;> rfl
theorem kxD_eq (x y : Kx) : eqG (kxD x) (kxD y) = decide (x = y) := by
  cases x with
  | inl a => cases y with
    | inl b =>
      show (a == b) = _
      by_cases h : a = b
      · subst h; simp
      · have : ¬ Kx.inl a = Kx.inl b := fun z => h (Kx.inl.inj z)
        simp [h]
    | inr b => rfl
  | inr a => cases y with
    | inl b => rfl
    | inr b =>
      show (a == b) = _
      by_cases h : a = b
      · subst h; simp
      · have : ¬ Kx.inr a = Kx.inr b := fun z => h (Kx.inr.inj z)
        simp [h]
theorem kxs_flat (xs : List Kx) : (xs.map kxD).all flatD = true := by
  rw [List.all_eq_true]
  intro d hd
  obtain ⟨x, _, rfl⟩ := List.mem_map.mp hd
  exact kxD_flat x
theorem kx_in (x : Kx) (xs : List Kx) : inD (kxD x) (xs.map kxD) = decide (x ∈ xs) := by
  unfold inD
  rw [List.any_map]
  induction xs with
  | nil => simp
  | cons a l ih =>
    rw [List.any_cons, ih]
    show (eqG (kxD a) (kxD x) || decide (x ∈ l)) = decide (x ∈ a :: l)
    rw [kxD_eq]
    by_cases h : x = a
    · simp [h]
    · have : ¬ a = x := fun z => h z.symm
      simp [h, this]
def pr__law_pattern : Pr := prO fun ds es => ∃ xs : List (Kx × List PyData), ds = [.list (xs.map fun x => .tuple (kxD x.1 :: x.2))] ∧ xs.length ≤ 10000 ∧ es = posD (patL (xs.map (·.1)))
theorem ok__law_pattern (T : Txt K mg) : FnOk Pg w K mg base CX0 1 T.f__law_pattern T.d__law_pattern ["rows_here"] (spS K pr__law_pattern) := by
  refine ok_of _ T.F__law_pattern sc__law_pattern (hlenO fun ds d ⟨_, h, _⟩ => dlen h rfl) (fun cdv A outer s H E hr => ⟨_, (pss_cons (ps_par (i := 1) (j := 2) rfl sc__law_pattern.nd rfl rfl (by decide) rfl rfl (pa_cons (pe_lst pa_nil) (pa_cons (pe_lst pa_nil) pa_nil)) (by rfl)) 
    (pss_cons (ps_for PassesOwn.never rfl (pi_list (pv 0)) (pg_name (i := 3) sc__law_pattern.nd rfl (.inl rfl))
    (pss_cons (ps_if (pt_cmpR op_notIn_seq (pe_ix ix_seq (pv 3) pe_int (fun _ _ => rfl)) (pv 1) (by rfl)) (pss_one (ps_expr (pe_bm PySem.F.plainAttrs_list PySem.F.slot_list_append PySem.F.type_list_append mt_append (pv 1) (pa_cons (pe_ix ix_seq (pv 3) pe_int (fun _ _ => rfl)) pa_nil)))) pss_nil) 
    (pss_one (ps_expr (pe_bm PySem.F.plainAttrs_list PySem.F.slot_list_append PySem.F.type_list_append mt_append (pv 2) (pa_cons (pe_bm PySem.F.plainAttrs_list PySem.F.slot_list_index PySem.F.type_list_index mt_index (pv 1) (pa_cons (pe_ix ix_seq (pv 3) pe_int (fun _ _ => rfl)) pa_nil)) pa_nil)))))) 
    (pss_one (ps_ret (pv 2))))), ?_⟩)
  walk_at "sy0"
  try dsimp only [N__law_pattern, List.length_cons, List.length_nil, Nat.reduceAdd, Nat.reduceSub, List.replicate, List.cons_append, List.nil_append]
  rintro as cl Φ ⟨_, _, rfl, rfl, ⟨xs, rfl, hz, rfl⟩, q⟩
  dsimp only [List.map]
  refine ws_seq (ws_par (wa_cons (wp_lstO (wa_nil ⟨[], rfl, by simp, wa_cons (wp_lstO (wa_nil ⟨[], rfl, by simp, wa_nil ⟨_, _, rfl, ?_⟩⟩))⟩))))
  walk_at "syd"
  refine ws_seq (ws_for (wi_list ?_))
  walk_at "sy"
  refine ⟨fun (i : Nat) (sl : List SD) (cl : List Cell) => sl = [.dat (.list (xs.map fun x => .tuple (kxD x.1 :: x.2))), .own 0, .own 1, .unk] ∧ cl = [.lst ((ded ((xs.take i).map (·.1))).map kxD), .lst (posD (patL ((xs.take i).map (·.1))))], ⟨rfl, rfl⟩, fun i d sl' cl' hd hI hc => ?_, fun sl' cl' hI hc => ?_⟩
  · obtain ⟨rfl, rfl⟩ := hI
    have hi : i < xs.length := by
      have := (List.getElem?_eq_some_iff.mp hd).1
      rw [List.length_map] at this; exact this
    have ed : d = .tuple (kxD xs[i].1 :: xs[i].2) := by
      rw [List.getElem?_map, List.getElem?_eq_getElem hi] at hd
      exact (Option.some.inj hd).symm
    subst ed
    have hs : (xs.take (i + 1)).map (·.1) = (xs.take i).map (·.1) ++ [xs[i].1] := by
      rw [List.take_succ_eq_append_getElem hi, List.map_append] <;> rfl
    generalize hx : xs[i].1 = x at hs ⊢
    generalize xs[i].2 = rest
    generalize hl : (xs.take i).map (·.1) = l at hs ⊢
    have hll : l.length ≤ 10000 := by
      rw [← hl, List.length_map]
      have := List.length_take_le i xs
      omega
    have hdl := ded_len l
    have hd2 : ((ded l).map kxD).length = (ded l).length := List.length_map _
    have hp2 : (posD (patL l)).length = l.length := (List.length_map _).trans (patL_len l)
    have hat : atI (kxD x :: rest) 0 = some (kxD x) := atI_nat (j := 0) rfl
    have hps : posD (patL (l ++ [x])) = posD (patL l) ++ [.int ((ixO x (ded (l ++ [x])) : Nat) : Int)] := by
      rw [patL_snoc]
      unfold posD
      rw [List.map_append] <;> rfl
    refine wg_name ?_
    walk_at "syd"
    refine ws_seq (ws_mid (fun sl cl => sl = [.dat (.list (xs.map fun x => .tuple (kxD x.1 :: x.2))), .own 0, .own 1, .dat (.tuple (kxD x :: rest))] ∧ cl = [.lst ((ded (l ++ [x])).map kxD), .lst (posD (patL l))]) (ws_if ?_) fun sl' cl' hP => ?_)
    · walk_at "sy"
      refine wo_in rfl (kxD_flat x) rfl (kxs_flat _) ?_
      rw [kx_in]
      walk_at "sy"
      refine iteNDD (fun h1 => ?_) (fun h1 => ?_)
      · walk_at "sy"
        rw [ded_snoc, if_neg h1, List.map_append] <;> rfl
      · walk_at "sy"
        rw [ded_snoc, if_pos h1] <;> rfl
    · obtain ⟨rfl, rfl⟩ := hP
      walk_at "sy"
      refine wp_index ?_
      walk_at "sy"
      have hm : x ∈ ded (l ++ [x]) := mem_ded.mpr (List.mem_append_right _ (List.mem_singleton.mpr rfl))
      generalize hk2 : ded (l ++ [x]) = k2 at hm hps ⊢
      refine ⟨⟨_, rfl⟩, ?_⟩
      walk_at "sy"
      refine ⟨_, _, ixO x k2, kxD x, rfl, rfl, kxD_flat x, kxs_flat k2, ?_, by rw [kxD_eq]; simp, fun m z' hm1 hz1 => ?_, ?_⟩
      · rw [List.getElem?_map, ixO_get hm] <;> rfl
      · rw [List.getElem?_map] at hz1
        cases hy : k2[m]? with
        | none => rw [hy] at hz1; cases hz1
        | some y =>
          rw [hy] at hz1
          rw [← Option.some.inj hz1, kxD_eq]
          exact decide_eq_false (ixO_first hm1 hy)
      walk_at "sy"
      refine turn_of [.dat _, .own 0, .own 1, .unk] ⟨.inl rfl, .inl rfl, .inl rfl, .inr rfl, trivial⟩ ⟨by omega, by omega, trivial⟩ ⟨rfl, ?_⟩
      rw [hs, hps, hk2] <;> rfl
  · obtain ⟨rfl, rfl⟩ := hI
    walk_at "sy"
    rw [List.length_map, List.take_length]
    exact q
def pr__law_wide_shape : Pr := prCO (fun _ => 300) fun ds es => ∃ ml : Nat, ds = [.int (ml : Int)] ∧ ml ≤ 200 ∧ ∃ xs : List Kx, es = posD (patL xs) ∧ xs.length ≤ ml
theorem kxs_map (xs : List Kx) : (xs.map fun x => (x, ([] : List PyData))).map (·.1) = xs := by
  rw [List.map_map]
  exact List.map_id xs
def onesD (xs : List Kx) : List PyData := xs.map fun x => .tuple [kxD x]
theorem ones_eq (xs : List Kx) : onesD xs = (xs.map fun x => (x, ([] : List PyData))).map fun x => .tuple (kxD x.1 :: x.2) := by
  rw [List.map_map] <;> rfl
theorem pattern_ok {sl : List SD} {cl : List Cell} {Φ : SD → List Cell → Prop} {xs : List Kx} (h : xs.length ≤ 10000) (q : Φ (.own cl.length) (cl ++ [.lst (posD (patL xs))])) : ∃ sel, CallOk pr__law_pattern [.dat (.list (onesD xs))] sl cl sel Φ :=
  ⟨_, call_own rfl ⟨xs.map fun x => (x, ([] : List PyData)), by rw [ones_eq], by rw [List.length_map]; exact h, by rw [kxs_map]⟩ q⟩
theorem ok__law_wide_shape (T : Txt K mg) : FnOk Pg w K mg base CX0 2 T.f__law_wide_shape T.d__law_wide_shape ["crate", "most_here"] (spS K pr__law_wide_shape) := by
  refine ok_of _ T.F__law_wide_shape sc__law_wide_shape (hlenCO (n := 1) fun ds d ⟨_, h, _⟩ => dlen h rfl) (fun cdv A outer s H E hr => ⟨_, (pss_cons (ps_asg (pe_tup (pa_cons (pe_call (ok__law_grab T) (hr.mono (by decide)) (by rfl) T.g__law_grab T.F__law_grab.kp T.B__law_grab .nil pass0 (pa_cons (pv 0) (pa_cons (pe_op (OpR.or op_add (OpR.or op_cat op_add_str)) (pv 1) pe_int) pa_nil))) (pa_cons (pe_op (OpR.or op_add (OpR.or op_cat op_add_str)) pe_int (pe_call (ok__law_grab T) (hr.mono (by decide)) (by rfl) T.g__law_grab T.F__law_grab.kp T.B__law_grab .nil pass0 (pa_cons (pv 0) (pa_cons (pe_ix ix_seq (pe_lst (pa_cons pe_int (pa_cons pe_int (pa_cons pe_int pa_nil)))) (pe_call (ok__law_grab T) (hr.mono (by decide)) (by rfl) T.g__law_grab T.F__law_grab.kp T.B__law_grab .nil pass0 (pa_cons (pv 0) (pa_cons pe_int pa_nil))) (fun _ _ => rfl)) pa_nil)))) pa_nil))) (pg_tup rfl (pgs_cons (pg_name (i := 2) sc__law_wide_shape.nd rfl (.inl rfl)) (pgs_cons (pg_name (i := 3) sc__law_wide_shape.nd rfl (.inr rfl)) pgs_nil)))) 
    (pss_one (ps_ret (pe_call (ok__law_pattern T) (hr.mono (by decide)) (by rfl) T.g__law_pattern T.F__law_pattern.kp T.B__law_pattern .nil pass0 (pa_cons (pe_lc rfl sc__law_wide_shape.nd (own := [("k", 4)]) (pi_range1 rfl T.z_range (pa_cons (pv 2) pa_nil)) (blkOk_by (own := [("k", 4)]) (N := N__law_wide_shape) (sc := (defScope s__law_wide_shape)) (by decide +kernel)) (fun _ _ _ _ _ => (pg_name (i := 4) sc__law_wide_shape.nd rfl (.inl rfl))) (fun _ _ _ _ _ => pts_nil) (fun _ _ _ _ _ => (pe_tup (pa_cons (pe_call (ok__law_grab T) (hr.mono (by decide)) (by rfl) T.g__law_grab T.F__law_grab.kp T.B__law_grab .nil pass0 (pa_cons (pv 0) (pa_cons (pv 3) pa_nil))) pa_nil)))) pa_nil))))), ?_⟩)
  walk_at "sy0"
  try dsimp only [N__law_wide_shape, List.length_cons, List.length_nil, Nat.reduceAdd, Nat.reduceSub, List.replicate, List.cons_append, List.nil_append]
  rintro as cl Φ ⟨ds, n, c, rfl, rfl, hc, hn, ⟨_, ml, rfl, hml, _⟩, q⟩
  dsimp only [List.map] at hn q ⊢
  refine ws_seq (ws_par2 rfl ?_)
  walk_at "sy"
  refine grab_ok rfl hc (by omega) (by omega) (by omega) fun x1 c1 hx1 hc1 => ?_
  walk_at "sy"
  refine grab_ok rfl hc1 (by omega) (by omega) (by omega) fun x2 c2 hx2 hc2 => ?_
  obtain ⟨top, htop, hat⟩ : ∃ top : Nat, 1 ≤ top ∧ top ≤ 60 ∧ atI [PyData.int 3, .int 8, .int 60] (x2 : Int) = some (.int (top : Int)) := by
    match x2, hx2 with
    | 0, _ => exact ⟨3, by decide, by decide, rfl⟩
    | 1, _ => exact ⟨8, by decide, by decide, rfl⟩
    | 2, _ => exact ⟨60, by decide, by decide, rfl⟩
    | k + 3, h => omega
  obtain ⟨hat0, hat⟩ := hat
  walk_at "sy"
  refine grab_ok rfl hc2 (by omega) (by omega) (by omega) fun x3 c3 hx3 hc3 => ?_
  walk_at "sy"
  refine lc_raw (own := false) (wi_rng1 ?_)
  walk_at "sy"
  rw [Int.toNat_natCast]
  refine ⟨by rw [rngD_len]; omega, gk_name (by simp), fun i acc cl' => ∃ c xs, cl' = [c] ∧ Crate (n + 3 + i) c ∧ acc = onesD xs ∧ xs.length = i, ⟨c3, [], rfl, hc3, rfl, rfl⟩, fun i d acc cl' hd hI ha hl => ?_, fun acc cl' hI ha hl => ?_⟩
  · obtain ⟨hi, rfl⟩ := rngD_get hd
    obtain ⟨c4, xs, rfl, hc4, rfl, hxl⟩ := hI
    dsimp only [wipeS]
    walk_at "sy"
    refine grab_ok rfl hc4 (by omega) (by omega) (by omega) fun y c5 hy hc5 => ?_
    walk_at "sy"
    exact ⟨c5, xs ++ [.inl (y : Int)], rfl, hc5.mono (by omega), by unfold onesD; rw [List.map_append] <;> rfl, by rw [List.length_append, hxl] <;> rfl⟩
  · obtain ⟨c4, xs, rfl, hc4, rfl, hxl⟩ := hI
    rw [rngD_len] at hxl hc4
    walk_at "sy"
    exact pattern_ok (by omega) ⟨_, rfl, q _ _ ⟨ml, rfl, hml, xs, rfl, by omega⟩ (hc4.mono (by omega))⟩
def pr__law_some_shape : Pr := prCO (fun _ => 400) fun ds es => ∃ a b : Nat, ds = [.int (a : Int), .int (b : Int)] ∧ a ≤ 200 ∧ b ≤ 200 ∧ ∃ xs : List Kx, es = posD (patL xs) ∧ xs.length ≤ max a b
theorem ok__law_some_shape (T : Txt K mg) : FnOk Pg w K mg base CX0 3 T.f__law_some_shape T.d__law_some_shape ["crate", "short_here", "most_here"] (spS K pr__law_some_shape) := by
  refine ok_of _ T.F__law_some_shape sc__law_some_shape (hlenCO (n := 2) fun ds d ⟨_, _, h, _⟩ => dlen h rfl) (fun cdv A outer s H E hr => ⟨_, (pss_cons (ps_if (pt_cmpR op_eq (pe_call (ok__law_grab T) (hr.mono (by decide)) (by rfl) T.g__law_grab T.F__law_grab.kp T.B__law_grab .nil pass0 (pa_cons (pv 0) (pa_cons pe_int pa_nil))) pe_int (nomark _)) (pss_one (ps_ret (pe_call (ok__law_wide_shape T) (hr.mono (by decide)) (by rfl) T.g__law_wide_shape T.F__law_wide_shape.kp T.B__law_wide_shape .nil pass0 (pa_cons (pv 0) (pa_cons (pv 2) pa_nil))))) pss_nil) 
    (pss_cons (ps_set (i := 3) sc__law_some_shape.nd rfl (.inr rfl) (pe_op (OpR.or op_add (OpR.or op_cat op_add_str)) pe_int (pe_call (ok__law_grab T) (hr.mono (by decide)) (by rfl) T.g__law_grab T.F__law_grab.kp T.B__law_grab .nil pass0 (pa_cons (pv 0) (pa_cons pe_int pa_nil))))) 
    (pss_one (ps_ret (pe_call (ok__law_pattern T) (hr.mono (by decide)) (by rfl) T.g__law_pattern T.F__law_pattern.kp T.B__law_pattern .nil pass0 (pa_cons (pe_lc rfl sc__law_some_shape.nd (own := [("k", 4)]) (pi_range1 rfl T.z_range (pa_cons (pe_call (ok__law_grab T) (hr.mono (by decide)) (by rfl) T.g__law_grab T.F__law_grab.kp T.B__law_grab .nil pass0 (pa_cons (pv 0) (pa_cons (pe_op (OpR.or op_add (OpR.or op_cat op_add_str)) (pv 1) pe_int) pa_nil))) pa_nil)) (blkOk_by (own := [("k", 4)]) (N := N__law_some_shape) (sc := (defScope s__law_some_shape)) (by decide +kernel)) (fun _ _ _ _ _ => (pg_name (i := 4) sc__law_some_shape.nd rfl (.inl rfl))) (fun _ _ _ _ _ => pts_nil) (fun _ _ _ _ _ => (pe_tup (pa_cons (pe_call (ok__law_grab T) (hr.mono (by decide)) (by rfl) T.g__law_grab T.F__law_grab.kp T.B__law_grab .nil pass0 (pa_cons (pv 0) (pa_cons (pv 3) pa_nil))) pa_nil)))) pa_nil)))))), ?_⟩)
  walk_at "sy0"
  try dsimp only [N__law_some_shape, List.length_cons, List.length_nil, Nat.reduceAdd, Nat.reduceSub, List.replicate, List.cons_append, List.nil_append]
  rintro as cl Φ ⟨ds, n, c, rfl, rfl, hc, hn, ⟨_, a, b, rfl, ha, hb, _⟩, q⟩
  dsimp only [List.map] at hn q ⊢
  walk_at "sy"
  refine grab_ok rfl hc (by omega) (by omega) (by omega) fun x0 c1 hx0 hc1 => ?_
  walk_at "sy"
  refine iteD (fun h0 => ?_) (fun h0 => ?_)
  · walk_at "sy"
    refine ⟨_, call_drawO rfl rfl hc1 (by omega) ⟨_, b, rfl, hb, [], rfl, Nat.zero_le _⟩ fun es c2 ⟨ml, em, hml, xs, hes, hxl⟩ hc2 => ⟨_, rfl, ?_⟩⟩
    subst hes
    have hmb : b = ml := by
      have := PyData.int.inj (List.cons.inj em).1
      omega
    exact q _ _ ⟨a, b, rfl, ha, hb, xs, rfl, by omega⟩ (hc2.mono (by omega))
  · walk_at "sy"
    refine grab_ok rfl hc1 (by omega) (by omega) (by omega) fun x1 c2 hx1 hc2 => ?_
    walk_at "sy"
    refine lc_raw (own := false) (wi_rng1 ?_)
    walk_at "sy"
    refine grab_ok rfl hc2 (by omega) (by omega) (by omega) fun x2 c3 hx2 hc3 => ?_
    walk_at "sy"
    rw [Int.toNat_natCast]
    refine ⟨by rw [rngD_len]; omega, gk_name (by simp), fun i acc cl' => ∃ c xs, cl' = [c] ∧ Crate (n + 3 + i) c ∧ acc = onesD xs ∧ xs.length = i, ⟨c3, [], rfl, hc3, rfl, rfl⟩, fun i d acc cl' hd hI ha hl => ?_, fun acc cl' hI ha hl => ?_⟩
    · obtain ⟨hi, rfl⟩ := rngD_get hd
      obtain ⟨c4, xs, rfl, hc4, rfl, hxl⟩ := hI
      dsimp only [wipeS]
      walk_at "sy"
      refine grab_ok rfl hc4 (by omega) (by omega) (by omega) fun y c5 hy hc5 => ?_
      walk_at "sy"
      exact ⟨c5, xs ++ [.inl (y : Int)], rfl, hc5.mono (by omega), by unfold onesD; rw [List.map_append] <;> rfl, by rw [List.length_append, hxl] <;> rfl⟩
    · obtain ⟨c4, xs, rfl, hc4, rfl, hxl⟩ := hI
      rw [rngD_len] at hxl hc4
      walk_at "sy"
      exact pattern_ok (by omega) ⟨_, rfl, q _ _ ⟨a, b, rfl, ‹_›, hb, xs, rfl, by omega⟩ (hc4.mono (by omega))⟩
end
end Kp
end

section
-- conditions of operations on ints
local macro_rules | `(tactic| walk_at "syc") => `(tactic| first
  | exact Sy.cpow (by decide) (by decide)
  | exact Sy.mul_l (by omega) (by omega)
  | exact Sy.mul_r (by omega) (by omega)
  | exact Sy.fdiv_ok (by omega) (by omega)
  | ((show (0 : Int) < _); first | omega | (simp only [Sy.pow12, Sy.pow18, Sy.pow29, Sy.pow38, Sy.pow39, Sy.pow40]; omega)))
-- one step of the symbolic run
local macro_rules | `(tactic| walk_at "sy1") => `(tactic| first
  | with_reducible refine' Sy.ws_seq ?_
  | (with_reducible refine' Sy.ws_setI ?_)
  | (with_reducible refine' Sy.ws_asg ?_)
  | with_reducible refine' Sy.ws_ret (Sy.wp_lstO ?_)
  | with_reducible refine' Sy.ws_ret ?_
  | with_reducible refine' Sy.ws_if ?_
  | with_reducible refine' Sy.ws_drop ?_
  | with_reducible refine' Sy.ws_next ?_
  | with_reducible refine' Sy.ws_par ?_
  | with_reducible refine' Sy.wp_app ?_
  | with_reducible refine' Sy.ws_setI ?_
  | with_reducible refine' Sy.ws_dput ?_
  | with_reducible refine' Sy.wp_dget1 ?_
  | with_reducible refine' Sy.wp_dnotin ?_
  | ((with_reducible refine' Sy.wp_var ?h1 ?h2 ?_); (case h1 => rfl); (case h2 => (intro z; cases z)))
  | ((with_reducible refine' Sy.wp_c ?h1 ?_); (case h1 => rfl))
  | with_reducible refine' Sy.isi_int ?_
  | with_reducible refine' Sy.isi_bool ?_
  | with_reducible refine' Sy.isi_str ?_
  | with_reducible refine' Sy.isi_list ?_
  | with_reducible refine' Sy.isi_tuple ?_
  | with_reducible refine' Sy.isi_seq ?_
  | with_reducible refine' Sy.wp_op ?_
  | with_reducible refine' Sy.wp_neg ?_
  | with_reducible refine' Sy.wp_test ?_
  | with_reducible refine' Sy.wp_testB ?_
  | with_reducible refine' Sy.wp_and ?_
  | with_reducible refine' Sy.wp_or ?_
  | with_reducible refine' Sy.wp_not ?_
  | with_reducible refine' Sy.wp_if ?_
  | with_reducible refine' Sy.wp_andV ?_
  | with_reducible refine' Sy.wp_orV ?_
  | with_reducible refine' Sy.wp_notV ?_
  | with_reducible refine' Sy.wp_chain ?_
  | with_reducible refine' Sy.wp_cb ?_
  | with_reducible refine' Sy.wp_callE ?_
  | with_reducible refine' Sy.wp_callX0 ?_
  | (with_reducible refine' Sy.wp_ext ?_)
  | with_reducible refine' Sy.wp_tup ?_
  | with_reducible refine' Sy.wp_lst ?_
  | with_reducible refine' Sy.wp_sl ?_
  | with_reducible refine' Sy.wp_rev ?_
  | with_reducible refine' Sy.wp_join ?_
  | with_reducible refine' Sy.wo_none ?_
  | with_reducible refine' Sy.wo_some ?_
  | with_reducible refine' Sy.wa_nil ?_
  | with_reducible refine' Sy.wa_cons ?_
  | with_reducible refine' Sy.wp_yes ?_
  | with_reducible refine' Sy.wg_name ?_
  | with_reducible refine' Sy.wgs_nil ?_
  | with_reducible refine' Sy.wgs_cons ?_
  | (refine' Sy.wg_tup rfl rfl ?_)
  | (refine' Sy.wo_inl (Sy.wo_I0 rfl rfl rfl ?_))
  | (refine' Sy.wo_I0 rfl rfl rfl ?_)
  | (refine' Sy.wo_sign rfl rfl ?_)
  | (refine' Sy.wo_inl (Sy.wo_I rfl rfl ?h1 rfl ?_); (case h1 => walk_at "syc"))
  | (refine' Sy.wo_I rfl rfl ?h1 rfl ?_; (case h1 => walk_at "syc"))
  | (refine' Sy.wo_isN ?h1 rfl ?_; (case h1 => (intro z; cases z)))
  | (refine' Sy.wo_notN ?h1 rfl ?_; (case h1 => (intro z; cases z)))
  | (refine' Sy.wo_eq rfl rfl rfl ?_)
  | (refine' Sy.wo_inl (Sy.wo_eq rfl rfl rfl ?_))
  | (refine' Sy.wo_ne rfl rfl rfl ?_)
  | (refine' Sy.wo_inl (Sy.wo_ne rfl rfl rfl ?_))
  | (refine' Sy.wo_ixL rfl rfl ?h1 ?_; (case h1 => first | rfl | assumption))
  | (refine' Sy.wo_ixT rfl rfl ?h1 ?_; (case h1 => first | rfl | assumption))
  | (refine' Sy.wc_int1 rfl ?_)
  | (refine' Sy.wc_abs rfl ?_)
  | (refine' Sy.wc_max2 rfl rfl ?_)
  | (refine' Sy.wc_min2 rfl rfl ?_)
  | (refine' Sy.wc_len rfl ?_)
  | (refine' Sy.wc_lenS rfl ?h1 ?_; (case h1 => omega))
  | (refine' Sy.wc_list rfl ?_)
  | (refine' Sy.wc_listT rfl ?_)
  | (refine' Sy.wc_tuple rfl ?_)
  | ((with_reducible refine' And.intro ?h1 ?_); (case h1 => first | (with_reducible rfl) | omega | decide | (simp only [List.length_cons, List.length_nil]; omega)))
  | ((with_reducible show @ite Prop (true = true) _ _ _); refine' Sy.iteT0 ?_)
  | ((with_reducible show @ite Prop (false = true) _ _ _); refine' Sy.iteF0 ?_)
  | ((with_reducible show @ite Prop ((!true) = true) _ _ _); refine' Sy.iteNT ?_)
  | ((with_reducible show @ite Prop (@decide _ _ = true) _ _ _); (refine' Sy.iteDT ?h1 ?_); (case h1 => first | omega | rfl | (intro z; cases z)))
  | ((with_reducible show @ite Prop (@decide _ _ = true) _ _ _); (refine' Sy.iteDF ?h1 ?_); (case h1 => first | omega | rfl | (intro z; cases z)))
  | ((with_reducible show @ite Prop ((!@decide _ _) = true) _ _ _); (refine' Sy.iteND ?h1 ?_); (case h1 => first | omega | rfl | (intro z; cases z)))
  | ((with_reducible show @ite Prop ((!@decide _ _) = true) _ _ _); (refine' Sy.iteNDF ?h1 ?_); (case h1 => first | omega | rfl | (intro z; cases z)))
  | ((with_reducible show @ite Prop ((!false) = true) _ _ _); refine' Sy.iteNF ?_)
  | (with_reducible refine' Sy.ws_try ?_)
  | (with_reducible refine' Sy.wsx_drop (Sy.wx_call (Sy.wax_of ?_)))
  | (with_reducible refine' Sy.wsx_asg (Sy.wx_call (Sy.wax_of ?_)))
  | (with_reducible refine' Sy.wsx_ret (Sy.wx_call (Sy.wax_of ?_)))
  | (with_reducible refine' Sy.wsx_of ?_)
  | (refine ⟨_, rfl, ⟨_, rfl⟩, ?_⟩)
  | (refine ⟨_, rfl, ?_⟩)
  | (refine ⟨_, _, rfl, rfl, ?_⟩)
  | (refine ⟨_, _, rfl, ?_⟩)
  | ((refine' Sy.iteNo ?h1 ?_); (case h1 => (intro z; cases z)))
  | ((refine' Sy.iteYes ?h1 ?_); (case h1 => rfl)))
-- many steps
local macro_rules | `(tactic| walk_at "syd") => `(tactic| try dsimp only [List.set, List.length_cons, List.length_nil, Nat.reduceAdd, Sy.isNon, List.cons_append, List.nil_append, List.map, Bool.not_true, Bool.not_false, Sy.Ty.isInt, Sy.Ty.isBool, Sy.Ty.isStr, Sy.Ty.isList, Sy.Ty.isTuple, Sy.Ty.isSeq])
local macro_rules | `(tactic| walk_at "sy") => `(tactic| repeat ((walk_at "sy1"); (walk_at "syd")))
-- the start of a body
local macro_rules | `(tactic| walk_at "sy0") => `(tactic| dsimp only [L2.cxOf, List.length_cons, List.length_nil, Nat.reduceAdd, Nat.reduceSub, List.replicate, List.cons_append, List.nil_append])
-- a turn's end: the slots and the cells are said by the invariant
local macro_rules | `(tactic| walk_at "wkl") => `(tactic| repeat' first | exact trivial | refine ⟨.inl rfl, ?_⟩ | refine ⟨.inr rfl, ?_⟩)
local macro_rules | `(tactic| walk_at "lowl") => `(tactic| repeat' first | exact trivial | refine ⟨by omega, ?_⟩)
local macro_rules | `(tactic| walk_at "turn") => `(tactic| refine Sy.turn_q ⟨rfl, rfl⟩ (by walk_at "wkl") (by walk_at "lowl"))

namespace Kp
open PySem PySem.Spec L2 Sy
section
variable {Pg : Program} {w : World} {K : PySem.W.Frag} {mg : Str → Option Value} {base : Heap}
theorem fm_congr {α β : Type} {f g : α → Option β} : {l : List α} → (∀ x ∈ l, f x = g x) → l.filterMap f = l.filterMap g
  | [], _ => rfl
  | x :: l, h => by
    rw [List.filterMap_cons, List.filterMap_cons, h x (List.mem_cons_self ..), fm_congr fun y hy => h y (List.mem_cons_of_mem _ hy)]
def oneD (ps : List Nat) : List PyData := ps.map fun (p : Nat) => .tuple [.int (p : Int)]
theorem oneD_at {ps : List Nat} {j : Nat} (h : j < ps.length) : atI (oneD ps) (j : Int) = some (.tuple [.int (ps[j] : Int)]) := by
  refine atI_nat ?_
  unfold oneD
  rw [List.getElem?_map, List.getElem?_eq_getElem h] <;> rfl
theorem oneD_len {ps : List Nat} : (oneD ps).length = ps.length := List.length_map _
def pr__law_next : Pr := prD fun ds d => ∃ (ps : List Nat) (p : Nat), ds = [.list (oneD ps), .int (p : Int)] ∧ p < ps.length ∧ ps.length ≤ 10000 ∧ d = optD (nxk ps p)
theorem ok__law_next (T : Txt K mg) : FnOk Pg w K mg base CX0 1 T.f__law_next T.d__law_next ["rows_here", "spot"] (spS K pr__law_next) := by
  refine ok_of _ T.F__law_next sc__law_next (hlenD fun ds d ⟨_, _, h, _⟩ => dlen h rfl) (fun cdv A outer s H E hr => ⟨_, (pss_cons (ps_for PassesOwn.never rfl (pi_range2 rfl T.z_range (pa_cons (pe_op (OpR.or op_add (OpR.or op_cat op_add_str)) (pv 1) pe_int) (pa_cons (pe_callB call_len (by rfl) T.z_len (by decide +kernel) (pa_cons (pv 0) pa_nil)) pa_nil))) (pg_name (i := 2) sc__law_next.nd rfl (.inl rfl))
    (pss_one (ps_if (pt_cmpR (OpR.or op_eq (op_eqD hr.units)) (pe_ix ix_seq (pe_ix ix_seq (pv 0) (pv 2) (fun _ _ => rfl)) pe_int (fun _ _ => rfl)) (pe_ix ix_seq (pe_ix ix_seq (pv 0) (pv 1) (fun _ _ => rfl)) pe_int (fun _ _ => rfl)) (nomark _)) (pss_one (ps_ret (pv 2))) pss_nil))) 
    (pss_one (ps_ret pe_non))), ?_⟩)
  walk_at "sy0"
  try dsimp only [N__law_next, List.length_cons, List.length_nil, Nat.reduceAdd, Nat.reduceSub, List.replicate, List.cons_append, List.nil_append]
  rintro as cl Φ ⟨_, _, rfl, rfl, ⟨ps, p, rfl, hp, hz, rfl⟩, q⟩
  have hn := oneD_len (ps := ps)
  have hnx : nxk ps p = ffk ps[p] (ps.drop (p + 1)) (p + 1) := by
    unfold nxk
    rw [List.getElem?_eq_getElem hp]
  dsimp only [List.map]
  refine ws_seq (ws_for (wi_rng2 ?_))
  walk_at "sy"
  have ecount : (((oneD ps).length : Nat) : Int) - ((p : Int) + 1) = ((ps.length - (p + 1) : Nat) : Int) := by omega
  rw [ecount, Int.toNat_natCast]
  refine ⟨fun (i : Nat) (sl : List SD) (cl : List Cell) => sl = [.dat (.list (oneD ps)), .dat (.int (p : Int)), .unk] ∧ cl = [] ∧ nxk ps p = ffk ps[p] (ps.drop (p + 1 + i)) (p + 1 + i), ⟨rfl, rfl, hnx⟩, fun i d sl' cl' hd hI hc => ?_, fun sl' cl' hI hc => ?_⟩
  · obtain ⟨hi, rfl⟩ := rngD_get hd
    obtain ⟨rfl, rfl, hx⟩ := hI
    have ej : (p : Int) + 1 + (i : Int) = ((p + 1 + i : Nat) : Int) := by omega
    rw [ej]
    have hj : p + 1 + i < ps.length := by omega
    have h1 := oneD_at hj
    have h2 := oneD_at hp
    rw [List.drop_eq_getElem_cons hj] at hx
    have hx2 : ffk ps[p] (ps[p + 1 + i] :: ps.drop (p + 1 + i + 1)) (p + 1 + i) = if ps[p + 1 + i] = ps[p] then some (p + 1 + i) else ffk ps[p] (ps.drop (p + 1 + i + 1)) (p + 1 + i + 1) := rfl
    rw [hx2] at hx
    walk_at "sy"
    refine iteD (fun he => ?_) (fun he => ?_)
    · rw [if_pos (by omega)] at hx
      rw [hx] at q
      walk_at "sy"
      exact q
    · rw [if_neg (by omega)] at hx
      walk_at "sy"
      exact turn_of [.dat _, .dat _, .unk] ⟨.inl rfl, .inl rfl, .inr rfl, trivial⟩ trivial ⟨rfl, rfl, hx⟩
  · obtain ⟨rfl, rfl, hx⟩ := hI
    rw [rngD_len, List.drop_eq_nil_of_le (by omega)] at hx
    rw [hx] at q
    walk_at "sy"
    exact q
def nextF (ps : List Nat) : PyData → Option PyData | .int i => some (optD (nxk ps i.toNat)) | _ => none
def pr__law_nexts : Pr := prD fun ds d => ∃ ps : List Nat, ds = [.list (oneD ps)] ∧ ps.length ≤ 10000 ∧ d = .list (optsD ps.length (nxk ps))
theorem ok__law_nexts (T : Txt K mg) : FnOk Pg w K mg base CX0 2 T.f__law_nexts T.d__law_nexts ["rows_here"] (spS K pr__law_nexts) := by
  refine ok_of _ T.F__law_nexts sc__law_nexts (hlenD fun ds d ⟨_, h, _⟩ => dlen h rfl) (fun cdv A outer s H E hr => ⟨_, (pss_one (ps_ret (pe_lc rfl sc__law_nexts.nd (own := [("k", 1)]) (pi_range1 rfl T.z_range (pa_cons (pe_callB call_len (by rfl) T.z_len (by decide +kernel) (pa_cons (pv 0) pa_nil)) pa_nil)) (blkOk_by (own := [("k", 1)]) (N := N__law_nexts) (sc := (defScope s__law_nexts)) (by decide +kernel)) (fun _ _ _ _ _ => (pg_name (i := 1) sc__law_nexts.nd rfl (.inl rfl))) (fun _ _ _ _ _ => pts_nil) (fun _ _ _ _ _ => (pe_call (ok__law_next T) (hr.mono (by decide)) (by rfl) T.g__law_next T.F__law_next.kp T.B__law_next .nil pass0 (pa_cons (pv 0) (pa_cons (pv 1) pa_nil))))))), ?_⟩)
  walk_at "sy0"
  try dsimp only [N__law_nexts, List.length_cons, List.length_nil, Nat.reduceAdd, Nat.reduceSub, List.replicate, List.cons_append, List.nil_append]
  rintro as cl Φ ⟨_, _, rfl, rfl, ⟨ps, rfl, hz, rfl⟩, q⟩
  have hn := oneD_len (ps := ps)
  dsimp only [List.map]
  refine ws_ret (lc_map (nextF ps) (wi_rng1 ?_))
  walk_at "sy"
  rw [hn, Int.toNat_natCast]
  refine ⟨by rw [rngD_len]; omega, gk_name (by simp), fun i d hd => ?_, ?_⟩
  · obtain ⟨hi, rfl⟩ := rngD_get hd
    have e0 : (0 : Int) + (i : Int) = (i : Int) := by omega
    rw [e0]
    dsimp only [wipeS]
    walk_at "sy"
    exact ⟨_, call_dat rfl ⟨ps, i, rfl, hi, hz, rfl⟩ ⟨_, rfl, rfl, by show some (optD (nxk ps ((i : Int).toNat))) = _; rw [Int.toNat_natCast]⟩⟩
  · have e : (rngD 0 ps.length).filterMap (nextF ps) = optsD ps.length (nxk ps) := by
      unfold rngD optsD
      rw [List.filterMap_map, ← List.filterMap_eq_map]
      congr 1
      funext i
      show some (optD (nxk ps ((0 : Int) + (i : Int)).toNat)) = some (optD (nxk ps i))
      rw [Int.zero_add, Int.toNat_natCast]
    rw [e]
    exact q
def oneF : PyData → Option PyData | d => some (.tuple [d])
def pr__law_shape_nexts : Pr := prD fun ds d => ∃ ps : List Nat, ds = [.list (posD ps)] ∧ ps.length ≤ 10000 ∧ d = .list (optsD ps.length (nxk ps))
theorem ok__law_shape_nexts (T : Txt K mg) : FnOk Pg w K mg base CX0 3 T.f__law_shape_nexts T.d__law_shape_nexts ["shape_here"] (spS K pr__law_shape_nexts) := by
  refine ok_of _ T.F__law_shape_nexts sc__law_shape_nexts (hlenD fun ds d ⟨_, h, _⟩ => dlen h rfl) (fun cdv A outer s H E hr => ⟨_, (pss_one (ps_ret (pe_call (ok__law_nexts T) (hr.mono (by decide)) (by rfl) T.g__law_nexts T.F__law_nexts.kp T.B__law_nexts .nil pass0 (pa_cons (pe_lc rfl sc__law_shape_nexts.nd (own := [("number_here", 1)]) (pi_list (pv 0)) (blkOk_by (own := [("number_here", 1)]) (N := N__law_shape_nexts) (sc := (defScope s__law_shape_nexts)) (by decide +kernel)) (fun _ _ _ _ _ => (pg_name (i := 1) sc__law_shape_nexts.nd rfl (.inl rfl))) (fun _ _ _ _ _ => pts_nil) (fun _ _ _ _ _ => (pe_tup (pa_cons (pv 1) pa_nil)))) pa_nil)))), ?_⟩)
  walk_at "sy0"
  try dsimp only [N__law_shape_nexts, List.length_cons, List.length_nil, Nat.reduceAdd, Nat.reduceSub, List.replicate, List.cons_append, List.nil_append]
  rintro as cl Φ ⟨_, _, rfl, rfl, ⟨ps, rfl, hz, rfl⟩, q⟩
  have hpl := posD_length (ps := ps)
  dsimp only [List.map]
  walk_at "sy"
  refine lc_map oneF (wi_list ?_)
  walk_at "sy"
  refine ⟨gk_name (by simp), fun i d hd => ?_, ?_⟩
  · obtain ⟨p, _, rfl⟩ := List.mem_map.mp (List.mem_of_getElem? hd)
    dsimp only [wipeS]
    walk_at "sy"
    rfl
  · have e : (posD ps).filterMap oneF = oneD ps := by
      unfold posD oneD
      rw [List.filterMap_map, ← List.filterMap_eq_map]
      rfl
    rw [e]
    walk_at "sy"
    exact ⟨_, call_dat rfl ⟨ps, rfl, hz, rfl⟩ q⟩
/-! lefts: the positions by their next ones, by sorting pairs -/
def prsN (n : Nat) (f : Nat → Option Nat) : List (Int × Int) := (List.range n).filterMap fun (k : Nat) => (f k).map fun (e : Nat) => ((e : Int), (k : Int))
def prF (f : Nat → Option Nat) : PyData → Option PyData | .int k => (f k.toNat).map fun (e : Nat) => .tuple [.int (e : Int), .int k] | _ => none
theorem prF_eq {n : Nat} {f : Nat → Option Nat} : (rngD 0 n).filterMap (prF f) = (prsN n f).map prD2 := by
  unfold rngD prsN
  rw [List.filterMap_map, List.map_filterMap]
  congr 1
  funext k
  show ((f ((0 : Int) + (k : Int)).toNat).map fun (e : Nat) => PyData.tuple [.int (e : Int), .int ((0 : Int) + (k : Int))]) = _
  rw [Int.zero_add, Int.toNat_natCast, Option.map_map] <;> rfl
theorem prs_mem {n : Nat} {f : Nat → Option Nat} (h : NxOk n f) {s : Int × Int} : s ∈ prsN n f ↔ ∃ k e : Nat, f k = some e ∧ s = ((e : Int), (k : Int)) := by
  unfold prsN
  rw [List.mem_filterMap]
  constructor
  · rintro ⟨k, _, hk⟩
    cases hf : f k with
    | none => rw [hf] at hk; cases hk
    | some e => rw [hf] at hk; exact ⟨k, e, hf, (Option.some.inj hk).symm⟩
  · rintro ⟨k, e, hf, rfl⟩
    have := h.1 k e hf
    exact ⟨k, List.mem_range.mpr (by omega), by rw [hf] <;> rfl⟩
theorem prs_nodup {n : Nat} {f : Nat → Option Nat} : (prsN n f).Nodup := by
  unfold prsN
  rw [List.nodup_iff_pairwise_ne, List.pairwise_filterMap]
  refine List.Pairwise.imp ?_ (List.nodup_iff_pairwise_ne.mp List.nodup_range)
  intro a b hab s hs t ht e
  cases hf : f a with
  | none => rw [hf] at hs; cases hs
  | some x => cases hg : f b with
    | none => rw [hg] at ht; cases ht
    | some y =>
      rw [hf] at hs
      rw [hg] at ht
      have h1 := Option.some.inj hs
      have h2 := Option.some.inj ht
      rw [← h1, ← h2] at e
      have := (Prod.mk.inj e).2
      omega
theorem code2 (x y : Int) : TS.code 1000 [x, y] = x * 1000 + y := by
  have e1 : (1000 : Int) ^ 1 = 1000 := by decide
  have e0 : (1000 : Int) ^ 0 = 1 := by decide
  show x * 1000 ^ 1 + (y * 1000 ^ 0 + 0) = x * 1000 + y
  rw [e1, e0, Int.mul_one, Int.add_zero]
theorem lefts_eq {n : Nat} {f : Nat → Option Nat} (h : NxOk n f) (hn : n ≤ 500) {ss : List (Int × Int)} (hp : ss.Perm (prsN n f)) (hs : ss.Pairwise fun s t => TS.code 1000 [s.1, s.2] ≤ TS.code 1000 [t.1, t.2]) : ss.map (fun s => s.2.toNat) = byN n f := by
  have hm : ∀ s ∈ ss, ∃ k e : Nat, f k = some e ∧ s = ((e : Int), (k : Int)) := fun s h' => (prs_mem h).mp (hp.mem_iff.mp h')
  have hnd : ss.Nodup := hp.nodup_iff.mpr prs_nodup
  refine byN_uniq h ?_ fun i => ?_
  · rw [List.pairwise_map]
    have both := hs.and (List.nodup_iff_pairwise_ne.mp hnd)
    refine List.Pairwise.imp_of_mem ?_ both
    intro s t hs1 ht1 ⟨hle, hne⟩
    obtain ⟨k, e, hf, rfl⟩ := hm s hs1
    obtain ⟨k', e', hf', rfl⟩ := hm t ht1
    rw [code2, code2] at hle
    dsimp only at hle
    have b1 := h.1 k e hf
    have b2 := h.1 k' e' hf'
    have hk : ((k : Int)).toNat = k := Int.toNat_natCast k
    have hk' : ((k' : Int)).toNat = k' := Int.toNat_natCast k'
    show ltF f (k : Int).toNat (k' : Int).toNat
    rw [hk, hk']
    refine ⟨e, e', hf, hf', ?_⟩
    rcases Nat.lt_trichotomy e e' with z | z | z
    · exact z
    · subst z
      have := h.2 k k' e hf hf'
      subst this
      exact absurd rfl hne
    · omega
  · rw [List.mem_map]
    constructor
    · rintro ⟨s, hs1, rfl⟩
      obtain ⟨k, e, hf, rfl⟩ := hm s hs1
      exact ⟨e, by show f (k : Int).toNat = _; rw [Int.toNat_natCast]; exact hf⟩
    · rintro ⟨e, hf⟩
      exact ⟨((e : Int), (i : Int)), hp.mem_iff.mpr ((prs_mem h).mpr ⟨i, e, hf, rfl⟩), Int.toNat_natCast i⟩
def sndF : PyData → Option PyData | .tuple [_, .int k] => some (.int k) | _ => none
theorem snd_eq {n : Nat} {f : Nat → Option Nat} (h : NxOk n f) {ss : List (Int × Int)} (hp : ∀ s ∈ ss, s ∈ prsN n f) : (ss.map prD2).filterMap sndF = posD (ss.map fun s => s.2.toNat) := by
  unfold posD
  rw [List.filterMap_map, List.map_map, ← List.filterMap_eq_map]
  refine fm_congr fun s hs => ?_
  obtain ⟨k, e, hf, rfl⟩ := (prs_mem h).mp (hp s hs)
  show some (PyData.int (k : Int)) = some (PyData.int (((k : Int).toNat : Nat) : Int))
  rw [Int.toNat_natCast]
def pr__law_lefts : Pr := prD fun ds d => ∃ (n : Nat) (f : Nat → Option Nat), ds = [.list (optsD n f)] ∧ n ≤ 61 ∧ NxOk n f ∧ d = .list (posD (byN n f))
theorem ok__law_lefts (T : Txt K mg) : FnOk Pg w K mg base CX0 1 T.f__law_lefts T.d__law_lefts ["nexts_here"] (spS K pr__law_lefts) := by
  refine ok_of _ T.F__law_lefts sc__law_lefts (hlenD fun ds d ⟨_, _, h, _⟩ => dlen h rfl) (fun cdv A outer s H E hr => ⟨_, (pss_cons (ps_set (i := 1) sc__law_lefts.nd rfl (.inl rfl) (pe_callB (cr_sortT (d := 2) (B := 1000) (by decide)) (by rfl) T.z_sorted (by decide +kernel) (pa_cons (pe_lc rfl sc__law_lefts.nd (own := [("k", 2)]) (pi_range1 rfl T.z_range (pa_cons (pe_callB call_len (by rfl) T.z_len (by decide +kernel) (pa_cons (pv 0) pa_nil)) pa_nil)) (blkOk_by (own := [("k", 2)]) (N := N__law_lefts) (sc := (defScope s__law_lefts)) (by decide +kernel)) (fun _ _ _ _ _ => (pg_name (i := 2) sc__law_lefts.nd rfl (.inl rfl))) (fun _ _ _ _ _ => (pts_one (pt_cmpR op_notN (pe_ix (ix_seqK (K := K) rfl) (pv 0) (pv 2) (fun _ _ => rfl)) pe_non (nomark _)))) (fun _ _ _ _ _ => (pe_tup (pa_cons (pe_ix (ix_seqK (K := K) rfl) (pv 0) (pv 2) (fun _ _ => rfl)) (pa_cons (pv 2) pa_nil))))) pa_nil))) 
    (pss_one (ps_ret (pe_lc rfl sc__law_lefts.nd (own := [("right", 3), ("k", 2)]) (g := (gTup K 2 (gCons (gName 3) (gCons (gName 2) gNil)))) (pi_list (pv 1)) (blkOk_by (own := [("right", 3), ("k", 2)]) (N := N__law_lefts) (sc := (defScope s__law_lefts)) (by decide +kernel)) (fun _ _ _ _ _ => (pg_tup rfl (pgs_cons (pg_name (i := 3) sc__law_lefts.nd rfl (.inl rfl)) (pgs_cons (pg_name (i := 2) sc__law_lefts.nd rfl (.inl rfl)) pgs_nil)))) (fun _ _ _ _ _ => pts_nil) (fun _ _ _ _ _ => (pv 2)))))), ?_⟩)
  walk_at "sy0"
  try dsimp only [N__law_lefts, List.length_cons, List.length_nil, Nat.reduceAdd, Nat.reduceSub, List.replicate, List.cons_append, List.nil_append]
  rintro as cl Φ ⟨_, _, rfl, rfl, ⟨n, f, rfl, hz, hf, rfl⟩, q⟩
  have hn := optsD_len (n := n) (f := f)
  have hpl : (prsN n f).length ≤ n := by
    unfold prsN
    have := List.length_filterMap_le (fun (k : Nat) => (f k).map fun (e : Nat) => ((e : Int), (k : Int))) (List.range n)
    rw [List.length_range] at this
    exact this
  dsimp only [List.map]
  refine ws_seq (ws_asg (wp_cb (wa_cons (lc_map (prF f) (wi_rng1 ?_)))))
  walk_at "sy"
  rw [hn, Int.toNat_natCast]
  refine ⟨by rw [rngD_len]; omega, gk_name (by simp), fun i d hd => ?_, ?_⟩
  · obtain ⟨hi, rfl⟩ := rngD_get hd
    have e0 : (0 : Int) + (i : Int) = (i : Int) := by omega
    rw [e0]
    have hat : atI (optsD n f) (i : Int) = some (optD (f i)) := atI_rng hi
    have hF : prF f (.int (i : Int)) = (f i).map fun (e : Nat) => .tuple [.int (e : Int), .int (i : Int)] := by
      show ((f (i : Int).toNat).map fun (e : Nat) => PyData.tuple [.int (e : Int), .int (i : Int)]) = _
      rw [Int.toNat_natCast]
    dsimp only [wipeS]
    cases hfi : f i with
    | none =>
      rw [hfi] at hat hF
      dsimp only [optD] at hat
      walk_at "sy"
      exact hF
    | some e =>
      rw [hfi] at hat hF
      dsimp only [optD] at hat
      walk_at "sy"
      exact hF
  · rw [prF_eq]
    walk_at "sy"
    refine wc_sortPr (B := 1000) rfl (by omega) (fun s hs => ?_) fun ss' hp hs => wg_name ?_
    · obtain ⟨k, e, hk, rfl⟩ := (prs_mem hf).mp hs
      have := hf.1 k e hk
      intro m hm
      rcases List.mem_cons.mp hm with z | z
      · rw [z]; dsimp only; omega
      · rw [List.mem_singleton.mp z]; dsimp only; omega
    · have hl : ss'.length ≤ 61 := by rw [hp.length_eq]; omega
      walk_at "syd"
      refine ws_ret (lc_map sndF (wi_list ?_))
      walk_at "sy"
      refine ⟨by rw [List.length_map]; omega, gk_tup2 (by decide), fun i d hd => ?_, ?_⟩
      · obtain ⟨s, hm, rfl⟩ := List.mem_map.mp (List.mem_of_getElem? hd)
        dsimp only [wipeS]
        walk_at "sy"
        rfl
      · rw [snd_eq hf fun s h => hp.mem_iff.mp h, lefts_eq hf (by omega) hp hs]
        exact q
end
end Kp
end

section
-- conditions of operations on ints
local macro_rules | `(tactic| walk_at "syc") => `(tactic| first
  | exact Sy.cpow (by decide) (by decide)
  | exact Sy.mul_l (by omega) (by omega)
  | exact Sy.mul_r (by omega) (by omega)
  | exact Sy.fdiv_ok (by omega) (by omega)
  | ((show (0 : Int) < _); first | omega | (simp only [Sy.pow12, Sy.pow18, Sy.pow29, Sy.pow38, Sy.pow39, Sy.pow40]; omega)))
-- one step of the symbolic run
local macro_rules | `(tactic| walk_at "sy1") => `(tactic| first
  | with_reducible refine' Sy.ws_seq ?_
  | (with_reducible refine' Sy.ws_setI ?_)
  | (with_reducible refine' Sy.ws_asg ?_)
  | with_reducible refine' Sy.ws_ret (Sy.wp_lstO ?_)
  | with_reducible refine' Sy.ws_ret ?_
  | with_reducible refine' Sy.ws_if ?_
  | with_reducible refine' Sy.ws_drop ?_
  | with_reducible refine' Sy.ws_next ?_
  | with_reducible refine' Sy.ws_par ?_
  | with_reducible refine' Sy.wp_app ?_
  | with_reducible refine' Sy.ws_setI ?_
  | with_reducible refine' Sy.ws_dput ?_
  | with_reducible refine' Sy.wp_dget1 ?_
  | with_reducible refine' Sy.wp_dnotin ?_
  | ((with_reducible refine' Sy.wp_var ?h1 ?h2 ?_); (case h1 => rfl); (case h2 => (intro z; cases z)))
  | ((with_reducible refine' Sy.wp_c ?h1 ?_); (case h1 => rfl))
  | with_reducible refine' Sy.isi_int ?_
  | with_reducible refine' Sy.isi_bool ?_
  | with_reducible refine' Sy.isi_str ?_
  | with_reducible refine' Sy.isi_list ?_
  | with_reducible refine' Sy.isi_tuple ?_
  | with_reducible refine' Sy.isi_seq ?_
  | with_reducible refine' Sy.wp_op ?_
  | with_reducible refine' Sy.wp_neg ?_
  | with_reducible refine' Sy.wp_test ?_
  | with_reducible refine' Sy.wp_testB ?_
  | with_reducible refine' Sy.wp_and ?_
  | with_reducible refine' Sy.wp_or ?_
  | with_reducible refine' Sy.wp_not ?_
  | with_reducible refine' Sy.wp_if ?_
  | with_reducible refine' Sy.wp_andV ?_
  | with_reducible refine' Sy.wp_orV ?_
  | with_reducible refine' Sy.wp_notV ?_
  | with_reducible refine' Sy.wp_chain ?_
  | with_reducible refine' Sy.wp_cb ?_
  | with_reducible refine' Sy.wp_callE ?_
  | with_reducible refine' Sy.wp_callX0 ?_
  | (with_reducible refine' Sy.wp_ext ?_)
  | with_reducible refine' Sy.wp_tup ?_
  | with_reducible refine' Sy.wp_lst ?_
  | with_reducible refine' Sy.wp_sl ?_
  | with_reducible refine' Sy.wp_rev ?_
  | with_reducible refine' Sy.wp_join ?_
  | with_reducible refine' Sy.wo_none ?_
  | with_reducible refine' Sy.wo_some ?_
  | with_reducible refine' Sy.wa_nil ?_
  | with_reducible refine' Sy.wa_cons ?_
  | with_reducible refine' Sy.wp_yes ?_
  | with_reducible refine' Sy.wg_name ?_
  | with_reducible refine' Sy.wgs_nil ?_
  | with_reducible refine' Sy.wgs_cons ?_
  | (refine' Sy.wg_tup rfl rfl ?_)
  | (refine' Sy.wo_inl (Sy.wo_I0 rfl rfl rfl ?_))
  | (refine' Sy.wo_I0 rfl rfl rfl ?_)
  | (refine' Sy.wo_sign rfl rfl ?_)
  | (refine' Sy.wo_inl (Sy.wo_I rfl rfl ?h1 rfl ?_); (case h1 => walk_at "syc"))
  | (refine' Sy.wo_I rfl rfl ?h1 rfl ?_; (case h1 => walk_at "syc"))
  | (refine' Sy.wo_isN ?h1 rfl ?_; (case h1 => (intro z; cases z)))
  | (refine' Sy.wo_notN ?h1 rfl ?_; (case h1 => (intro z; cases z)))
  | (refine' Sy.wo_eq rfl rfl rfl ?_)
  | (refine' Sy.wo_inl (Sy.wo_eq rfl rfl rfl ?_))
  | (refine' Sy.wo_ne rfl rfl rfl ?_)
  | (refine' Sy.wo_inl (Sy.wo_ne rfl rfl rfl ?_))
  | (refine' Sy.wo_ixL rfl rfl ?h1 ?_; (case h1 => first | rfl | assumption))
  | (refine' Sy.wo_ixT rfl rfl ?h1 ?_; (case h1 => first | rfl | assumption))
  | (refine' Sy.wc_int1 rfl ?_)
  | (refine' Sy.wc_abs rfl ?_)
  | (refine' Sy.wc_max2 rfl rfl ?_)
  | (refine' Sy.wc_min2 rfl rfl ?_)
  | (refine' Sy.wc_len rfl ?_)
  | (refine' Sy.wc_lenS rfl ?h1 ?_; (case h1 => omega))
  | (refine' Sy.wc_list rfl ?_)
  | (refine' Sy.wc_listT rfl ?_)
  | (refine' Sy.wc_tuple rfl ?_)
  | ((with_reducible refine' And.intro ?h1 ?_); (case h1 => first | (with_reducible rfl) | omega | decide | (simp only [List.length_cons, List.length_nil]; omega)))
  | ((with_reducible show @ite Prop (true = true) _ _ _); refine' Sy.iteT0 ?_)
  | ((with_reducible show @ite Prop (false = true) _ _ _); refine' Sy.iteF0 ?_)
  | ((with_reducible show @ite Prop ((!true) = true) _ _ _); refine' Sy.iteNT ?_)
  | ((with_reducible show @ite Prop (@decide _ _ = true) _ _ _); (refine' Sy.iteDT ?h1 ?_); (case h1 => first | omega | rfl | (intro z; cases z)))
  | ((with_reducible show @ite Prop (@decide _ _ = true) _ _ _); (refine' Sy.iteDF ?h1 ?_); (case h1 => first | omega | rfl | (intro z; cases z)))
  | ((with_reducible show @ite Prop ((!@decide _ _) = true) _ _ _); (refine' Sy.iteND ?h1 ?_); (case h1 => first | omega | rfl | (intro z; cases z)))
  | ((with_reducible show @ite Prop ((!@decide _ _) = true) _ _ _); (refine' Sy.iteNDF ?h1 ?_); (case h1 => first | omega | rfl | (intro z; cases z)))
  | ((with_reducible show @ite Prop ((!false) = true) _ _ _); refine' Sy.iteNF ?_)
  | (with_reducible refine' Sy.ws_try ?_)
  | (with_reducible refine' Sy.wsx_drop (Sy.wx_call (Sy.wax_of ?_)))
  | (with_reducible refine' Sy.wsx_asg (Sy.wx_call (Sy.wax_of ?_)))
  | (with_reducible refine' Sy.wsx_ret (Sy.wx_call (Sy.wax_of ?_)))
  | (with_reducible refine' Sy.wsx_of ?_)
  | (refine ⟨_, rfl, ⟨_, rfl⟩, ?_⟩)
  | (refine ⟨_, rfl, ?_⟩)
  | (refine ⟨_, _, rfl, rfl, ?_⟩)
  | (refine ⟨_, _, rfl, ?_⟩)
  | ((refine' Sy.iteNo ?h1 ?_); (case h1 => (intro z; cases z)))
  | ((refine' Sy.iteYes ?h1 ?_); (case h1 => rfl)))
-- many steps
local macro_rules | `(tactic| walk_at "syd") => `(tactic| try dsimp only [List.set, List.length_cons, List.length_nil, Nat.reduceAdd, Sy.isNon, List.cons_append, List.nil_append, List.map, Bool.not_true, Bool.not_false, Sy.Ty.isInt, Sy.Ty.isBool, Sy.Ty.isStr, Sy.Ty.isList, Sy.Ty.isTuple, Sy.Ty.isSeq])
local macro_rules | `(tactic| walk_at "sy") => `(tactic| repeat ((walk_at "sy1"); (walk_at "syd")))
-- the start of a body
local macro_rules | `(tactic| walk_at "sy0") => `(tactic| dsimp only [L2.cxOf, List.length_cons, List.length_nil, Nat.reduceAdd, Nat.reduceSub, List.replicate, List.cons_append, List.nil_append])
-- a turn's end: the slots and the cells are said by the invariant
local macro_rules | `(tactic| walk_at "wkl") => `(tactic| repeat' first | exact trivial | refine ⟨.inl rfl, ?_⟩ | refine ⟨.inr rfl, ?_⟩)
local macro_rules | `(tactic| walk_at "lowl") => `(tactic| repeat' first | exact trivial | refine ⟨by omega, ?_⟩)
local macro_rules | `(tactic| walk_at "turn") => `(tactic| refine Sy.turn_q ⟨rfl, rfl⟩ (by walk_at "wkl") (by walk_at "lowl"))

namespace Kp
open PySem PySem.Spec L2 Sy
section
variable {Pg : Program} {w : World} {K : PySem.W.Frag} {mg : Str → Option Value} {base : Heap}
def pr__law_other_ends : Pr := fun as cl Φ => ∃ (size n : Nat) (ls : List Nat) (c : Cell), as = [.own 0, .dat (.int (size : Int)), .dat (.list (posD ls))] ∧ cl = [c] ∧ Crate n c ∧ n + 100 ≤ 1000000 ∧ size ≤ 61 ∧ ls.length ≤ size ∧ (∀ k, k < ls.length → ls.getD k 0 + 1 + ls.length ≤ size + k) ∧
  ∀ (rs : List Nat) c', rs.length = ls.length → (∀ k, k < ls.length → ls.getD k 0 < rs.getD k 0) → Crate (n + 100) c' → Φ (.own 1) [c', .lst (posD rs)]
theorem getD_snoc {l : List Nat} {x k : Nat} : (l ++ [x]).getD k 0 = if k = l.length then x else l.getD k 0 := by
  rw [List.getD_eq_getElem?_getD, List.getD_eq_getElem?_getD]
  by_cases h : k = l.length
  · rw [if_pos h, h, List.getElem?_append_right (Nat.le_refl _), Nat.sub_self] <;> rfl
  · rw [if_neg h]
    by_cases h2 : k < l.length
    · rw [List.getElem?_append_left h2]
    · rw [List.getElem?_append_right (by omega), List.getElem?_eq_none (by show [x].length ≤ _; show 1 ≤ _; omega), List.getElem?_eq_none (by omega)]
theorem ok__law_other_ends (T : Txt K mg) : FnOk Pg w K mg base CX0 2 T.f__law_other_ends T.d__law_other_ends ["crate", "size", "lefts_here"] (spS K pr__law_other_ends) := by
  refine ok_of _ T.F__law_other_ends sc__law_other_ends (fun as cl Φ ⟨_, _, _, _, h, _⟩ => by rw [h] <;> rfl) (fun cdv A outer s H E hr => ⟨_, (pss_cons (ps_par (i := 3) (j := 4) rfl sc__law_other_ends.nd rfl rfl (by decide) rfl rfl (pa_cons (pe_lst pa_nil) (pa_cons pe_int pa_nil)) (by rfl)) 
    (pss_cons (ps_for PassesOwn.never rfl (pi_range1 rfl T.z_range (pa_cons (pe_callB call_len (by rfl) T.z_len (by decide +kernel) (pa_cons (pv 2) pa_nil)) pa_nil)) (pg_name (i := 5) sc__law_other_ends.nd rfl (.inl rfl))
    (pss_cons (ps_set (i := 4) sc__law_other_ends.nd rfl (.inl rfl) (pe_callB (call_max2 rfl) (by rfl) T.z_max (by decide +kernel) (pa_cons (pv 4) (pa_cons (pe_op (OpR.or op_add (OpR.or op_cat op_add_str)) (pe_ix ix_seq (pv 2) (pv 5) (fun _ _ => rfl)) pe_int) pa_nil)))) 
    (pss_cons (ps_set (i := 4) sc__law_other_ends.nd rfl (.inl rfl) (pe_op (OpR.or op_add (OpR.or op_cat op_add_str)) (pv 4) (pe_call (ok__law_grab T) (hr.mono (by decide)) (by rfl) T.g__law_grab T.F__law_grab.kp T.B__law_grab .nil pass0 (pa_cons (pv 0) (pa_cons (pe_op (OpR.or op_add (OpR.or op_cat op_add_str)) (pe_op op_sub (pe_op (OpR.or op_add (OpR.or op_cat op_add_str)) (pe_op op_sub (pv 1) (pe_callB call_len (by rfl) T.z_len (by decide +kernel) (pa_cons (pv 2) pa_nil))) (pv 5)) (pv 4)) pe_int) pa_nil))))) 
    (pss_cons (ps_expr (pe_bm PySem.F.plainAttrs_list PySem.F.slot_list_append PySem.F.type_list_append mt_append (pv 3) (pa_cons (pv 4) pa_nil))) 
    (pss_one (ps_set (i := 4) sc__law_other_ends.nd rfl (.inl rfl) (pe_op (OpR.or op_add (OpR.or op_cat op_add_str)) (pv 4) pe_int))))))) 
    (pss_one (ps_ret (pv 3))))), ?_⟩)
  walk_at "sy0"
  try dsimp only [N__law_other_ends, List.length_cons, List.length_nil, Nat.reduceAdd, Nat.reduceSub, List.replicate, List.cons_append, List.nil_append]
  rintro as cl Φ ⟨size, n, ls, c, rfl, rfl, hc, hn, hz, hll, hroom, q⟩
  have hpl : (posD ls).length = ls.length := posD_length
  refine ws_seq (ws_par (wa_cons (wp_lstO (wa_nil ⟨[], rfl, by simp, wa_cons (wp_c rfl (wa_nil ⟨_, _, rfl, ?_⟩))⟩))))
  walk_at "syd"
  refine ws_seq (ws_for (wi_rng1 ?_))
  walk_at "sy"
  rw [hpl, Int.toNat_natCast]
  refine ⟨fun (i : Nat) (sl : List SD) (cl : List Cell) => ∃ rs c low, sl = [.own 0, .dat (.int (size : Int)), .dat (.list (posD ls)), .own 1, .dat (.int ((low : Nat) : Int)), .unk] ∧ cl = [c, .lst (posD rs)] ∧ rs.length = i ∧ low + ls.length ≤ size + i ∧ (∀ k, k < i → ls.getD k 0 < rs.getD k 0) ∧ Crate (n + i) c, ⟨[], c, 0, rfl, rfl, rfl, by omega, fun k hk => absurd hk (Nat.not_lt_zero _), hc⟩, fun i d sl' cl' hd hI hcl => ?_, fun sl' cl' hI hcl => ?_⟩
  · obtain ⟨hi, rfl⟩ := rngD_get hd
    obtain ⟨rs, c1, low, rfl, rfl, hrl, hlow, hlt, hc1⟩ := hI
    clear hd hcl
    have e0 : (0 : Int) + (i : Int) = (i : Int) := by omega
    rw [e0]
    have hat := posD_at hi
    have hr := hroom i hi
    have hrl2 : (posD rs).length = i := posD_length.trans hrl
    generalize hg : ls.getD i 0 = li at hat hr
    obtain ⟨lo, hlo1, hlo2⟩ : ∃ lo : Nat, (if (li : Int) + 1 > (low : Int) then (li : Int) + 1 else (low : Int)) = (lo : Int) ∧ li < lo ∧ lo + ls.length ≤ size + i := by
      by_cases h : (li : Int) + 1 > (low : Int)
      · exact ⟨li + 1, by rw [if_pos h] <;> rfl, by omega, by omega⟩
      · exact ⟨low, by rw [if_neg h], by omega, by omega⟩
    obtain ⟨hlo2, hlo3⟩ := hlo2
    walk_at "sy"
    rw [hlo1, hpl]
    walk_at "sy"
    refine grab_ok rfl hc1 (by omega) (by omega) (by omega) fun x c2 hx hc2 => ?_
    walk_at "sy"
    have ev : (lo : Int) + (x : Int) = ((lo + x : Nat) : Int) := by omega
    rw [ev]
    have ev2 : ((lo + x : Nat) : Int) + 1 = ((lo + x + 1 : Nat) : Int) := by omega
    walk_at "sy"
    rw [ev2]
    refine turn_of [.own 0, .dat _, .dat _, .own 1, .dat _, .unk] ⟨.inl rfl, .inl rfl, .inl rfl, .inl rfl, .inl rfl, .inr rfl, trivial⟩ ⟨by omega, by omega, trivial⟩ ⟨rs ++ [lo + x], c2, lo + x + 1, rfl, by rw [posD_snoc] <;> rfl, by rw [List.length_append, hrl] <;> rfl, by omega, fun k hk => ?_, hc2⟩
    rw [getD_snoc]
    by_cases h : k = rs.length
    · rw [if_pos h, h, hrl, hg]
      omega
    · rw [if_neg h]
      exact hlt k (by omega)
  · obtain ⟨rs, c1, low, rfl, rfl, hrl, hlow, hlt, hc1⟩ := hI
    rw [rngD_len] at hrl hlt hc1
    walk_at "sy"
    exact q rs c1 hrl hlt (hc1.mono (by omega))
def pr__law_shape : Pr := fun as cl Φ => ∃ (size : Nat) (ls rs : List Nat), as = [.dat (.int (size : Int)), .dat (.list (posD ls)), .dat (.list (posD rs))] ∧ cl = [] ∧ size ≤ 61 ∧ rs.length = ls.length ∧ (∀ k, k < ls.length → ls.getD k 0 < rs.getD k 0) ∧
  ∀ qs : List Nat, qs.length = size → (∀ q ∈ qs, q < 61) → Φ (.own 0) [.lst (posD qs)]
theorem eqG_int (a b : Nat) : eqG (.int (a : Int)) (.int (b : Int)) = decide (a = b) := by
  show ((a : Int) == (b : Int)) = _
  by_cases h : a = b
  · subst h; simp
  · have : ¬ (a : Int) = (b : Int) := by omega
    simp [h, this]
theorem ok__law_shape (T : Txt K mg) : FnOk Pg w K mg base CX0 1 T.f__law_shape T.d__law_shape ["size", "lefts_here", "rights_here"] (spS K pr__law_shape) := by
  refine ok_of _ T.F__law_shape sc__law_shape (fun as cl Φ ⟨_, _, _, h, _⟩ => by rw [h] <;> rfl) (fun cdv A outer s H E hr => ⟨_, (pss_cons (ps_par (i := 3) (j := 4) rfl sc__law_shape.nd rfl rfl (by decide) rfl rfl (pa_cons (pe_lst pa_nil) (pa_cons pe_int pa_nil)) (by rfl)) 
    (pss_cons (ps_for PassesOwn.never rfl (pi_range1 rfl T.z_range (pa_cons (pv 0) pa_nil)) (pg_name (i := 5) sc__law_shape.nd rfl (.inl rfl))
    (pss_one (ps_if (pt_cmpR op_in_seq (pv 5) (pv 2) (by rfl)) (pss_one (ps_expr (pe_bm PySem.F.plainAttrs_list PySem.F.slot_list_append PySem.F.type_list_append mt_append (pv 3) (pa_cons (pe_ix ix_seq (pv 3) (pe_ix ix_seq (pv 1) (pe_bm PySem.F.plainAttrs_list PySem.F.slot_list_index PySem.F.type_list_index mt_index (pv 2) (pa_cons (pv 5) pa_nil)) (fun _ _ => rfl)) (fun _ _ => rfl)) pa_nil)))) (pss_cons (ps_expr (pe_bm PySem.F.plainAttrs_list PySem.F.slot_list_append PySem.F.type_list_append mt_append (pv 3) (pa_cons (pv 4) pa_nil))) 
    (pss_one (ps_set (i := 4) sc__law_shape.nd rfl (.inl rfl) (pe_op (OpR.or op_add (OpR.or op_cat op_add_str)) (pv 4) pe_int))))))) 
    (pss_one (ps_ret (pv 3))))), ?_⟩)
  walk_at "sy0"
  try dsimp only [N__law_shape, List.length_cons, List.length_nil, Nat.reduceAdd, Nat.reduceSub, List.replicate, List.cons_append, List.nil_append]
  rintro as cl Φ ⟨size, ls, rs, rfl, rfl, hz, hrl, hlt, q⟩
  refine ws_seq (ws_par (wa_cons (wp_lstO (wa_nil ⟨[], rfl, by simp, wa_cons (wp_c rfl (wa_nil ⟨_, _, rfl, ?_⟩))⟩))))
  walk_at "syd"
  refine ws_seq (ws_for (wi_rng1 ?_))
  walk_at "sy"
  rw [Int.toNat_natCast]
  refine ⟨fun (i : Nat) (sl : List SD) (cl : List Cell) => ∃ qs many, sl = [.dat (.int (size : Int)), .dat (.list (posD ls)), .dat (.list (posD rs)), .own 0, .dat (.int ((many : Nat) : Int)), .unk] ∧ cl = [.lst (posD qs)] ∧ qs.length = i ∧ many ≤ i ∧ ∀ q ∈ qs, q < 61, ⟨[], 0, rfl, rfl, rfl, Nat.le_refl _, fun q hq => by cases hq⟩, fun i d sl' cl' hd hI hcl => ?_, fun sl' cl' hI hcl => ?_⟩
  · obtain ⟨hi, rfl⟩ := rngD_get hd
    obtain ⟨qs, many, rfl, rfl, hql, hmany, hq⟩ := hI
    clear hd hcl
    have e0 : (0 : Int) + (i : Int) = (i : Int) := by omega
    rw [e0]
    have hql2 : (posD qs).length = i := posD_length.trans hql
    walk_at "sy"
    refine wo_in rfl rfl rfl (posD_flat rs) ?_
    rw [inD_pos]
    walk_at "sy"
    refine iteD (fun h => ?_) (fun h => ?_)
    · walk_at "sy"
      refine wp_index ?_
      walk_at "sy"
      refine ⟨⟨_, rfl⟩, ?_⟩
      walk_at "sy"
      have hx1 := ixO_lt h
      have hx2 := ixO_get h
      have hlx := hlt (ixO i rs) (by omega)
      have hrx : rs.getD (ixO i rs) 0 = i := by rw [List.getD_eq_getElem?_getD, hx2] <;> rfl
      rw [hrx] at hlx
      refine ⟨_, _, ixO i rs, .int (i : Int), rfl, rfl, rfl, posD_flat rs, ?_, by rw [eqG_int]; simp, fun m z' hm1 hz1 => ?_, ?_⟩
      · unfold posD
        rw [List.getElem?_map, hx2] <;> rfl
      · unfold posD at hz1
        rw [List.getElem?_map] at hz1
        cases hy : rs[m]? with
        | none => rw [hy] at hz1; cases hz1
        | some y =>
          rw [hy] at hz1
          rw [← Option.some.inj hz1, eqG_int]
          exact decide_eq_false (ixO_first hm1 hy)
      have hat := posD_at (ps := ls) (i := ixO i rs) (by omega)
      have hat2 := posD_at (ps := qs) (i := ls.getD (ixO i rs) 0) (by omega)
      have hqv : qs.getD (ls.getD (ixO i rs) 0) 0 < 61 := by
        rw [List.getD_eq_getElem?_getD, List.getElem?_eq_getElem (by omega)]
        exact hq _ (List.getElem_mem _)
      generalize qs.getD (ls.getD (ixO i rs) 0) 0 = v at hat2 hqv
      walk_at "sy"
      refine turn_of [.dat _, .dat _, .dat _, .own 0, .dat _, .unk] ⟨.inl rfl, .inl rfl, .inl rfl, .inl rfl, .inl rfl, .inr rfl, trivial⟩ ⟨by omega, trivial⟩ ⟨qs ++ [v], many, rfl, by rw [posD_snoc] <;> rfl, by rw [List.length_append, hql] <;> rfl, by omega, fun q hm => ?_⟩
      rcases List.mem_append.mp hm with z | z
      · exact hq q z
      · rw [List.mem_singleton.mp z]; exact hqv
    · walk_at "sy"
      have ev : (many : Int) + 1 = ((many + 1 : Nat) : Int) := by omega
      rw [ev]
      refine turn_of [.dat _, .dat _, .dat _, .own 0, .dat _, .unk] ⟨.inl rfl, .inl rfl, .inl rfl, .inl rfl, .inl rfl, .inr rfl, trivial⟩ ⟨by omega, trivial⟩ ⟨qs ++ [many], many + 1, rfl, by rw [posD_snoc] <;> rfl, by rw [List.length_append, hql] <;> rfl, by omega, fun q hm => ?_⟩
      rcases List.mem_append.mp hm with z | z
      · exact hq q z
      · rw [List.mem_singleton.mp z]; omega
  · obtain ⟨qs, many, rfl, rfl, hql, hmany, hq⟩ := hI
    rw [rngD_len] at hql
    walk_at "sy"
    exact q qs hql hq
theorem asc_gap {es : List Nat} (h : es.Pairwise (· < ·)) {i j : Nat} (hij : i ≤ j) (hj : j < es.length) : es.getD i 0 + (j - i) ≤ es.getD j 0 := by
  have h := List.pairwise_iff_getElem.mp h
  have : ∀ d, i + d < es.length → es.getD i 0 + d ≤ es.getD (i + d) 0 := fun d => by
    induction d with
    | zero => intro _; exact Nat.le_refl _
    | succ d ih =>
      intro hd
      have h1 := ih (by omega)
      have h2 := h (i + d) (i + d + 1) (by omega) (by omega) (by omega)
      have e1 : es.getD (i + d) 0 = es[i + d]'(by omega) := by rw [List.getD_eq_getElem?_getD, List.getElem?_eq_getElem (by omega)] <;> rfl
      have e2 : es.getD (i + (d + 1)) 0 = es[i + d + 1]'(by omega) := by rw [List.getD_eq_getElem?_getD, List.getElem?_eq_getElem (by omega)] <;> rfl
      omega
  have := this (j - i) (by omega)
  rwa [show i + (j - i) = j by omega] at this
theorem byN_room {n : Nat} {f : Nat → Option Nat} (h : NxOk n f) : (byN n f).length ≤ n ∧ ∀ k, k < (byN n f).length → (byN n f).getD k 0 + 1 + (byN n f).length ≤ n + k := by
  have hs := byN_sorted h
  have hm := fun i => (byN_mem h (i := i)).mp
  generalize byN n f = L at hs hm ⊢
  -- the right ends
  have hes : (L.map fun i => (f i).getD 0).Pairwise (· < ·) := by
    rw [List.pairwise_map]
    exact hs.imp fun {i j} ⟨a, b, h1, h2, h3⟩ => by rw [h1, h2]; exact h3
  have hel : (L.map fun i => (f i).getD 0).length = L.length := List.length_map _
  have hval : ∀ k, k < L.length → L.getD k 0 < (L.map fun i => (f i).getD 0).getD k 0 ∧ (L.map fun i => (f i).getD 0).getD k 0 < n := fun k hk => by
    have e1 : L.getD k 0 = L[k] := by rw [List.getD_eq_getElem?_getD, List.getElem?_eq_getElem hk] <;> rfl
    have e2 : (L.map fun i => (f i).getD 0).getD k 0 = (f L[k]).getD 0 := by rw [List.getD_eq_getElem?_getD, List.getElem?_map, List.getElem?_eq_getElem hk] <;> rfl
    obtain ⟨e, he⟩ := hm _ (List.getElem_mem hk)
    have := h.1 _ _ he
    rw [e1, e2, he]
    exact this
  generalize (L.map fun i => (f i).getD 0) = es at hes hel hval
  constructor
  · cases hL : L.length with
    | zero => omega
    | succ m =>
      have g := asc_gap hes (i := 0) (j := m) (by omega) (by omega)
      have := (hval m (by omega)).2
      omega
  · intro k hk
    have g := asc_gap hes (i := k) (j := L.length - 1) (by omega) (by omega)
    have h1 := (hval k hk).1
    have h2 := (hval (L.length - 1) (by omega)).2
    omega
def pr__law_alike_shape : Pr := fun as cl Φ => ∃ (n : Nat) (ps : List Nat) (c : Cell), as = [.own 0, .dat (.list (posD ps))] ∧ cl = [c] ∧ Crate n c ∧ n + 100 ≤ 1000000 ∧ ps.length ≤ 61 ∧
  ∀ (qs : List Nat) c', qs.length = ps.length → (∀ q ∈ qs, q < 61) → Crate (n + 100) c' → Φ (.own 1) [c', .lst (posD qs)]
theorem ok__law_alike_shape (T : Txt K mg) : FnOk Pg w K mg base CX0 4 T.f__law_alike_shape T.d__law_alike_shape ["crate", "shape_here"] (spS K pr__law_alike_shape) := by
  refine ok_of _ T.F__law_alike_shape sc__law_alike_shape (fun as cl Φ ⟨_, _, _, h, _⟩ => by rw [h] <;> rfl) (fun cdv A outer s H E hr => ⟨_, (pss_cons (ps_set (i := 2) sc__law_alike_shape.nd rfl (.inl rfl) (pe_call (ok__law_lefts T) (hr.mono (by decide)) (by rfl) T.g__law_lefts T.F__law_lefts.kp T.B__law_lefts .nil pass0 (pa_cons (pe_call (ok__law_shape_nexts T) (hr.mono (by decide)) (by rfl) T.g__law_shape_nexts T.F__law_shape_nexts.kp T.B__law_shape_nexts .nil pass0 (pa_cons (pv 1) pa_nil)) pa_nil))) 
    (pss_cons (ps_set (i := 3) sc__law_alike_shape.nd rfl (.inl rfl) (pe_callB call_len (by rfl) T.z_len (by decide +kernel) (pa_cons (pv 1) pa_nil))) 
    (pss_one (ps_ret (pe_call (ok__law_shape T) (hr.mono (by decide)) (by rfl) T.g__law_shape T.F__law_shape.kp T.B__law_shape .nil pass0 (pa_cons (pv 3) (pa_cons (pv 2) (pa_cons (pe_call (ok__law_other_ends T) (hr.mono (by decide)) (by rfl) T.g__law_other_ends T.F__law_other_ends.kp T.B__law_other_ends .nil pass0 (pa_cons (pv 0) (pa_cons (pv 3) (pa_cons (pv 2) pa_nil)))) pa_nil)))))))), ?_⟩)
  walk_at "sy0"
  try dsimp only [N__law_alike_shape, List.length_cons, List.length_nil, Nat.reduceAdd, Nat.reduceSub, List.replicate, List.cons_append, List.nil_append]
  rintro as cl Φ ⟨n, ps, c, rfl, rfl, hc, hn, hz, q⟩
  have hpl := posD_length (ps := ps)
  have hok := nxk_ok ps
  walk_at "sy"
  refine ⟨_, call_dat rfl ⟨ps, rfl, by omega, rfl⟩ ?_⟩
  walk_at "sy"
  refine ⟨_, call_dat rfl ⟨ps.length, nxk ps, rfl, hz, hok, rfl⟩ (wg_name ?_)⟩
  obtain ⟨r1, r2⟩ := byN_room hok
  generalize byN ps.length (nxk ps) = L at r1 r2 ⊢
  walk_at "syd"
  refine ws_seq (ws_mid (fun sl cl => sl = [.own 0, .dat (.list (posD ps)), .dat (.list (posD L)), .dat (.int (ps.length : Int))] ∧ cl = [c]) ?_ fun sl' cl' hP => ?_)
  · walk_at "sy"
    rw [hpl]
    exact ⟨rfl, rfl⟩
  obtain ⟨rfl, rfl⟩ := hP
  refine ws_ret (wp_callE (wa_cons (wp_var rfl (by intro z; cases z) (wa_cons (wp_var rfl (by intro z; cases z) (wa_cons (wp_frz (wp_callE ?_))))))))
  walk_at "sy"
  refine ⟨[0], by simp, fun j hj => by rw [List.mem_singleton.mp hj]; exact Nat.zero_lt_one, [.own 0, .dat (.int (ps.length : Int)), .dat (.list (posD L))], rfl, ps.length, n, L, c, rfl, rfl, hc, hn, hz, r1, r2, fun rs c' hrl hlt hc' => ⟨Nat.le_add_left 1 1, _, _, rfl, rfl, ?_⟩⟩
  walk_at "sy"
  refine ⟨[], List.nodup_nil, fun k hk => (List.not_mem_nil hk).elim, [.dat (.int (ps.length : Int)), .dat (.list (posD L)), .dat (.list (posD rs))], rfl, ps.length, L, rs, rfl, rfl, hz, hrl, hlt, fun qs hql hqb => ⟨Nat.zero_le _, _, rfl, ?_⟩⟩
  exact q qs c' hql hqb hc'
theorem alike_ok {sl : List SD} {cl : List Cell} {Φ : SD → List Cell → Prop} {k n : Nat} {c : Cell} {ps : List Nat} (hk : cl[k]? = some c) (hc : Crate n c) (hn : n + 100 ≤ 1000000) (hz : ps.length ≤ 61)
    (q : ∀ (qs : List Nat) c', qs.length = ps.length → (∀ q ∈ qs, q < 61) → Crate (n + 100) c' → Φ (.own cl.length) (cl.set k c' ++ [.lst (posD qs)])) : ∃ sel, CallOk pr__law_alike_shape [.own k, .dat (.list (posD ps))] sl cl sel Φ := by
  refine ⟨[k], by simp, fun j hj => ?_, [.own 0, .dat (.list (posD ps))], ?_, n, ps, c, rfl, ?_, hc, hn, hz, fun qs c' hl hp hc' => ⟨by simp, ?_⟩⟩
  · rw [List.mem_singleton.mp hj]; exact (List.getElem?_eq_some_iff.mp hk).1
  · unfold remaps
    have : remap [k] (.own k) = some (.own 0) := by
      show ([k].idxOf? k).map SD.own = _
      rw [show [k].idxOf? k = some 0 by simp [List.idxOf?]] <;> rfl
    rw [this] <;> rfl
  · show [(cl[k]?).getD .dead] = [c]
    rw [hk] <;> rfl
  · exact q qs c' hl hp hc'
end
end Kp
end

section
-- conditions of operations on ints
local macro_rules | `(tactic| walk_at "syc") => `(tactic| first
  | exact Sy.cpow (by decide) (by decide)
  | exact Sy.mul_l (by omega) (by omega)
  | exact Sy.mul_r (by omega) (by omega)
  | exact Sy.fdiv_ok (by omega) (by omega)
  | ((show (0 : Int) < _); first | omega | (simp only [Sy.pow12, Sy.pow18, Sy.pow29, Sy.pow38, Sy.pow39, Sy.pow40]; omega)))
-- one step of the symbolic run
local macro_rules | `(tactic| walk_at "sy1") => `(tactic| first
  | with_reducible refine' Sy.ws_seq ?_
  | (with_reducible refine' Sy.ws_setI ?_)
  | (with_reducible refine' Sy.ws_asg ?_)
  | with_reducible refine' Sy.ws_ret (Sy.wp_lstO ?_)
  | with_reducible refine' Sy.ws_ret ?_
  | with_reducible refine' Sy.ws_if ?_
  | with_reducible refine' Sy.ws_drop ?_
  | with_reducible refine' Sy.ws_next ?_
  | with_reducible refine' Sy.ws_par ?_
  | with_reducible refine' Sy.wp_app ?_
  | with_reducible refine' Sy.ws_setI ?_
  | with_reducible refine' Sy.ws_dput ?_
  | with_reducible refine' Sy.wp_dget1 ?_
  | with_reducible refine' Sy.wp_dnotin ?_
  | ((with_reducible refine' Sy.wp_var ?h1 ?h2 ?_); (case h1 => rfl); (case h2 => (intro z; cases z)))
  | ((with_reducible refine' Sy.wp_c ?h1 ?_); (case h1 => rfl))
  | with_reducible refine' Sy.isi_int ?_
  | with_reducible refine' Sy.isi_bool ?_
  | with_reducible refine' Sy.isi_str ?_
  | with_reducible refine' Sy.isi_list ?_
  | with_reducible refine' Sy.isi_tuple ?_
  | with_reducible refine' Sy.isi_seq ?_
  | with_reducible refine' Sy.wp_op ?_
  | with_reducible refine' Sy.wp_neg ?_
  | with_reducible refine' Sy.wp_test ?_
  | with_reducible refine' Sy.wp_testB ?_
  | with_reducible refine' Sy.wp_and ?_
  | with_reducible refine' Sy.wp_or ?_
  | with_reducible refine' Sy.wp_not ?_
  | with_reducible refine' Sy.wp_if ?_
  | with_reducible refine' Sy.wp_andV ?_
  | with_reducible refine' Sy.wp_orV ?_
  | with_reducible refine' Sy.wp_notV ?_
  | with_reducible refine' Sy.wp_chain ?_
  | with_reducible refine' Sy.wp_cb ?_
  | with_reducible refine' Sy.wp_callE ?_
  | with_reducible refine' Sy.wp_callX0 ?_
  | (with_reducible refine' Sy.wp_ext ?_)
  | with_reducible refine' Sy.wp_tup ?_
  | with_reducible refine' Sy.wp_lst ?_
  | with_reducible refine' Sy.wp_sl ?_
  | with_reducible refine' Sy.wp_rev ?_
  | with_reducible refine' Sy.wp_join ?_
  | with_reducible refine' Sy.wo_none ?_
  | with_reducible refine' Sy.wo_some ?_
  | with_reducible refine' Sy.wa_nil ?_
  | with_reducible refine' Sy.wa_cons ?_
  | with_reducible refine' Sy.wp_yes ?_
  | with_reducible refine' Sy.wg_name ?_
  | with_reducible refine' Sy.wgs_nil ?_
  | with_reducible refine' Sy.wgs_cons ?_
  | (refine' Sy.wg_tup rfl rfl ?_)
  | (refine' Sy.wo_inl (Sy.wo_I0 rfl rfl rfl ?_))
  | (refine' Sy.wo_I0 rfl rfl rfl ?_)
  | (refine' Sy.wo_sign rfl rfl ?_)
  | (refine' Sy.wo_inl (Sy.wo_I rfl rfl ?h1 rfl ?_); (case h1 => walk_at "syc"))
  | (refine' Sy.wo_I rfl rfl ?h1 rfl ?_; (case h1 => walk_at "syc"))
  | (refine' Sy.wo_isN ?h1 rfl ?_; (case h1 => (intro z; cases z)))
  | (refine' Sy.wo_notN ?h1 rfl ?_; (case h1 => (intro z; cases z)))
  | (refine' Sy.wo_eq rfl rfl rfl ?_)
  | (refine' Sy.wo_inl (Sy.wo_eq rfl rfl rfl ?_))
  | (refine' Sy.wo_ne rfl rfl rfl ?_)
  | (refine' Sy.wo_inl (Sy.wo_ne rfl rfl rfl ?_))
  | (refine' Sy.wo_ixL rfl rfl ?h1 ?_; (case h1 => first | rfl | assumption))
  | (refine' Sy.wo_ixT rfl rfl ?h1 ?_; (case h1 => first | rfl | assumption))
  | (refine' Sy.wc_int1 rfl ?_)
  | (refine' Sy.wc_abs rfl ?_)
  | (refine' Sy.wc_max2 rfl rfl ?_)
  | (refine' Sy.wc_min2 rfl rfl ?_)
  | (refine' Sy.wc_len rfl ?_)
  | (refine' Sy.wc_lenS rfl ?h1 ?_; (case h1 => omega))
  | (refine' Sy.wc_list rfl ?_)
  | (refine' Sy.wc_listT rfl ?_)
  | (refine' Sy.wc_tuple rfl ?_)
  | ((with_reducible refine' And.intro ?h1 ?_); (case h1 => first | (with_reducible rfl) | omega | decide | (simp only [List.length_cons, List.length_nil]; omega)))
  | ((with_reducible show @ite Prop (true = true) _ _ _); refine' Sy.iteT0 ?_)
  | ((with_reducible show @ite Prop (false = true) _ _ _); refine' Sy.iteF0 ?_)
  | ((with_reducible show @ite Prop ((!true) = true) _ _ _); refine' Sy.iteNT ?_)
  | ((with_reducible show @ite Prop (@decide _ _ = true) _ _ _); (refine' Sy.iteDT ?h1 ?_); (case h1 => first | omega | rfl | (intro z; cases z)))
  | ((with_reducible show @ite Prop (@decide _ _ = true) _ _ _); (refine' Sy.iteDF ?h1 ?_); (case h1 => first | omega | rfl | (intro z; cases z)))
  | ((with_reducible show @ite Prop ((!@decide _ _) = true) _ _ _); (refine' Sy.iteND ?h1 ?_); (case h1 => first | omega | rfl | (intro z; cases z)))
  | ((with_reducible show @ite Prop ((!@decide _ _) = true) _ _ _); (refine' Sy.iteNDF ?h1 ?_); (case h1 => first | omega | rfl | (intro z; cases z)))
  | ((with_reducible show @ite Prop ((!false) = true) _ _ _); refine' Sy.iteNF ?_)
  | (with_reducible refine' Sy.ws_try ?_)
  | (with_reducible refine' Sy.wsx_drop (Sy.wx_call (Sy.wax_of ?_)))
  | (with_reducible refine' Sy.wsx_asg (Sy.wx_call (Sy.wax_of ?_)))
  | (with_reducible refine' Sy.wsx_ret (Sy.wx_call (Sy.wax_of ?_)))
  | (with_reducible refine' Sy.wsx_of ?_)
  | (refine ⟨_, rfl, ⟨_, rfl⟩, ?_⟩)
  | (refine ⟨_, rfl, ?_⟩)
  | (refine ⟨_, _, rfl, rfl, ?_⟩)
  | (refine ⟨_, _, rfl, ?_⟩)
  | ((refine' Sy.iteNo ?h1 ?_); (case h1 => (intro z; cases z)))
  | ((refine' Sy.iteYes ?h1 ?_); (case h1 => rfl)))
-- many steps
local macro_rules | `(tactic| walk_at "syd") => `(tactic| try dsimp only [List.set, List.length_cons, List.length_nil, Nat.reduceAdd, Sy.isNon, List.cons_append, List.nil_append, List.map, Bool.not_true, Bool.not_false, Sy.Ty.isInt, Sy.Ty.isBool, Sy.Ty.isStr, Sy.Ty.isList, Sy.Ty.isTuple, Sy.Ty.isSeq])
local macro_rules | `(tactic| walk_at "sy") => `(tactic| repeat ((walk_at "sy1"); (walk_at "syd")))
-- the start of a body
local macro_rules | `(tactic| walk_at "sy0") => `(tactic| dsimp only [L2.cxOf, List.length_cons, List.length_nil, Nat.reduceAdd, Nat.reduceSub, List.replicate, List.cons_append, List.nil_append])
-- a turn's end: the slots and the cells are said by the invariant
local macro_rules | `(tactic| walk_at "wkl") => `(tactic| repeat' first | exact trivial | refine ⟨.inl rfl, ?_⟩ | refine ⟨.inr rfl, ?_⟩)
local macro_rules | `(tactic| walk_at "lowl") => `(tactic| repeat' first | exact trivial | refine ⟨by omega, ?_⟩)
local macro_rules | `(tactic| walk_at "turn") => `(tactic| refine Sy.turn_q ⟨rfl, rfl⟩ (by walk_at "wkl") (by walk_at "lowl"))

namespace Kp
open PySem PySem.Spec L2 Sy
section
variable {Pg : Program} {w : World} {K : PySem.W.Frag} {mg : Str → Option Value} {base : Heap}
theorem posD_ints (ps : List Nat) : posD ps = (ps.map fun (p : Nat) => (p : Int)).map PyData.int := by
  unfold posD
  rw [List.map_map] <;> rfl
theorem posD_cutm1 (ps : List Nat) : cutD (posD ps) none (some (-1)) = posD (ps.take (ps.length - 1)) := by
  unfold cutD posD
  rw [HT.sIx_none, List.drop_zero, ← List.map_take, List.length_map]
  congr 1
  show List.take (((-1 : Int) + (ps.length : Int)).toNat - 0) ps = _
  congr 1
  omega
theorem posD_set {ps : List Nat} {j x : Nat} : (posD ps).set j (.int (x : Int)) = posD (ps.set j x) := by
  unfold posD
  rw [List.map_set]
theorem max_pos {sl : List SD} {cl : List Cell} {Φ : SD → List Cell → Prop} {r : SD} {ps : List Nat} (h : seeL cl r = some (posD ps)) (hp : 0 < ps.length) (hb : ∀ p ∈ ps, p < 1000) (q : ∀ m : Nat, m < 1000 → Φ (.dat (.int (m : Int))) cl) : Wc K (rMax K) [r] sl cl Φ := by
  rw [posD_ints] at h
  refine wc_maxL h (by rw [List.length_map]; exact hp) fun m hm _ => ?_
  obtain ⟨p, h1, rfl⟩ := List.mem_map.mp hm
  exact q p (hb p h1)
def pr__law_turned_shape : Pr := fun as cl Φ => ∃ (n : Nat) (ps : List Nat) (c : Cell), as = [.own 0, .dat (.list (posD ps))] ∧ cl = [c] ∧ Crate n c ∧ n + 300 ≤ 1000000 ∧ ps.length ≤ 60 ∧ (∀ p ∈ ps, p < 100) ∧
  ∀ (qs : List Nat) c', qs.length ≤ 61 → (∀ q ∈ qs, q < 100) → Crate (n + 300) c' → Φ (.own 1) [c', .lst (posD qs)]
theorem one_ones (qs : List Nat) : oneD qs = onesD (qs.map fun (q : Nat) => Kx.inl (q : Int)) := by
  unfold oneD onesD
  rw [List.map_map] <;> rfl
theorem oneF_eq (ps : List Nat) : (posD ps).filterMap oneF = oneD ps := by
  unfold posD oneD
  rw [List.filterMap_map, ← List.filterMap_eq_map]
  rfl
theorem ok__law_turned_shape (T : Txt K mg) : FnOk Pg w K mg base CX0 5 T.f__law_turned_shape T.d__law_turned_shape ["crate", "shape_here"] (spS K pr__law_turned_shape) := by
  refine ok_of _ T.F__law_turned_shape sc__law_turned_shape (fun as cl Φ ⟨_, _, _, h, _⟩ => by rw [h] <;> rfl) (fun cdv A outer s H E hr => ⟨_, (pss_cons (ps_asg (pe_tup (pa_cons (pe_call (ok__law_grab T) (hr.mono (by decide)) (by rfl) T.g__law_grab T.F__law_grab.kp T.B__law_grab .nil pass0 (pa_cons (pv 0) (pa_cons pe_int pa_nil))) (pa_cons (pe_callB call_len (by rfl) T.z_len (by decide +kernel) (pa_cons (pv 1) pa_nil)) (pa_cons (pe_callTy call_list_of (by rfl) T.z_list (by decide +kernel) (pa_cons (pv 1) pa_nil)) pa_nil)))) (pg_tup rfl (pgs_cons (pg_name (i := 2) sc__law_turned_shape.nd rfl (.inl rfl)) (pgs_cons (pg_name (i := 3) sc__law_turned_shape.nd rfl (.inr rfl)) (pgs_cons (pg_name (i := 4) sc__law_turned_shape.nd rfl (.inl rfl)) pgs_nil))))) 
    (pss_cons (ps_if (PW.pt (pw_or (pt_cmpR op_lt (pv 2) pe_int (nomark _)) (pw_or1 (pt_cmpR op_eq (pv 3) pe_int (nomark _))))) (pss_one (ps_ret (pe_call (ok__law_alike_shape T) (hr.mono (by decide)) (by rfl) T.g__law_alike_shape T.F__law_alike_shape.kp T.B__law_alike_shape .nil pass0 (pa_cons (pv 0) (pa_cons (pv 1) pa_nil))))) pss_nil) 
    (pss_cons (ps_par (i := 5) (j := 6) rfl sc__law_turned_shape.nd rfl rfl (by decide) rfl rfl (pa_cons (pe_call (ok__law_grab T) (hr.mono (by decide)) (by rfl) T.g__law_grab T.F__law_grab.kp T.B__law_grab .nil pass0 (pa_cons (pv 0) (pa_cons (pv 3) pa_nil))) (pa_cons (pe_call (ok__law_grab T) (hr.mono (by decide)) (by rfl) T.g__law_grab T.F__law_grab.kp T.B__law_grab .nil pass0 (pa_cons (pv 0) (pa_cons (pv 3) pa_nil))) pa_nil)) (by rfl)) 
    (pss_cons (ps_if (pt_cmpR op_eq (pv 2) pe_int (nomark _)) (pss_one (ps_asg (pe_call (ok__law_grab T) (hr.mono (by decide)) (by rfl) T.g__law_grab T.F__law_grab.kp T.B__law_grab .nil pass0 (pa_cons (pv 0) (pa_cons (pe_op (OpR.or op_add (OpR.or op_cat op_add_str)) (pe_callB (cr_max rfl) (by rfl) T.z_max (by decide +kernel) (pa_cons (pv 4) pa_nil)) pe_int) pa_nil))) (pg_sub (pv 4) (pv 5) set_list))) (pss_one (ps_if (pt_cmpR op_eq (pv 2) pe_int (nomark _)) (pss_one (ps_asg (pe_tup (pa_cons (pe_ix ix_seq (pv 1) (pv 6) (fun _ _ => rfl)) (pa_cons (pe_ix ix_seq (pv 1) (pv 5) (fun _ _ => rfl)) pa_nil))) (pg_tup rfl (pgs_cons (pg_sub (pv 4) (pv 5) set_list) (pgs_cons (pg_sub (pv 4) (pv 6) set_list) pgs_nil))))) (pss_one (ps_if (pt_cmpR op_eq (pv 2) pe_int (nomark _)) (pss_one (ps_set (i := 4) sc__law_turned_shape.nd rfl (.inl rfl) (pe_ix ix_seq (pe_lst (pa_cons (pe_op (OpR.or op_add (OpR.or op_cat op_add_str)) (pv 4) (pe_lst (pa_cons (pe_call (ok__law_grab T) (hr.mono (by decide)) (by rfl) T.g__law_grab T.F__law_grab.kp T.B__law_grab .nil pass0 (pa_cons (pv 0) (pa_cons (pe_op (OpR.or op_add (OpR.or op_cat op_add_str)) (pe_callB (cr_max rfl) (by rfl) T.z_max (by decide +kernel) (pa_cons (pv 4) pa_nil)) pe_int) pa_nil))) pa_nil))) (pa_cons (pe_slice (SlR.or sl_list sl_str) (pv 4) po_none (po_some (pe_un un_neg pe_int))) pa_nil))) (pe_call (ok__law_grab T) (hr.mono (by decide)) (by rfl) T.g__law_grab T.F__law_grab.kp T.B__law_grab .nil pass0 (pa_cons (pv 0) (pa_cons pe_int pa_nil))) (fun _ _ => rfl)))) (pss_one (ps_setLc (i := 4) rfl sc__law_turned_shape.nd rfl rfl (sw_true rfl rfl rfl (by decide +kernel)) (own := [("k", 7)]) (pi_range1 rfl T.z_range (pa_cons (pv 3) pa_nil)) (blkOk_by (own := [("k", 7)]) (N := N__law_turned_shape) (sc := (defScope s__law_turned_shape)) (by decide +kernel)) (fun _ _ _ _ _ => (pg_name (i := 7) sc__law_turned_shape.nd rfl (.inl rfl))) (fun _ _ _ _ _ => pts_nil) (fun _ _ _ _ _ => (pe_call (ok__law_grab T) (hr.mono (by decide)) (by rfl) T.g__law_grab T.F__law_grab.kp T.B__law_grab .nil pass0 (pa_cons (pv 0) (pa_cons (pv 3) pa_nil))))))))))) 
    (pss_one (ps_ret (pe_call (ok__law_pattern T) (hr.mono (by decide)) (by rfl) T.g__law_pattern T.F__law_pattern.kp T.B__law_pattern .nil pass0 (pa_cons (pe_lc rfl sc__law_turned_shape.nd (own := [("number_here", 8)]) (pi_list (pv 4)) (blkOk_by (own := [("number_here", 8)]) (N := N__law_turned_shape) (sc := (defScope s__law_turned_shape)) (by decide +kernel)) (fun _ _ _ _ _ => (pg_name (i := 8) sc__law_turned_shape.nd rfl (.inl rfl))) (fun _ _ _ _ _ => pts_nil) (fun _ _ _ _ _ => (pe_tup (pa_cons (pv 8) pa_nil)))) pa_nil)))))))), ?_⟩)
  walk_at "sy0"
  try dsimp only [N__law_turned_shape, List.length_cons, List.length_nil, Nat.reduceAdd, Nat.reduceSub, List.replicate, List.cons_append, List.nil_append]
  rintro as cl Φ ⟨n, ps, c, rfl, rfl, hc, hn, hz, hb, q⟩
  have hpl := posD_length (ps := ps)
  have hb2 : ∀ p ∈ ps, p < 1000 := fun p h => by have := hb p h; omega
  refine ws_seq (ws_par3c rfl ?_)
  walk_at "sy"
  refine grab_ok rfl hc (by omega) (by omega) (by omega) fun way c1 hway hc1 => ?_
  refine wa_cons (wp_cb (wa_cons (wp_var rfl (by intro z; cases z) (wa_nil (wc_len rfl ?_)))))
  refine wa_cons (wp_cb (wa_cons (wp_var rfl (by intro z; cases z) (wa_nil (wc_listO rfl ?_)))))
  refine wa_nil ⟨_, _, _, rfl, wg_name (wg_name (wg_name ?_))⟩
  rw [hpl]
  walk_at "syd"
  have alk : (∀ E : SE, E.rt = (endsF 1 Φ).rt → WpS K (tRet (tCall (spS K pr__law_alike_shape) [] E0 (tCons (tVar 0) (tCons (tVar 1) tNil)))) [.own 0, .dat (.list (posD ps)), .dat (.int (way : Int)), .dat (.int (ps.length : Int)), .own 1, .unk, .unk, .unk, .unk] [c1, .lst (posD ps)] E) := fun E hE => by
    refine ws_ret ?_
    rw [hE]
    walk_at "sy"
    refine alike_ok rfl hc1 (by omega) (by omega) fun qs c2 h1 h2 hc2 => ⟨_, rfl, q _ _ (by omega) (fun p h => by have := h2 p h; omega) (hc2.mono (by omega))⟩
  refine ws_seq (ws_if (wp_or ?_))
  walk_at "sy"
  refine iteD (fun h1 => ?_) (fun h1 => ?_)
  · exact alk _ rfl
  · walk_at "sy"
    refine iteD (fun h2 => ?_) (fun h2 => ?_)
    · exact alk _ rfl
    · have hpos : 0 < ps.length := by omega
      refine ws_next ?_
      refine ws_seq (ws_mid (fun sl cl => ∃ sp ot c, sl = [.own 0, .dat (.list (posD ps)), .dat (.int (way : Int)), .dat (.int (ps.length : Int)), .own 1, .dat (.int ((sp : Nat) : Int)), .dat (.int ((ot : Nat) : Int)), .unk, .unk] ∧ cl = [c, .lst (posD ps)] ∧ sp < ps.length ∧ ot < ps.length ∧ Crate (n + 3) c) ?_ fun sl' cl' hP => ?_)
      · walk_at "sy"
        refine grab_ok rfl hc1 (by omega) (by omega) (by omega) fun sp c2 hsp hc2 => ?_
        walk_at "sy"
        refine grab_ok rfl hc2 (by omega) (by omega) (by omega) fun ot c3 hot hc3 => ?_
        refine wa_nil ⟨_, _, rfl, ?_⟩
        exact ⟨sp, ot, c3, rfl, rfl, by omega, by omega, hc3⟩
      obtain ⟨sp, ot, c3, rfl, rfl, hsp, hot, hc3⟩ := hP
      clear hc hc1 alk
      have hat1 := posD_at hot
      have hat2 := posD_at hsp
      refine ws_seq (ws_mid (fun sl cl => ∃ qs c, qs.length ≤ 61 ∧ Crate (n + 100) c ∧ ((sl = [.own 0, .dat (.list (posD ps)), .dat (.int (way : Int)), .dat (.int (ps.length : Int)), .own 1, .dat (.int (sp : Int)), .dat (.int (ot : Int)), .unk, .unk] ∧ cl = [c, .lst (posD qs)]) ∨ (sl = [.own 0, .dat (.list (posD ps)), .dat (.int (way : Int)), .dat (.int (ps.length : Int)), .dat (.list (posD qs)), .dat (.int (sp : Int)), .dat (.int (ot : Int)), .unk, .unk] ∧ cl = [c, .lst (posD ps)]))) (ws_if ?_) fun sl' cl' hP => ?_)
      · walk_at "sy"
        refine iteD (fun h3 => ?_) (fun h3 => ?_)
        · walk_at "sy"
          refine max_pos rfl hpos hb2 fun m hm => ?_
          walk_at "sy"
          refine grab_ok rfl hc3 (by omega) (by omega) (by omega) fun x c4 hx hc4 => ?_
          walk_at "sy"
          refine ⟨_, 1, _, (sp : Int), sp, rfl, rfl, rfl, rfl, Evl.ixN_nat (by omega), ?_⟩
          rw [posD_set]
          exact ⟨ps.set sp x, c4, by rw [List.length_set]; omega, hc4.mono (by omega), .inl ⟨rfl, rfl⟩⟩
        · refine ws_if ?_
          walk_at "sy"
          refine iteD (fun h4 => ?_) (fun h4 => ?_)
          · refine ws_swap rfl ?_
            walk_at "sy"
            refine ⟨1, _, (sp : Int), sp, rfl, rfl, rfl, Evl.ixN_nat (by omega), ?_⟩
            rw [posD_set]
            walk_at "sy"
            refine ⟨1, _, (ot : Int), ot, rfl, rfl, rfl, Evl.ixN_nat (by rw [posD_length, List.length_set]; omega), ?_⟩
            rw [posD_set]
            exact ⟨(ps.set sp (ps.getD ot 0)).set ot (ps.getD sp 0), c3, by rw [List.length_set, List.length_set]; omega, hc3.mono (by omega), .inl ⟨rfl, rfl⟩⟩
          · refine ws_if ?_
            walk_at "sy"
            refine iteD (fun h5 => ?_) (fun h5 => ?_)
            · walk_at "sy"
              refine max_pos rfl hpos hb2 fun m hm => ?_
              walk_at "sy"
              refine grab_ok rfl hc3 (by omega) (by omega) (by omega) fun x c4 hx hc4 => ?_
              walk_at "sy"
              refine wo_inr (wo_inl (wo_cat rfl rfl (by show (posD ps).length + 1 ≤ _; omega) ?_))
              have e1 : posD ps ++ [PyData.int (x : Int)] = posD (ps ++ [x]) := posD_snoc.symm
              rw [e1]
              walk_at "sy"
              refine wsl_inl (wsl_list rfl ?_)
              rw [posD_cutm1]
              walk_at "sy"
              refine grab_ok rfl hc4 (by omega) (by omega) (by omega) fun y c5 hy hc5 => ?_
              obtain ⟨qs, hql, hat⟩ : ∃ qs : List Nat, qs.length ≤ 61 ∧ atI [PyData.list (posD (ps ++ [x])), .list (posD (ps.take (ps.length - 1)))] (y : Int) = some (.list (posD qs)) := by
                match y, hy with
                | 0, _ => exact ⟨ps ++ [x], by rw [List.length_append]; show ps.length + 1 ≤ _; omega, rfl⟩
                | 1, _ => exact ⟨ps.take (ps.length - 1), by rw [List.length_take]; omega, rfl⟩
                | k + 2, h => omega
              refine wo_ixL rfl rfl hat (wg_name ?_)
              exact ⟨qs, c5, hql, hc5.mono (by omega), .inr ⟨rfl, rfl⟩⟩
            · refine ws_asg (lc_raw (own := false) (wi_rng1 ?_))
              walk_at "sy"
              rw [Int.toNat_natCast]
              refine ⟨by rw [rngD_len]; omega, gk_name (by simp), fun i acc cl' => ∃ c qs, cl' = [c, .lst (posD ps)] ∧ Crate (n + 3 + i) c ∧ acc = posD qs ∧ qs.length = i, ⟨c3, [], rfl, hc3, rfl, rfl⟩, fun i d acc cl' hd hI ha hl => ?_, fun acc cl' hI ha hl => ?_⟩
              · obtain ⟨hi, rfl⟩ := rngD_get hd
                obtain ⟨c4, qs, rfl, hc4, rfl, hql⟩ := hI
                dsimp only [wipeS]
                walk_at "sy"
                refine grab_ok rfl hc4 (by omega) (by omega) (by omega) fun y c5 hy hc5 => ?_
                exact ⟨_, rfl, c5, qs ++ [y], rfl, hc5.mono (by omega), by rw [posD_snoc] <;> rfl, by rw [List.length_append, hql] <;> rfl⟩
              · obtain ⟨c4, qs, rfl, hc4, rfl, hql⟩ := hI
                rw [rngD_len] at hql hc4
                refine wg_name ?_
                exact ⟨qs, c4, by omega, hc4.mono (by omega), .inr ⟨rfl, rfl⟩⟩
      · obtain ⟨qs, c4, hql, hc4, ⟨rfl, rfl⟩ | ⟨rfl, rfl⟩⟩ := hP
        · refine ws_frz 1 rfl ?_
          dsimp only [List.map, frzD, List.set, ↓reduceIte, Nat.zero_ne_one, if_false]
          refine ws_ret (wp_callE (wa_cons (lc_map oneF (wi_list ?_))))
          walk_at "sy"
          refine ⟨by rw [posD_length]; omega, gk_name (by simp), fun i d hd => ?_, ?_⟩
          · obtain ⟨p, _, rfl⟩ := List.mem_map.mp (List.mem_of_getElem? hd)
            dsimp only [wipeS]
            walk_at "sy"
            rfl
          · rw [oneF_eq, one_ones]
            walk_at "sy"
            exact pattern_ok (by rw [List.length_map]; omega) ⟨_, rfl, q _ _ (by rw [patL_len, List.length_map]; exact hql) (fun p h => by have := patL_lt h; rw [List.length_map] at this; omega) (hc4.mono (by omega))⟩
        · refine ws_ret (wp_callE (wa_cons (lc_map oneF (wi_list ?_))))
          walk_at "sy"
          refine ⟨by rw [posD_length]; omega, gk_name (by simp), fun i d hd => ?_, ?_⟩
          · obtain ⟨p, _, rfl⟩ := List.mem_map.mp (List.mem_of_getElem? hd)
            dsimp only [wipeS]
            walk_at "sy"
            rfl
          · rw [oneF_eq, one_ones]
            walk_at "sy"
            exact pattern_ok (by rw [List.length_map]; omega) ⟨_, rfl, q _ _ (by rw [patL_len, List.length_map]; exact hql) (fun p h => by have := patL_lt h; rw [List.length_map] at this; omega) (hc4.mono (by omega))⟩
end
end Kp
end

section
-- conditions of operations on ints
local macro_rules | `(tactic| walk_at "syc") => `(tactic| first
  | exact Sy.cpow (by decide) (by decide)
  | exact Sy.mul_l (by omega) (by omega)
  | exact Sy.mul_r (by omega) (by omega)
  | exact Sy.fdiv_ok (by omega) (by omega)
  | ((show (0 : Int) < _); first | omega | (simp only [Sy.pow12, Sy.pow18, Sy.pow29, Sy.pow38, Sy.pow39, Sy.pow40]; omega)))
-- one step of the symbolic run
local macro_rules | `(tactic| walk_at "sy1") => `(tactic| first
  | with_reducible refine' Sy.ws_seq ?_
  | (with_reducible refine' Sy.ws_setI ?_)
  | (with_reducible refine' Sy.ws_asg ?_)
  | with_reducible refine' Sy.ws_ret (Sy.wp_lstO ?_)
  | with_reducible refine' Sy.ws_ret ?_
  | with_reducible refine' Sy.ws_if ?_
  | with_reducible refine' Sy.ws_drop ?_
  | with_reducible refine' Sy.ws_next ?_
  | with_reducible refine' Sy.ws_par ?_
  | with_reducible refine' Sy.wp_app ?_
  | with_reducible refine' Sy.ws_setI ?_
  | with_reducible refine' Sy.ws_dput ?_
  | with_reducible refine' Sy.wp_dget1 ?_
  | with_reducible refine' Sy.wp_dnotin ?_
  | ((with_reducible refine' Sy.wp_var ?h1 ?h2 ?_); (case h1 => rfl); (case h2 => (intro z; cases z)))
  | ((with_reducible refine' Sy.wp_c ?h1 ?_); (case h1 => rfl))
  | with_reducible refine' Sy.isi_int ?_
  | with_reducible refine' Sy.isi_bool ?_
  | with_reducible refine' Sy.isi_str ?_
  | with_reducible refine' Sy.isi_list ?_
  | with_reducible refine' Sy.isi_tuple ?_
  | with_reducible refine' Sy.isi_seq ?_
  | with_reducible refine' Sy.wp_op ?_
  | with_reducible refine' Sy.wp_neg ?_
  | with_reducible refine' Sy.wp_test ?_
  | with_reducible refine' Sy.wp_testB ?_
  | with_reducible refine' Sy.wp_and ?_
  | with_reducible refine' Sy.wp_or ?_
  | with_reducible refine' Sy.wp_not ?_
  | with_reducible refine' Sy.wp_if ?_
  | with_reducible refine' Sy.wp_andV ?_
  | with_reducible refine' Sy.wp_orV ?_
  | with_reducible refine' Sy.wp_notV ?_
  | with_reducible refine' Sy.wp_chain ?_
  | with_reducible refine' Sy.wp_cb ?_
  | with_reducible refine' Sy.wp_callE ?_
  | with_reducible refine' Sy.wp_callX0 ?_
  | (with_reducible refine' Sy.wp_ext ?_)
  | with_reducible refine' Sy.wp_tup ?_
  | with_reducible refine' Sy.wp_lst ?_
  | with_reducible refine' Sy.wp_sl ?_
  | with_reducible refine' Sy.wp_rev ?_
  | with_reducible refine' Sy.wp_join ?_
  | with_reducible refine' Sy.wo_none ?_
  | with_reducible refine' Sy.wo_some ?_
  | with_reducible refine' Sy.wa_nil ?_
  | with_reducible refine' Sy.wa_cons ?_
  | with_reducible refine' Sy.wp_yes ?_
  | with_reducible refine' Sy.wg_name ?_
  | with_reducible refine' Sy.wgs_nil ?_
  | with_reducible refine' Sy.wgs_cons ?_
  | (refine' Sy.wg_tup rfl rfl ?_)
  | (refine' Sy.wo_inl (Sy.wo_I0 rfl rfl rfl ?_))
  | (refine' Sy.wo_I0 rfl rfl rfl ?_)
  | (refine' Sy.wo_sign rfl rfl ?_)
  | (refine' Sy.wo_inl (Sy.wo_I rfl rfl ?h1 rfl ?_); (case h1 => walk_at "syc"))
  | (refine' Sy.wo_I rfl rfl ?h1 rfl ?_; (case h1 => walk_at "syc"))
  | (refine' Sy.wo_isN ?h1 rfl ?_; (case h1 => (intro z; cases z)))
  | (refine' Sy.wo_notN ?h1 rfl ?_; (case h1 => (intro z; cases z)))
  | (refine' Sy.wo_eq rfl rfl rfl ?_)
  | (refine' Sy.wo_inl (Sy.wo_eq rfl rfl rfl ?_))
  | (refine' Sy.wo_ne rfl rfl rfl ?_)
  | (refine' Sy.wo_inl (Sy.wo_ne rfl rfl rfl ?_))
  | (refine' Sy.wo_ixL rfl rfl ?h1 ?_; (case h1 => first | rfl | assumption))
  | (refine' Sy.wo_ixT rfl rfl ?h1 ?_; (case h1 => first | rfl | assumption))
  | (refine' Sy.wc_int1 rfl ?_)
  | (refine' Sy.wc_abs rfl ?_)
  | (refine' Sy.wc_max2 rfl rfl ?_)
  | (refine' Sy.wc_min2 rfl rfl ?_)
  | (refine' Sy.wc_len rfl ?_)
  | (refine' Sy.wc_lenS rfl ?h1 ?_; (case h1 => omega))
  | (refine' Sy.wc_list rfl ?_)
  | (refine' Sy.wc_listT rfl ?_)
  | (refine' Sy.wc_tuple rfl ?_)
  | ((with_reducible refine' And.intro ?h1 ?_); (case h1 => first | (with_reducible rfl) | omega | decide | (simp only [List.length_cons, List.length_nil]; omega)))
  | ((with_reducible show @ite Prop (true = true) _ _ _); refine' Sy.iteT0 ?_)
  | ((with_reducible show @ite Prop (false = true) _ _ _); refine' Sy.iteF0 ?_)
  | ((with_reducible show @ite Prop ((!true) = true) _ _ _); refine' Sy.iteNT ?_)
  | ((with_reducible show @ite Prop (@decide _ _ = true) _ _ _); (refine' Sy.iteDT ?h1 ?_); (case h1 => first | omega | rfl | (intro z; cases z)))
  | ((with_reducible show @ite Prop (@decide _ _ = true) _ _ _); (refine' Sy.iteDF ?h1 ?_); (case h1 => first | omega | rfl | (intro z; cases z)))
  | ((with_reducible show @ite Prop ((!@decide _ _) = true) _ _ _); (refine' Sy.iteND ?h1 ?_); (case h1 => first | omega | rfl | (intro z; cases z)))
  | ((with_reducible show @ite Prop ((!@decide _ _) = true) _ _ _); (refine' Sy.iteNDF ?h1 ?_); (case h1 => first | omega | rfl | (intro z; cases z)))
  | ((with_reducible show @ite Prop ((!false) = true) _ _ _); refine' Sy.iteNF ?_)
  | (with_reducible refine' Sy.ws_try ?_)
  | (with_reducible refine' Sy.wsx_drop (Sy.wx_call (Sy.wax_of ?_)))
  | (with_reducible refine' Sy.wsx_asg (Sy.wx_call (Sy.wax_of ?_)))
  | (with_reducible refine' Sy.wsx_ret (Sy.wx_call (Sy.wax_of ?_)))
  | (with_reducible refine' Sy.wsx_of ?_)
  | (refine ⟨_, rfl, ⟨_, rfl⟩, ?_⟩)
  | (refine ⟨_, rfl, ?_⟩)
  | (refine ⟨_, _, rfl, rfl, ?_⟩)
  | (refine ⟨_, _, rfl, ?_⟩)
  | ((refine' Sy.iteNo ?h1 ?_); (case h1 => (intro z; cases z)))
  | ((refine' Sy.iteYes ?h1 ?_); (case h1 => rfl)))
-- many steps
local macro_rules | `(tactic| walk_at "syd") => `(tactic| try dsimp only [List.set, List.length_cons, List.length_nil, Nat.reduceAdd, Sy.isNon, List.cons_append, List.nil_append, List.map, Bool.not_true, Bool.not_false, Sy.Ty.isInt, Sy.Ty.isBool, Sy.Ty.isStr, Sy.Ty.isList, Sy.Ty.isTuple, Sy.Ty.isSeq])
local macro_rules | `(tactic| walk_at "sy") => `(tactic| repeat ((walk_at "sy1"); (walk_at "syd")))
-- the start of a body
local macro_rules | `(tactic| walk_at "sy0") => `(tactic| dsimp only [L2.cxOf, List.length_cons, List.length_nil, Nat.reduceAdd, Nat.reduceSub, List.replicate, List.cons_append, List.nil_append])
-- a turn's end: the slots and the cells are said by the invariant
local macro_rules | `(tactic| walk_at "wkl") => `(tactic| repeat' first | exact trivial | refine ⟨.inl rfl, ?_⟩ | refine ⟨.inr rfl, ?_⟩)
local macro_rules | `(tactic| walk_at "lowl") => `(tactic| repeat' first | exact trivial | refine ⟨by omega, ?_⟩)
local macro_rules | `(tactic| walk_at "turn") => `(tactic| refine Sy.turn_q ⟨rfl, rfl⟩ (by walk_at "wkl") (by walk_at "lowl"))

namespace Kp
open PySem PySem.Spec L2 Sy
section
variable {Pg : Program} {w : World} {K : PySem.W.Frag} {mg : Str → Option Value} {base : Heap}
def sumR (g : Nat → Nat) (lo n : Nat) : Nat := ((List.range (n - lo)).map fun t => g (lo + t)).sum
def behF (n : Nat) : List Nat → Nat → Nat
  | [], _ => 1
  | i :: t, low => sumR (fun e => if i < e then behF n t (e + 1) else 0) low n
def wayF (n i : Nat) (t : List Nat) (e : Nat) : Nat := if i < e then behF n t (e + 1) else 0
theorem behF_cons {n i low : Nat} {t : List Nat} : behF n (i :: t) low = sumR (wayF n i t) low n := rfl
theorem sumR_empty {g : Nat → Nat} {lo n : Nat} (h : n ≤ lo) : sumR g lo n = 0 := by
  unfold sumR
  rw [Nat.sub_eq_zero_of_le h] <;> rfl
theorem sumR_step {g : Nat → Nat} {lo n : Nat} (h : lo < n) : sumR g lo n = g lo + sumR g (lo + 1) n := by
  unfold sumR
  have e : n - lo = (n - (lo + 1)) + 1 := by omega
  rw [e, List.range_succ_eq_map, List.map_cons, List.sum_cons, List.map_map]
  congr 2
  refine List.map_congr_left fun t _ => ?_
  show g (lo + (t + 1)) = g (lo + 1 + t)
  congr 1
  omega
theorem sumR_split {g : Nat → Nat} {n : Nat} : ∀ (k lo : Nat), lo + k ≤ n → sumR g lo n = sumR g lo (lo + k) + sumR g (lo + k) n := by
  intro k
  induction k with
  | zero => intro lo _; rw [Nat.add_zero, sumR_empty (Nat.le_refl lo), Nat.zero_add]
  | succ k ih =>
    intro lo h
    rw [sumR_step (show lo < n by omega), sumR_step (show lo < lo + (k + 1) by omega), ih (lo + 1) (by omega), show lo + 1 + k = lo + (k + 1) by omega]
    omega
theorem sumR_zero {g : Nat → Nat} {lo n : Nat} (h : ∀ e, lo ≤ e → e < n → g e = 0) : sumR g lo n = 0 := by
  unfold sumR
  have : ((List.range (n - lo)).map fun t => g (lo + t)) = (List.range (n - lo)).map fun _ => 0 := List.map_congr_left fun t ht => h _ (Nat.le_add_right _ _) (by have := List.mem_range.mp ht; omega)
  rw [this]
  generalize n - lo = k
  induction k with
  | zero => rfl
  | succ k ih => rw [List.range_succ_eq_map, List.map_cons, List.sum_cons, List.map_map, Nat.zero_add]; exact ih
/-- the rank of the ends es -/
def rkF (n : Nat) : List Nat → List Nat → Nat → Int
  | i :: t, e :: es, low => (behF n (i :: t) low : Int) - (behF n (i :: t) e : Int) + rkF n t es (e + 1)
  | _, _, _ => 0
theorem rkF_snoc {n : Nat} : ∀ (l es : List Nat) (low e : Nat), es.length < l.length → rkF n l (es ++ [e]) low = rkF n l es low + (behF n (l.drop es.length) (match es.getLast? with | some x => x + 1 | none => low) : Int) - (behF n (l.drop es.length) e : Int)
  | [], es, low, e, h => absurd h (Nat.not_lt_zero _)
  | i :: t, [], low, e, h => by
    show (behF n (i :: t) low : Int) - (behF n (i :: t) e : Int) + rkF n t [] (e + 1) = 0 + (behF n (i :: t) low : Int) - (behF n (i :: t) e : Int)
    have : rkF n t [] (e + 1) = 0 := by cases t <;> rfl
    rw [this]
    omega
  | i :: t, x :: es, low, e, h => by
    have ih := rkF_snoc (n := n) t es (x + 1) e (by simpa using h)
    show (behF n (i :: t) low : Int) - (behF n (i :: t) x : Int) + rkF n t (es ++ [e]) (x + 1) = (behF n (i :: t) low : Int) - (behF n (i :: t) x : Int) + rkF n t es (x + 1) + (behF n (t.drop es.length) _ : Int) - (behF n (t.drop es.length) e : Int)
    rw [ih]
    have eL : ((x :: es).getLast?) = some ((es.getLast?).getD x) := by
      cases es with
      | nil => rfl
      | cons y es => rw [List.getLast?_cons_cons, List.getLast?_eq_some_getLast (List.cons_ne_nil y es)] <;> rfl
    rw [eL]
    cases hl : es.getLast? with
    | none => dsimp only [Option.getD]; omega
    | some z => dsimp only [Option.getD]; omega
end
end Kp
end

section
-- conditions of operations on ints
local macro_rules | `(tactic| walk_at "syc") => `(tactic| first
  | exact Sy.cpow (by decide) (by decide)
  | exact Sy.mul_l (by omega) (by omega)
  | exact Sy.mul_r (by omega) (by omega)
  | exact Sy.fdiv_ok (by omega) (by omega)
  | ((show (0 : Int) < _); first | omega | (simp only [Sy.pow12, Sy.pow18, Sy.pow29, Sy.pow38, Sy.pow39, Sy.pow40]; omega)))
-- one step of the symbolic run
local macro_rules | `(tactic| walk_at "sy1") => `(tactic| first
  | with_reducible refine' Sy.ws_seq ?_
  | (with_reducible refine' Sy.ws_setI ?_)
  | (with_reducible refine' Sy.ws_asg ?_)
  | with_reducible refine' Sy.ws_ret (Sy.wp_lstO ?_)
  | with_reducible refine' Sy.ws_ret ?_
  | with_reducible refine' Sy.ws_if ?_
  | with_reducible refine' Sy.ws_drop ?_
  | with_reducible refine' Sy.ws_next ?_
  | with_reducible refine' Sy.ws_par ?_
  | with_reducible refine' Sy.wp_app ?_
  | with_reducible refine' Sy.ws_setI ?_
  | with_reducible refine' Sy.ws_dput ?_
  | with_reducible refine' Sy.wp_dget1 ?_
  | with_reducible refine' Sy.wp_dnotin ?_
  | ((with_reducible refine' Sy.wp_var ?h1 ?h2 ?_); (case h1 => rfl); (case h2 => (intro z; cases z)))
  | ((with_reducible refine' Sy.wp_c ?h1 ?_); (case h1 => rfl))
  | with_reducible refine' Sy.isi_int ?_
  | with_reducible refine' Sy.isi_bool ?_
  | with_reducible refine' Sy.isi_str ?_
  | with_reducible refine' Sy.isi_list ?_
  | with_reducible refine' Sy.isi_tuple ?_
  | with_reducible refine' Sy.isi_seq ?_
  | with_reducible refine' Sy.wp_op ?_
  | with_reducible refine' Sy.wp_neg ?_
  | with_reducible refine' Sy.wp_test ?_
  | with_reducible refine' Sy.wp_testB ?_
  | with_reducible refine' Sy.wp_and ?_
  | with_reducible refine' Sy.wp_or ?_
  | with_reducible refine' Sy.wp_not ?_
  | with_reducible refine' Sy.wp_if ?_
  | with_reducible refine' Sy.wp_andV ?_
  | with_reducible refine' Sy.wp_orV ?_
  | with_reducible refine' Sy.wp_notV ?_
  | with_reducible refine' Sy.wp_chain ?_
  | with_reducible refine' Sy.wp_cb ?_
  | with_reducible refine' Sy.wp_callE ?_
  | with_reducible refine' Sy.wp_callX0 ?_
  | (with_reducible refine' Sy.wp_ext ?_)
  | with_reducible refine' Sy.wp_tup ?_
  | with_reducible refine' Sy.wp_lst ?_
  | with_reducible refine' Sy.wp_sl ?_
  | with_reducible refine' Sy.wp_rev ?_
  | with_reducible refine' Sy.wp_join ?_
  | with_reducible refine' Sy.wo_none ?_
  | with_reducible refine' Sy.wo_some ?_
  | with_reducible refine' Sy.wa_nil ?_
  | with_reducible refine' Sy.wa_cons ?_
  | with_reducible refine' Sy.wp_yes ?_
  | with_reducible refine' Sy.wg_name ?_
  | with_reducible refine' Sy.wgs_nil ?_
  | with_reducible refine' Sy.wgs_cons ?_
  | (refine' Sy.wg_tup rfl rfl ?_)
  | (refine' Sy.wo_inl (Sy.wo_I0 rfl rfl rfl ?_))
  | (refine' Sy.wo_I0 rfl rfl rfl ?_)
  | (refine' Sy.wo_sign rfl rfl ?_)
  | (refine' Sy.wo_inl (Sy.wo_I rfl rfl ?h1 rfl ?_); (case h1 => walk_at "syc"))
  | (refine' Sy.wo_I rfl rfl ?h1 rfl ?_; (case h1 => walk_at "syc"))
  | (refine' Sy.wo_isN ?h1 rfl ?_; (case h1 => (intro z; cases z)))
  | (refine' Sy.wo_notN ?h1 rfl ?_; (case h1 => (intro z; cases z)))
  | (refine' Sy.wo_eq rfl rfl rfl ?_)
  | (refine' Sy.wo_inl (Sy.wo_eq rfl rfl rfl ?_))
  | (refine' Sy.wo_ne rfl rfl rfl ?_)
  | (refine' Sy.wo_inl (Sy.wo_ne rfl rfl rfl ?_))
  | (refine' Sy.wo_ixL rfl rfl ?h1 ?_; (case h1 => first | rfl | assumption))
  | (refine' Sy.wo_ixT rfl rfl ?h1 ?_; (case h1 => first | rfl | assumption))
  | (refine' Sy.wc_int1 rfl ?_)
  | (refine' Sy.wc_abs rfl ?_)
  | (refine' Sy.wc_max2 rfl rfl ?_)
  | (refine' Sy.wc_min2 rfl rfl ?_)
  | (refine' Sy.wc_len rfl ?_)
  | (refine' Sy.wc_lenS rfl ?h1 ?_; (case h1 => omega))
  | (refine' Sy.wc_list rfl ?_)
  | (refine' Sy.wc_listT rfl ?_)
  | (refine' Sy.wc_tuple rfl ?_)
  | ((with_reducible refine' And.intro ?h1 ?_); (case h1 => first | (with_reducible rfl) | omega | decide | (simp only [List.length_cons, List.length_nil]; omega)))
  | ((with_reducible show @ite Prop (true = true) _ _ _); refine' Sy.iteT0 ?_)
  | ((with_reducible show @ite Prop (false = true) _ _ _); refine' Sy.iteF0 ?_)
  | ((with_reducible show @ite Prop ((!true) = true) _ _ _); refine' Sy.iteNT ?_)
  | ((with_reducible show @ite Prop (@decide _ _ = true) _ _ _); (refine' Sy.iteDT ?h1 ?_); (case h1 => first | omega | rfl | (intro z; cases z)))
  | ((with_reducible show @ite Prop (@decide _ _ = true) _ _ _); (refine' Sy.iteDF ?h1 ?_); (case h1 => first | omega | rfl | (intro z; cases z)))
  | ((with_reducible show @ite Prop ((!@decide _ _) = true) _ _ _); (refine' Sy.iteND ?h1 ?_); (case h1 => first | omega | rfl | (intro z; cases z)))
  | ((with_reducible show @ite Prop ((!@decide _ _) = true) _ _ _); (refine' Sy.iteNDF ?h1 ?_); (case h1 => first | omega | rfl | (intro z; cases z)))
  | ((with_reducible show @ite Prop ((!false) = true) _ _ _); refine' Sy.iteNF ?_)
  | (with_reducible refine' Sy.ws_try ?_)
  | (with_reducible refine' Sy.wsx_drop (Sy.wx_call (Sy.wax_of ?_)))
  | (with_reducible refine' Sy.wsx_asg (Sy.wx_call (Sy.wax_of ?_)))
  | (with_reducible refine' Sy.wsx_ret (Sy.wx_call (Sy.wax_of ?_)))
  | (with_reducible refine' Sy.wsx_of ?_)
  | (refine ⟨_, rfl, ⟨_, rfl⟩, ?_⟩)
  | (refine ⟨_, rfl, ?_⟩)
  | (refine ⟨_, _, rfl, rfl, ?_⟩)
  | (refine ⟨_, _, rfl, ?_⟩)
  | ((refine' Sy.iteNo ?h1 ?_); (case h1 => (intro z; cases z)))
  | ((refine' Sy.iteYes ?h1 ?_); (case h1 => rfl)))
-- many steps
local macro_rules | `(tactic| walk_at "syd") => `(tactic| try dsimp only [List.set, List.length_cons, List.length_nil, Nat.reduceAdd, Sy.isNon, List.cons_append, List.nil_append, List.map, Bool.not_true, Bool.not_false, Sy.Ty.isInt, Sy.Ty.isBool, Sy.Ty.isStr, Sy.Ty.isList, Sy.Ty.isTuple, Sy.Ty.isSeq])
local macro_rules | `(tactic| walk_at "sy") => `(tactic| repeat ((walk_at "sy1"); (walk_at "syd")))
-- the start of a body
local macro_rules | `(tactic| walk_at "sy0") => `(tactic| dsimp only [L2.cxOf, List.length_cons, List.length_nil, Nat.reduceAdd, Nat.reduceSub, List.replicate, List.cons_append, List.nil_append])
-- a turn's end: the slots and the cells are said by the invariant
local macro_rules | `(tactic| walk_at "wkl") => `(tactic| repeat' first | exact trivial | refine ⟨.inl rfl, ?_⟩ | refine ⟨.inr rfl, ?_⟩)
local macro_rules | `(tactic| walk_at "lowl") => `(tactic| repeat' first | exact trivial | refine ⟨by omega, ?_⟩)
local macro_rules | `(tactic| walk_at "turn") => `(tactic| refine Sy.turn_q ⟨rfl, rfl⟩ (by walk_at "wkl") (by walk_at "lowl"))

namespace Kp
open PySem PySem.Spec L2 Sy
section
variable {Pg : Program} {w : World} {K : PySem.W.Frag} {mg : Str → Option Value} {base : Heap}
theorem posD_get {ps : List Nat} {i : Nat} {d : PyData} (h : (posD ps)[i]? = some d) : ∃ hi : i < ps.length, d = .int (ps[i] : Int) := by
  have hi : i < ps.length := by
    have := (List.getElem?_eq_some_iff.mp h).1
    unfold posD at this
    rw [List.length_map] at this
    exact this
  refine ⟨hi, ?_⟩
  unfold posD at h
  rw [List.getElem?_map, List.getElem?_eq_getElem hi] at h
  exact (Option.some.inj h).symm
abbrev ShI : Type := Nat × List Nat × Nat
def rngP (first k : Nat) : List PyData := (List.range k).map fun (t : Nat) => .int ((first + t : Nat) : Int)
theorem rngP_at {first k t : Nat} (h : t < k) : atI (rngP first k) (t : Int) = some (.int ((first + t : Nat) : Int)) := atI_nat (by unfold rngP; rw [List.getElem?_map, List.getElem?_range h] <;> rfl)
theorem take_sum {ws : List Nat} {i : Nat} (h : i < ws.length) : (ws.take (i + 1)).sum = (ws.take i).sum + ws.getD i 0 := by
  rw [List.take_succ_eq_append_getElem h, List.sum_append, List.getD_eq_getElem?_getD, List.getElem?_eq_getElem h]
  simp
def sufL (ws : List Nat) : List Nat := (List.range (ws.length + 1)).map fun k => (ws.drop k).sum
theorem suf_rev (ws : List Nat) : ∀ i, i ≤ ws.length → ((List.range (i + 1)).map fun t => (ws.reverse.take t).sum).reverse = (List.range (i + 1)).map fun k => (ws.reverse.take (i - k)).sum := by
  intro i _
  refine List.ext_getElem (by simp) fun k h1 h2 => ?_
  rw [List.getElem_reverse]
  simp only [List.length_map, List.length_range, List.getElem_map, List.getElem_range]
  congr 2
def pr_sums_from : Pr := prX (ι := List Nat) (fun ws => [.list (posD ws)]) (fun ws => ws.length ≤ 1000) fun ws d => d = .list (posD (sufL ws))
theorem ok_sums_from (T : Txt K mg) : FnOk Pg w K mg base CX0 1 T.f_sums_from T.d_sums_from ["row"] (spS K pr_sums_from) := by
  refine ok_of _ T.F_sums_from sc_sums_from (hlenX fun _ => rfl) (fun cdv A outer s H E hr => ⟨_, (pss_cons (ps_set (i := 1) sc_sums_from.nd rfl (.inl rfl) (pe_lst (pa_cons pe_int pa_nil))) 
    (pss_cons (ps_for PassesOwn.never rfl (pi_reversed rfl T.z_reversed (pa_cons (pv 0) pa_nil)) (pg_name (i := 2) sc_sums_from.nd rfl (.inl rfl))
    (pss_one (ps_expr (pe_bm PySem.F.plainAttrs_list PySem.F.slot_list_append PySem.F.type_list_append mt_append (pv 1) (pa_cons (pe_op (OpR.or op_add (OpR.or op_cat op_add_str)) (pe_ix ix_seq (pv 1) (pe_un un_neg pe_int) (fun _ _ => rfl)) (pv 2)) pa_nil))))) 
    (pss_one (ps_ret (pe_revL (pv 1)))))), ?_⟩)
  walk_at "sy0"
  try dsimp only [N_sums_from, List.length_cons, List.length_nil, Nat.reduceAdd, Nat.reduceSub, List.replicate, List.cons_append, List.nil_append]
  rintro as cl Φ ⟨ws, rfl, rfl, hz, q⟩
  have q := q _ rfl
  have hwl : (posD ws).length = ws.length := List.length_map _
  dsimp only [List.map]
  refine ws_seq (ws_asg (wp_lstO ?_))
  walk_at "sy"
  refine ws_for (wi_revL ?_)
  walk_at "sy"
  refine ⟨fun (i : Nat) (sl : List SD) (cl : List Cell) => sl = [.dat (.list (posD ws)), .own 0, .unk] ∧ cl = [.lst (posD ((List.range (i + 1)).map fun t => (ws.reverse.take t).sum))], ⟨rfl, rfl⟩, fun i d sl' cl' hd hI hc => ?_, fun sl' cl' hI hc => ?_⟩
  · obtain ⟨rfl, rfl⟩ := hI
    have er : (posD ws).reverse = posD ws.reverse := by unfold posD; rw [List.map_reverse]
    rw [er] at hd
    obtain ⟨hi, rfl⟩ := posD_get hd
    have hi' : i < ws.length := by rwa [List.length_reverse] at hi
    have hlast : atI (posD ((List.range (i + 1)).map fun t => (ws.reverse.take t).sum)) (-1) = some (.int (((ws.reverse.take i).sum : Nat) : Int)) := by
      unfold atI posD
      rw [List.length_map, List.length_map, List.length_range, ixN_m1 (Nat.succ_pos i)]
      show (List.map _ (List.map _ (List.range (i + 1))))[i + 1 - 1]? = _
      rw [Nat.add_sub_cancel, List.getElem?_map, List.getElem?_map, List.getElem?_range (Nat.lt_succ_self i)] <;> rfl
    have hll : (posD ((List.range (i + 1)).map fun t => (ws.reverse.take t).sum)).length = i + 1 := by unfold posD; rw [List.length_map, List.length_map, List.length_range]
    have ts : (ws.reverse.take (i + 1)).sum = (ws.reverse.take i).sum + ws.reverse[i] := by
      rw [List.take_succ_eq_append_getElem hi, List.sum_append]
      simp
    generalize ws.reverse[i] = v at ts hd
    walk_at "sy"
    refine Sy.turn_q ⟨rfl, ?_⟩ (by walk_at "wkl") (by walk_at "lowl")
    show [Cell.lst (posD ((List.range (i + 1)).map fun t => (ws.reverse.take t).sum) ++ [PyData.int (((ws.reverse.take i).sum : Int) + (v : Int))])] = _
    rw [List.range_succ (n := i + 1), List.map_append]
    unfold posD
    rw [List.map_append]
    show _ = [Cell.lst (_ ++ [PyData.int (((ws.reverse.take (i + 1)).sum : Nat) : Int)])]
    rw [ts, Int.natCast_add] <;> rfl
  · obtain ⟨rfl, rfl⟩ := hI
    have er : (posD ((List.range ((posD ws).reverse.length + 1)).map fun t => (ws.reverse.take t).sum)).reverse = posD (sufL ws) := by
      unfold posD
      rw [← List.map_reverse, List.length_reverse, List.length_map, suf_rev ws ws.length (Nat.le_refl _)]
      unfold sufL
      congr 1
      refine List.map_congr_left fun k hk => ?_
      have hk := List.mem_range.mp hk
      rw [List.take_reverse, List.sum_reverse]
      congr 2
      omega
    walk_at "sy"
    rw [er]
    walk_at "sy"
    exact q
def waysL (n : Nat) : List Nat → List (List Nat)
  | [] => []
  | i :: t => (List.range n).map (wayF n i t) :: waysL n t
theorem waysL_len {n : Nat} : ∀ l : List Nat, (waysL n l).length = l.length
  | [] => rfl
  | i :: t => congrArg (· + 1) (waysL_len t)
def behL (n : Nat) (l : List Nat) : List Nat := (List.range (n + 1)).map (behF n l)
theorem suf_ways {n i : Nat} {t : List Nat} : sufL ((List.range n).map (wayF n i t)) = behL n (i :: t) := by
  unfold sufL behL
  rw [List.length_map, List.length_range]
  refine List.map_congr_left fun k hk => ?_
  have hk := List.mem_range.mp hk
  rw [behF_cons]
  unfold sumR
  congr 1
  refine List.ext_getElem (by simp) fun j h1 h2 => ?_
  simp
end
end Kp
end

section
-- conditions of operations on ints
local macro_rules | `(tactic| walk_at "syc") => `(tactic| first
  | exact Sy.cpow (by decide) (by decide)
  | exact Sy.mul_l (by omega) (by omega)
  | exact Sy.mul_r (by omega) (by omega)
  | exact Sy.fdiv_ok (by omega) (by omega)
  | ((show (0 : Int) < _); first | omega | (simp only [Sy.pow12, Sy.pow18, Sy.pow29, Sy.pow38, Sy.pow39, Sy.pow40]; omega)))
-- one step of the symbolic run
local macro_rules | `(tactic| walk_at "sy1") => `(tactic| first
  | with_reducible refine' Sy.ws_seq ?_
  | (with_reducible refine' Sy.ws_setI ?_)
  | (with_reducible refine' Sy.ws_asg ?_)
  | with_reducible refine' Sy.ws_ret (Sy.wp_lstO ?_)
  | with_reducible refine' Sy.ws_ret ?_
  | with_reducible refine' Sy.ws_if ?_
  | with_reducible refine' Sy.ws_drop ?_
  | with_reducible refine' Sy.ws_next ?_
  | with_reducible refine' Sy.ws_par ?_
  | with_reducible refine' Sy.wp_app ?_
  | with_reducible refine' Sy.ws_setI ?_
  | with_reducible refine' Sy.ws_dput ?_
  | with_reducible refine' Sy.wp_dget1 ?_
  | with_reducible refine' Sy.wp_dnotin ?_
  | ((with_reducible refine' Sy.wp_var ?h1 ?h2 ?_); (case h1 => rfl); (case h2 => (intro z; cases z)))
  | ((with_reducible refine' Sy.wp_c ?h1 ?_); (case h1 => rfl))
  | with_reducible refine' Sy.isi_int ?_
  | with_reducible refine' Sy.isi_bool ?_
  | with_reducible refine' Sy.isi_str ?_
  | with_reducible refine' Sy.isi_list ?_
  | with_reducible refine' Sy.isi_tuple ?_
  | with_reducible refine' Sy.isi_seq ?_
  | with_reducible refine' Sy.wp_op ?_
  | with_reducible refine' Sy.wp_neg ?_
  | with_reducible refine' Sy.wp_test ?_
  | with_reducible refine' Sy.wp_testB ?_
  | with_reducible refine' Sy.wp_and ?_
  | with_reducible refine' Sy.wp_or ?_
  | with_reducible refine' Sy.wp_not ?_
  | with_reducible refine' Sy.wp_if ?_
  | with_reducible refine' Sy.wp_andV ?_
  | with_reducible refine' Sy.wp_orV ?_
  | with_reducible refine' Sy.wp_notV ?_
  | with_reducible refine' Sy.wp_chain ?_
  | with_reducible refine' Sy.wp_cb ?_
  | with_reducible refine' Sy.wp_callE ?_
  | with_reducible refine' Sy.wp_callX0 ?_
  | (with_reducible refine' Sy.wp_ext ?_)
  | with_reducible refine' Sy.wp_tup ?_
  | with_reducible refine' Sy.wp_lst ?_
  | with_reducible refine' Sy.wp_sl ?_
  | with_reducible refine' Sy.wp_rev ?_
  | with_reducible refine' Sy.wp_join ?_
  | with_reducible refine' Sy.wo_none ?_
  | with_reducible refine' Sy.wo_some ?_
  | with_reducible refine' Sy.wa_nil ?_
  | with_reducible refine' Sy.wa_cons ?_
  | with_reducible refine' Sy.wp_yes ?_
  | with_reducible refine' Sy.wg_name ?_
  | with_reducible refine' Sy.wgs_nil ?_
  | with_reducible refine' Sy.wgs_cons ?_
  | (refine' Sy.wg_tup rfl rfl ?_)
  | (refine' Sy.wo_inl (Sy.wo_I0 rfl rfl rfl ?_))
  | (refine' Sy.wo_I0 rfl rfl rfl ?_)
  | (refine' Sy.wo_sign rfl rfl ?_)
  | (refine' Sy.wo_inl (Sy.wo_I rfl rfl ?h1 rfl ?_); (case h1 => walk_at "syc"))
  | (refine' Sy.wo_I rfl rfl ?h1 rfl ?_; (case h1 => walk_at "syc"))
  | (refine' Sy.wo_isN ?h1 rfl ?_; (case h1 => (intro z; cases z)))
  | (refine' Sy.wo_notN ?h1 rfl ?_; (case h1 => (intro z; cases z)))
  | (refine' Sy.wo_eq rfl rfl rfl ?_)
  | (refine' Sy.wo_inl (Sy.wo_eq rfl rfl rfl ?_))
  | (refine' Sy.wo_ne rfl rfl rfl ?_)
  | (refine' Sy.wo_inl (Sy.wo_ne rfl rfl rfl ?_))
  | (refine' Sy.wo_ixL rfl rfl ?h1 ?_; (case h1 => first | rfl | assumption))
  | (refine' Sy.wo_ixT rfl rfl ?h1 ?_; (case h1 => first | rfl | assumption))
  | (refine' Sy.wc_int1 rfl ?_)
  | (refine' Sy.wc_abs rfl ?_)
  | (refine' Sy.wc_max2 rfl rfl ?_)
  | (refine' Sy.wc_min2 rfl rfl ?_)
  | (refine' Sy.wc_len rfl ?_)
  | (refine' Sy.wc_lenS rfl ?h1 ?_; (case h1 => omega))
  | (refine' Sy.wc_list rfl ?_)
  | (refine' Sy.wc_listT rfl ?_)
  | (refine' Sy.wc_tuple rfl ?_)
  | ((with_reducible refine' And.intro ?h1 ?_); (case h1 => first | (with_reducible rfl) | omega | decide | (simp only [List.length_cons, List.length_nil]; omega)))
  | ((with_reducible show @ite Prop (true = true) _ _ _); refine' Sy.iteT0 ?_)
  | ((with_reducible show @ite Prop (false = true) _ _ _); refine' Sy.iteF0 ?_)
  | ((with_reducible show @ite Prop ((!true) = true) _ _ _); refine' Sy.iteNT ?_)
  | ((with_reducible show @ite Prop (@decide _ _ = true) _ _ _); (refine' Sy.iteDT ?h1 ?_); (case h1 => first | omega | rfl | (intro z; cases z)))
  | ((with_reducible show @ite Prop (@decide _ _ = true) _ _ _); (refine' Sy.iteDF ?h1 ?_); (case h1 => first | omega | rfl | (intro z; cases z)))
  | ((with_reducible show @ite Prop ((!@decide _ _) = true) _ _ _); (refine' Sy.iteND ?h1 ?_); (case h1 => first | omega | rfl | (intro z; cases z)))
  | ((with_reducible show @ite Prop ((!@decide _ _) = true) _ _ _); (refine' Sy.iteNDF ?h1 ?_); (case h1 => first | omega | rfl | (intro z; cases z)))
  | ((with_reducible show @ite Prop ((!false) = true) _ _ _); refine' Sy.iteNF ?_)
  | (with_reducible refine' Sy.ws_try ?_)
  | (with_reducible refine' Sy.wsx_drop (Sy.wx_call (Sy.wax_of ?_)))
  | (with_reducible refine' Sy.wsx_asg (Sy.wx_call (Sy.wax_of ?_)))
  | (with_reducible refine' Sy.wsx_ret (Sy.wx_call (Sy.wax_of ?_)))
  | (with_reducible refine' Sy.wsx_of ?_)
  | (refine ⟨_, rfl, ⟨_, rfl⟩, ?_⟩)
  | (refine ⟨_, rfl, ?_⟩)
  | (refine ⟨_, _, rfl, rfl, ?_⟩)
  | (refine ⟨_, _, rfl, ?_⟩)
  | ((refine' Sy.iteNo ?h1 ?_); (case h1 => (intro z; cases z)))
  | ((refine' Sy.iteYes ?h1 ?_); (case h1 => rfl)))
-- many steps
local macro_rules | `(tactic| walk_at "syd") => `(tactic| try dsimp only [List.set, List.length_cons, List.length_nil, Nat.reduceAdd, Sy.isNon, List.cons_append, List.nil_append, List.map, Bool.not_true, Bool.not_false, Sy.Ty.isInt, Sy.Ty.isBool, Sy.Ty.isStr, Sy.Ty.isList, Sy.Ty.isTuple, Sy.Ty.isSeq])
local macro_rules | `(tactic| walk_at "sy") => `(tactic| repeat ((walk_at "sy1"); (walk_at "syd")))
-- the start of a body
local macro_rules | `(tactic| walk_at "sy0") => `(tactic| dsimp only [L2.cxOf, List.length_cons, List.length_nil, Nat.reduceAdd, Nat.reduceSub, List.replicate, List.cons_append, List.nil_append])
-- a turn's end: the slots and the cells are said by the invariant
local macro_rules | `(tactic| walk_at "wkl") => `(tactic| repeat' first | exact trivial | refine ⟨.inl rfl, ?_⟩ | refine ⟨.inr rfl, ?_⟩)
local macro_rules | `(tactic| walk_at "lowl") => `(tactic| repeat' first | exact trivial | refine ⟨by omega, ?_⟩)
local macro_rules | `(tactic| walk_at "turn") => `(tactic| refine Sy.turn_q ⟨rfl, rfl⟩ (by walk_at "wkl") (by walk_at "lowl"))

namespace Kp
open PySem PySem.Spec L2 Sy
section
variable {Pg : Program} {w : World} {K : PySem.W.Frag} {mg : Str → Option Value} {base : Heap}
theorem patS_eqN (ks : List Nat) (g : Nat → Option Nat) (h0 : ∀ j, j < ks.length → g j = none → ks.getD j 0 ∉ ks.take j) (h1 : ∀ j i, j < ks.length → g j = some i → i < j ∧ ks.getD i 0 = ks.getD j 0) :
    ∀ m, m ≤ ks.length → patS g m = (patL (ks.take m), (ded (ks.take m)).length)
  | 0, _ => rfl
  | m + 1, hm => by
    have ih := patS_eqN ks g h0 h1 m (by omega)
    have hk : ks.take (m + 1) = ks.take m ++ [ks.getD m 0] := by
      rw [List.take_succ_eq_append_getElem (by omega), List.getD_eq_getElem?_getD, List.getElem?_eq_getElem (show m < ks.length by omega)] <;> rfl
    rw [patS_succ, ih, hk, patL_snoc, ded_snoc]
    unfold pstep
    cases hg : g m with
    | none =>
      have hn := h0 m (by omega) hg
      have hn2 : ks.getD m 0 ∉ ded (ks.take m) := fun z => hn (mem_ded.mp z)
      dsimp only
      rw [if_neg hn2, ixO_new hn2, List.length_append] <;> rfl
    | some i =>
      obtain ⟨hi, he⟩ := h1 m i (by omega) hg
      have hin : ks.getD m 0 ∈ ks.take m := by
        rw [← he, List.getD_eq_getElem?_getD, List.getElem?_eq_getElem (show i < ks.length by omega)]
        show ks[i] ∈ _
        rw [List.mem_take_iff_getElem]
        exact ⟨i, by omega, rfl⟩
      dsimp only
      rw [if_pos (mem_ded.mpr hin)]
      congr 3
      unfold patL
      rw [List.getD_eq_getElem?_getD, List.getElem?_map, List.getElem?_take, if_pos hi, List.getElem?_eq_getElem (show i < ks.length by omega)]
      show ixO ks[i] _ = _
      have : ks[i] = ks.getD m 0 := by
        rw [← he, List.getD_eq_getElem?_getD, List.getElem?_eq_getElem (show i < ks.length by omega)] <;> rfl
      rw [this]
theorem nxk_none {α : Type} [DecidableEq α] {ks : List α} {i : Nat} (h : nxk ks i = none) (hi : i < ks.length) : ∀ k, i < k → ks[k]? ≠ ks[i]? := by
  unfold nxk at h
  rw [List.getElem?_eq_getElem hi] at h
  intro k hk e
  have := ffk_none _ _ h (k - (i + 1))
  rw [List.getElem?_drop, show i + 1 + (k - (i + 1)) = k by omega, e, List.getElem?_eq_getElem hi] at this
  exact this rfl
theorem bef_tot {n : Nat} {f : Nat → Option Nat} (h : NxOk n f) {i j : Nat} (e : f i = some j) : befU f n j = some i := (bef_iff h).mpr e
theorem getD_app1 {l : List Nat} {x k : Nat} (h : k < l.length) : (l ++ [x]).getD k 0 = l.getD k 0 := by
  rw [List.getD_eq_getElem?_getD, List.getElem?_append_left h, ← List.getD_eq_getElem?_getD]
theorem getD_app2 {l : List Nat} {x m : Nat} (h : l.length = m) : (l ++ [x]).getD m 0 = x := by
  subst h
  rw [List.getD_eq_getElem?_getD, List.getElem?_append_right (Nat.le_refl _), Nat.sub_self] <;> rfl
section
variable {n : Nat} {g : Nat → Option Nat}
abbrev pS (g : Nat → Option Nat) (n m : Nat) : List Nat × Nat := patS (befU g n) m
theorem pS_at (n : Nat) (g : Nat → Option Nat) (m k : Nat) (h : k < m) (m2 : Nat) (h2 : m ≤ m2) : (pS g n m2).1.getD k 0 = (pS g n m).1.getD k 0 := by
  induction m2 with
  | zero => omega
  | succ m2 ih =>
    rcases Nat.lt_or_ge m2 m with q | q
    · have : m = m2 + 1 := by omega
      rw [this]
    · rw [← ih q]
      unfold pS
      rw [patS_succ]
      have hl := patS_len (befU g n) m2
      unfold pstep
      cases befU g n m2 with
      | none => exact getD_app1 (by omega)
      | some i => exact getD_app1 (by omega)
theorem pS_val (n : Nat) (g : Nat → Option Nat) (m : Nat) : (pS g n (m + 1)).1.getD m 0 = match befU g n m with | none => (pS g n m).2 | some i => (pS g n m).1.getD i 0 := by
  unfold pS
  rw [patS_succ]
  have hl := patS_len (befU g n) m
  unfold pstep
  cases befU g n m with
  | none => exact getD_app2 hl
  | some i => exact getD_app2 hl
theorem pS_cnt (n : Nat) (g : Nat → Option Nat) (m : Nat) : (pS g n (m + 1)).2 = match befU g n m with | none => (pS g n m).2 + 1 | some _ => (pS g n m).2 := by
  unfold pS
  rw [patS_succ]
  unfold pstep
  cases befU g n m <;> rfl
theorem pS_lt (h : NxOk n g) : ∀ m k, k < m → (pS g n m).1.getD k 0 < (pS g n m).2 := by
  intro m
  induction m with
  | zero => intro k hk; omega
  | succ m ih =>
    intro k hk
    rw [pS_cnt n g]
    rcases Nat.lt_or_ge k m with q | q
    · rw [pS_at n g m k q (m + 1) (by omega)]
      have := ih k q
      split
      · exact Nat.lt_succ_of_lt this
      · exact this
    · have : k = m := by omega
      subst this
      rw [pS_val n g]
      cases hb : befU g n k with
      | none => exact Nat.lt_succ_self _
      | some i =>
        dsimp only
        exact ih i (h.1 i k (befU_some hb).2).1
theorem pS_same (h : NxOk n g) : ∀ m a b, b < m → a < b → (pS g n m).1.getD a 0 = (pS g n m).1.getD b 0 → ∃ e, g a = some e ∧ e ≤ b := by
  intro m
  induction m with
  | zero => intro a b hb; omega
  | succ m ih =>
    intro a b hb hab he
    rcases Nat.lt_or_ge b m with q | q
    · rw [pS_at n g m a (by omega) (m + 1) (by omega), pS_at n g m b q (m + 1) (by omega)] at he
      exact ih a b q hab he
    · have : b = m := by omega
      subst this
      rw [pS_at n g b a hab (b + 1) (by omega), pS_val n g] at he
      cases hb : befU g n b with
      | none =>
        rw [hb] at he
        have := pS_lt h b a hab
        dsimp only at he
        omega
      | some i =>
        rw [hb] at he
        dsimp only at he
        have hgi := (befU_some hb).2
        have hib := (h.1 i b hgi).1
        rcases Nat.lt_trichotomy a i with z | z | z
        · obtain ⟨e, h1, h2⟩ := ih a i hib z he
          exact ⟨e, h1, by omega⟩
        · subst z
          exact ⟨b, hgi, Nat.le_refl _⟩
        · obtain ⟨e, h1, h2⟩ := ih i a hab z he.symm
          rw [hgi] at h1
          have := Option.some.inj h1
          omega
theorem pS_next (h : NxOk n g) {i e : Nat} (hg : g i = some e) : (pS g n n).1.getD e 0 = (pS g n n).1.getD i 0 := by
  have hi := h.1 i e hg
  rw [pS_at n g (e + 1) e (by omega) n hi.2, pS_val n g, bef_tot h hg]
  dsimp only
  rw [pS_at n g e i hi.1 n (by omega)]
def patN (n : Nat) (g : Nat → Option Nat) : List Nat := (pS g n n).1
theorem patN_len : (patN n g).length = n := patS_len _ n
theorem patN_get {k : Nat} (h : k < n) : (patN n g)[k]? = some ((patN n g).getD k 0) := by
  have hl := patN_len (n := n) (g := g)
  rw [List.getD_eq_getElem?_getD, List.getElem?_eq_getElem (by omega)] <;> rfl
theorem patN_eq {a b : Nat} (ha : a < n) (hb : b < n) : (patN n g)[a]? = (patN n g)[b]? ↔ (patN n g).getD a 0 = (patN n g).getD b 0 := by
  rw [patN_get ha, patN_get hb]
  exact ⟨fun e => Option.some.inj e, fun e => congrArg some e⟩
theorem patN_nxk (h : NxOk n g) : nxk (patN n g) = g := by
  have hl := patN_len (n := n) (g := g)
  funext i
  cases hx : nxk (patN n g) i with
  | some e' =>
    obtain ⟨h1, h2, h3, h4⟩ := nxk_spec hx
    rw [hl] at h2
    obtain ⟨e, g1, g2⟩ := pS_same h n i e' h2 h1 (((patN_eq h2 (by omega)).mp h3).symm)
    rw [g1]
    rcases Nat.lt_or_ge e e' with q | q
    · have hn := pS_next h g1
      have hi := h.1 i e g1
      exact absurd ((patN_eq (by omega) (by omega)).mpr hn) (h4 e hi.1 q)
    · have : e = e' := by omega
      rw [this]
  | none =>
    cases hg : g i with
    | none => rfl
    | some e =>
      have hi := h.1 i e hg
      exact absurd ((patN_eq (by omega) (by omega)).mpr (pS_next h hg)) (nxk_none hx (by omega) e hi.1)
theorem patN_patL (h : NxOk n g) : patL (patN n g) = patN n g := by
  have hl := patN_len (n := n) (g := g)
  have := patS_eqN (patN n g) (befU g n) (fun j hj hn hin => ?_) (fun j i hj hs => ?_) n (by omega)
  · have e1 : patN n g = patL ((patN n g).take n) := congrArg Prod.fst this
    rw [List.take_of_length_le (by omega)] at e1
    exact e1.symm
  · rw [hl] at hj
    obtain ⟨a, ha, e⟩ := List.mem_take_iff_getElem.mp hin
    have ha' : a < j := by omega
    have e' : (patN n g).getD a 0 = (patN n g).getD j 0 := by
      rw [List.getD_eq_getElem?_getD, List.getElem?_eq_getElem (by omega)]
      exact e
    unfold patN at e'
    rw [pS_at n g (j + 1) a (by omega) n (by omega), pS_at n g (j + 1) j (by omega) n (by omega), pS_at n g j a ha' (j + 1) (by omega), pS_val n g, hn] at e'
    have := pS_lt h j a ha'
    dsimp only at e'
    omega
  · have hs := (befU_some hs).2
    exact ⟨(h.1 i j hs).1, (pS_next h hs).symm⟩
/-- the positions that an earlier place equals -/
def rtsL (ps : List Nat) : List Nat := (List.range ps.length).filter fun k => decide (ps.getD k 0 ∈ ps.take k)
theorem patN_right (h : NxOk n g) {k : Nat} (hk : k < n) : (patN n g).getD k 0 ∈ (patN n g).take k ↔ ∃ i, g i = some k := by
  have hl := patN_len (n := n) (g := g)
  constructor
  · intro hin
    obtain ⟨a, ha, e⟩ := List.mem_take_iff_getElem.mp hin
    have ha' : a < k := by omega
    -- the last place ahead with its value
    have hx : nxk (patN n g) = g := patN_nxk h
    cases hb : befU g n k with
    | some i => exact ⟨i, (befU_some hb).2⟩
    | none =>
      have e' : (patN n g).getD a 0 = (patN n g).getD k 0 := by
        rw [List.getD_eq_getElem?_getD, List.getElem?_eq_getElem (by omega)]
        exact e
      unfold patN at e'
      rw [pS_at n g (k + 1) a (by omega) n (by omega), pS_at n g (k + 1) k (by omega) n (by omega), pS_at n g k a ha' (k + 1) (by omega), pS_val n g, hb] at e'
      have := pS_lt h k a ha'
      dsimp only at e'
      omega
  · rintro ⟨i, hg⟩
    have hi := h.1 i k hg
    have e : (patN n g).getD k 0 = (patN n g).getD i 0 := pS_next h hg
    rw [e, List.mem_take_iff_getElem]
    refine ⟨i, by omega, ?_⟩
    show _ = (patN n g).getD i 0
    rw [List.getD_eq_getElem?_getD, List.getElem?_eq_getElem (by omega)] <;> rfl
theorem patN_rts (h : NxOk n g) {es : List Nat} (hs : es.Pairwise (· < ·)) (hm : ∀ k, k ∈ es ↔ ∃ i, g i = some k) : rtsL (patN n g) = es := by
  have hl := patN_len (n := n) (g := g)
  refine sorted_ext (R := (· < ·)) (fun a b h1 h2 => by omega) _ _ ?_ hs fun k => ?_
  · unfold rtsL
    exact List.Pairwise.filter _ List.pairwise_lt_range
  · unfold rtsL
    rw [List.mem_filter, List.mem_range, decide_eq_true_eq, hl, hm]
    constructor
    · rintro ⟨hk, hin⟩
      exact (patN_right h hk).mp hin
    · rintro ⟨i, hg⟩
      have hi := h.1 i k hg
      exact ⟨hi.2, (patN_right h hi.2).mpr ⟨i, hg⟩⟩
theorem patN_start (h : NxOk n g) {m : Nat} (hm : m ≤ n) (hb : ∀ k, k < m → ∀ i, g i ≠ some k) : (patN n g).take m = List.range m := by
  have hl := patN_len (n := n) (g := g)
  have hp : ∀ j, j ≤ m → pS g n j = (List.range j, j) := by
    intro j
    induction j with
    | zero => intro _; rfl
    | succ j ih =>
      intro hj
      unfold pS at ih ⊢
      rw [patS_succ, ih (by omega)]
      unfold pstep
      have : befU g n j = none := by
        cases hbb : befU g n j with
        | none => rfl
        | some i => exact absurd (befU_some hbb).2 (hb j (by omega) i)
      rw [this, List.range_succ] <;> rfl
  refine List.ext_getElem (by simp; omega) fun k h1 h2 => ?_
  have hk : k < m := by simpa using h2
  rw [List.getElem_take, List.getElem_range]
  have e := pS_at n g m k hk n hm
  rw [hp m (Nat.le_refl _), List.getD_eq_getElem?_getD, List.getD_eq_getElem?_getD, List.getElem?_range hk, List.getElem?_eq_getElem (by have : (pS g n n).1.length = n := patN_len; omega)] at e
  exact e
end
def zpF : List Nat → List Nat → Nat → Option Nat
  | i :: t, e :: es, k => if k = i then some e else zpF t es k
  | _, _, _ => none
theorem zpF_some {k e : Nat} : ∀ {l es : List Nat}, zpF l es k = some e → ∃ j : Nat, l[j]? = some k ∧ es[j]? = some e
  | [], _, h => by cases h
  | _ :: _, [], h => by cases h
  | i :: t, x :: es, h => by
    unfold zpF at h
    by_cases q : k = i
    · rw [if_pos q] at h
      exact ⟨0, congrArg some q.symm, h⟩
    · rw [if_neg q] at h
      obtain ⟨j, h1, h2⟩ := zpF_some h
      exact ⟨j + 1, h1, h2⟩
theorem zpF_at {k e : Nat} : ∀ {l es : List Nat} {j : Nat}, l.Nodup → l[j]? = some k → es[j]? = some e → zpF l es k = some e
  | [], _, j, _, h, _ => by cases h
  | _ :: _, [], _, _, _, h => by cases h
  | i :: t, x :: es, 0, _, h1, h2 => by
    have h1 := Option.some.inj h1
    unfold zpF
    rw [if_pos h1.symm]
    exact h2
  | i :: t, x :: es, j + 1, hd, h1, h2 => by
    have h1 : t[j]? = some k := h1
    have h2 : es[j]? = some e := h2
    obtain ⟨n1, n2⟩ := List.nodup_cons.mp hd
    unfold zpF
    rw [if_neg (fun (q : k = i) => n1 (by rw [← q]; exact List.mem_of_getElem? h1))]
    exact zpF_at n2 h1 h2
theorem zpF_snoc {i e : Nat} : ∀ {l es : List Nat}, l.length = es.length → i ∉ l → ∀ k, zpF (l ++ [i]) (es ++ [e]) k = if k = i then some e else zpF l es k
  | [], [], _, _, k => rfl
  | [], _ :: _, h, _, _ => by cases h
  | _ :: _, [], h, _, _ => by cases h
  | a :: t, x :: es, h, hn, k => by
    have h' : t.length = es.length := by simpa using h
    have ih := zpF_snoc (e := e) h' (fun q => hn (List.mem_cons_of_mem _ q)) k
    show (if k = a then some x else zpF (t ++ [i]) (es ++ [e]) k) = if k = i then some e else if k = a then some x else zpF t es k
    rw [ih]
    by_cases q : k = a
    · have : ¬ k = i := fun z => hn (by rw [← z, q]; exact List.mem_cons_self)
      rw [if_pos q, if_neg this, if_pos q]
    · rw [if_neg q, if_neg q]
/-- ends that fit the places l: ascending, each behind its place, below n -/
def fitE (n : Nat) : List Nat → List Nat → Nat → Prop
  | [], [], _ => True
  | i :: t, e :: es, low => low ≤ e ∧ i < e ∧ e < n ∧ fitE n t es (e + 1)
  | _, _, _ => False
theorem fitE_len {n : Nat} : ∀ {l es : List Nat} {low : Nat}, fitE n l es low → l.length = es.length
  | [], [], _, _ => rfl
  | [], _ :: _, _, h => h.elim
  | _ :: _, [], _, h => h.elim
  | _ :: t, _ :: es, _, ⟨_, _, _, h⟩ => by rw [List.length_cons, List.length_cons, fitE_len h]
theorem fitE_ge {n : Nat} : ∀ {l es : List Nat} {low : Nat}, fitE n l es low → ∀ e ∈ es, low ≤ e
  | [], [], _, _, e, h => by cases h
  | [], _ :: _, _, h, _, _ => h.elim
  | _ :: _, [], _, h, _, _ => h.elim
  | _ :: t, x :: es, low, ⟨h1, _, _, h⟩, e, he => by
    rcases List.mem_cons.mp he with q | q
    · omega
    · have := fitE_ge h e q
      omega
theorem fitE_asc {n : Nat} : ∀ {l es : List Nat} {low : Nat}, fitE n l es low → es.Pairwise (· < ·)
  | [], [], _, _ => List.Pairwise.nil
  | [], _ :: _, _, h => h.elim
  | _ :: _, [], _, h => h.elim
  | _ :: t, x :: es, low, ⟨_, _, _, h⟩ => List.Pairwise.cons (fun e he => by have := fitE_ge h e he; omega) (fitE_asc h)
theorem fitE_at {n : Nat} : ∀ {l es : List Nat} {low j i e : Nat}, fitE n l es low → l[j]? = some i → es[j]? = some e → i < e ∧ e < n
  | [], _, _, _, _, _, _, h, _ => by cases h
  | _ :: _, [], _, _, _, _, h, _, _ => h.elim
  | _ :: t, x :: es, low, 0, i, e, ⟨_, h2, h3, _⟩, a, b => by
    cases a; cases b; exact ⟨h2, h3⟩
  | _ :: t, x :: es, low, j + 1, i, e, ⟨_, _, _, h⟩, a, b => fitE_at h (show t[j]? = some i from a) b
theorem zp_ok {n : Nat} {l es : List Nat} {low : Nat} (h : fitE n l es low) (hd : l.Nodup) : NxOk n (zpF l es) := by
  refine ⟨fun i e he => ?_, fun i j e h1 h2 => ?_⟩
  · obtain ⟨j, a, b⟩ := zpF_some he
    exact fitE_at h a b
  · obtain ⟨a, a1, a2⟩ := zpF_some h1
    obtain ⟨b, b1, b2⟩ := zpF_some h2
    have hp := List.pairwise_iff_getElem.mp (fitE_asc h)
    obtain ⟨la, ea⟩ := List.getElem?_eq_some_iff.mp a2
    obtain ⟨lb, eb⟩ := List.getElem?_eq_some_iff.mp b2
    have : a = b := by
      rcases Nat.lt_trichotomy a b with z | z | z
      · have := hp a b la lb z; omega
      · exact z
      · have := hp b a lb la z; omega
    subst this
    rw [a1] at b1
    exact Option.some.inj b1
theorem zp_byN {n : Nat} {l es : List Nat} {low : Nat} (h : fitE n l es low) (hd : l.Nodup) : byN n (zpF l es) = l := by
  have hl := fitE_len h
  refine (byN_uniq (zp_ok h hd) ?_ fun i => ?_).symm
  · refine List.pairwise_iff_getElem.mpr fun a b ha hb hab => ?_
    have e1 := zpF_at hd (List.getElem?_eq_getElem ha) (List.getElem?_eq_getElem (show a < es.length by omega))
    have e2 := zpF_at hd (List.getElem?_eq_getElem hb) (List.getElem?_eq_getElem (show b < es.length by omega))
    exact ⟨_, _, e1, e2, List.pairwise_iff_getElem.mp (fitE_asc h) a b (by omega) (by omega) hab⟩
  · constructor
    · intro hi
      obtain ⟨a, ha, e⟩ := List.getElem_of_mem hi
      exact ⟨_, zpF_at hd (by rw [List.getElem?_eq_getElem ha, e]) (List.getElem?_eq_getElem (show a < es.length by omega))⟩
    · rintro ⟨j, hj⟩
      obtain ⟨a, h1, _⟩ := zpF_some hj
      exact List.mem_of_getElem? h1
theorem zp_ends {n : Nat} {l es : List Nat} {low : Nat} (h : fitE n l es low) (hd : l.Nodup) (k : Nat) : k ∈ es ↔ ∃ i, zpF l es i = some k := by
  have hl := fitE_len h
  constructor
  · intro hk
    obtain ⟨a, ha, e⟩ := List.getElem_of_mem hk
    exact ⟨_, zpF_at hd (List.getElem?_eq_getElem (show a < l.length by omega)) (by rw [List.getElem?_eq_getElem ha, e])⟩
  · rintro ⟨i, hi⟩
    obtain ⟨a, _, h2⟩ := zpF_some hi
    exact List.mem_of_getElem? h2
/-- what a pattern must keep: its own form, its order of next ones, its ends -/
structure PatOk (n : Nat) (l es ps : List Nat) : Prop where
  len : ps.length = n
  own : patL ps = ps
  ord : byN n (nxk ps) = l
  rts : rtsL ps = es
theorem pat_ok {n : Nat} {l es : List Nat} {low : Nat} (h : fitE n l es low) (hd : l.Nodup) : PatOk n l es (patN n (zpF l es)) := by
  have hk := zp_ok h hd
  exact ⟨patN_len, patN_patL hk, by rw [patN_nxk hk]; exact zp_byN h hd, patN_rts hk (fitE_asc h) (zp_ends h hd)⟩
theorem byN_nodup {n : Nat} {f : Nat → Option Nat} (h : NxOk n f) : (byN n f).Nodup := by
  refine List.nodup_iff_pairwise_ne.mpr (List.Pairwise.imp ?_ (byN_sorted h))
  rintro a b ⟨x, y, h1, h2, h3⟩ e
  rw [e, h2] at h1
  have := Option.some.inj h1
  omega
theorem fit_f {n : Nat} {f : Nat → Option Nat} (h : NxOk n f) : ∀ (l : List Nat) (low : Nat), l.Pairwise (ltF f) → (∀ i ∈ l, ∃ e, f i = some e ∧ low ≤ e) → fitE n l (l.map fun i => (f i).getD 0) low
  | [], _, _, _ => trivial
  | i :: t, low, hp, hm => by
    obtain ⟨p1, p2⟩ := List.pairwise_cons.mp hp
    obtain ⟨e, he, hl⟩ := hm i List.mem_cons_self
    have hb := h.1 i e he
    show low ≤ (f i).getD 0 ∧ i < (f i).getD 0 ∧ (f i).getD 0 < n ∧ fitE n t (t.map fun i => (f i).getD 0) ((f i).getD 0 + 1)
    rw [he]
    refine ⟨hl, hb.1, hb.2, fit_f h t (e + 1) p2 fun j hj => ?_⟩
    obtain ⟨a, b, h1, h2, h3⟩ := p1 j hj
    rw [he] at h1
    have := Option.some.inj h1
    exact ⟨b, h2, by omega⟩
theorem fit_byN {n : Nat} {f : Nat → Option Nat} (h : NxOk n f) : fitE n (byN n f) ((byN n f).map fun i => (f i).getD 0) 0 :=
  fit_f h _ 0 (byN_sorted h) fun i hi => by
    obtain ⟨e, he⟩ := (byN_mem h).mp hi
    exact ⟨e, he, Nat.zero_le _⟩
theorem fitE_room {n : Nat} : ∀ {l fs : List Nat} {lo : Nat}, fitE n l fs lo → lo ≤ n → lo + l.length ≤ n
  | [], _, _, _, h => h
  | _ :: _, [], _, h, _ => h.elim
  | _ :: t, x :: fs, lo, ⟨h1, _, h3, h⟩, _ => by
    have := fitE_room h (by omega)
    rw [List.length_cons]
    omega
/-- the nearest ends -/
def nearE : Nat → List Nat → List Nat
  | _, [] => []
  | s, i :: t => (max s i + 1) :: nearE (max s i + 1) t
theorem near_fit {n : Nat} : ∀ {l fs : List Nat} {s lo : Nat}, fitE n l fs lo → s + 1 ≤ lo → fitE n l (nearE s l) (s + 1)
  | [], [], _, _, _, _ => trivial
  | [], _ :: _, _, _, h, _ => h.elim
  | _ :: _, [], _, _, h, _ => h.elim
  | i :: t, x :: fs, s, lo, ⟨h1, h2, h3, h⟩, hs => by
    show s + 1 ≤ max s i + 1 ∧ i < max s i + 1 ∧ max s i + 1 < n ∧ fitE n t (nearE (max s i + 1) t) (max s i + 1 + 1)
    exact ⟨by omega, by omega, by omega, near_fit h (by omega)⟩
theorem near_fit0 {n : Nat} : ∀ {l fs : List Nat}, fitE n l fs 0 → fitE n l (nearE 0 l) 0
  | [], [], _ => trivial
  | [], _ :: _, h => h.elim
  | _ :: _, [], h => h.elim
  | i :: t, x :: fs, ⟨h1, h2, h3, h⟩ => by
    show 0 ≤ max 0 i + 1 ∧ i < max 0 i + 1 ∧ max 0 i + 1 < n ∧ fitE n t (nearE (max 0 i + 1) t) (max 0 i + 1 + 1)
    exact ⟨by omega, by omega, by omega, near_fit h (by omega)⟩
theorem beh_skip {n i low e : Nat} {t : List Nat} (h1 : low ≤ e) (h2 : e ≤ n) (h : ∀ x, low ≤ x → x < e → x ≤ i) : behF n (i :: t) low = behF n (i :: t) e := by
  obtain ⟨k, rfl⟩ : ∃ k, e = low + k := ⟨e - low, by omega⟩
  rw [behF_cons, behF_cons, sumR_split k low h2, sumR_zero fun x x1 x2 => ?_, Nat.zero_add]
  unfold wayF
  rw [if_neg (by have := h x x1 x2; omega)]
theorem near_rank {n : Nat} : ∀ {l fs : List Nat} {s lo : Nat}, fitE n l fs lo → s + 1 ≤ lo → rkF n l (nearE s l) (s + 1) = 0
  | [], [], _, _, _, _ => rfl
  | [], _ :: _, _, _, h, _ => h.elim
  | _ :: _, [], _, _, h, _ => h.elim
  | i :: t, x :: fs, s, lo, ⟨h1, h2, h3, h⟩, hs => by
    show (behF n (i :: t) (s + 1) : Int) - (behF n (i :: t) (max s i + 1) : Int) + rkF n t (nearE (max s i + 1) t) (max s i + 1 + 1) = 0
    rw [near_rank h (by omega), beh_skip (e := max s i + 1) (by omega) (by omega) fun y y1 y2 => by omega]
    omega
theorem near_rank0 {n : Nat} : ∀ {l fs : List Nat}, fitE n l fs 0 → rkF n l (nearE 0 l) 0 = 0
  | [], [], _ => rfl
  | [], _ :: _, h => h.elim
  | _ :: _, [], h => h.elim
  | i :: t, x :: fs, ⟨h1, h2, h3, h⟩ => by
    show (behF n (i :: t) 0 : Int) - (behF n (i :: t) (max 0 i + 1) : Int) + rkF n t (nearE (max 0 i + 1) t) (max 0 i + 1 + 1) = 0
    rw [near_rank h (by omega), beh_skip (e := max 0 i + 1) (by omega) (by omega) fun y y1 y2 => by omega]
    omega
/-- the last ends -/
def forE (n : Nat) : List Nat → List Nat
  | [] => []
  | _ :: t => (n - (t.length + 1)) :: forE n t
theorem for_fit {n : Nat} : ∀ {l fs : List Nat} {lo low : Nat}, fitE n l fs lo → low ≤ n - l.length → fitE n l (forE n l) low
  | [], [], _, _, _, _ => trivial
  | [], _ :: _, _, _, h, _ => h.elim
  | _ :: _, [], _, _, h, _ => h.elim
  | i :: t, x :: fs, lo, low, ⟨h1, h2, h3, h⟩, hs => by
    have := fitE_room h (by omega)
    rw [List.length_cons] at hs
    show low ≤ n - (t.length + 1) ∧ i < n - (t.length + 1) ∧ n - (t.length + 1) < n ∧ fitE n t (forE n t) (n - (t.length + 1) + 1)
    exact ⟨by omega, by omega, by omega, for_fit h (by omega)⟩
theorem beh_few {n : Nat} : ∀ {l : List Nat} {low : Nat}, low ≤ n → n < low + l.length → behF n l low = 0
  | [], _, h0, h => by simp at h; omega
  | i :: t, low, h0, h => by
    rw [List.length_cons] at h
    rw [behF_cons]
    refine sumR_zero fun e e1 e2 => ?_
    unfold wayF
    split
    · exact beh_few (by omega) (by omega)
    · rfl
theorem beh_one {n : Nat} : ∀ {l fs : List Nat} {lo : Nat}, fitE n l fs lo → behF n l (n - l.length) = 1
  | [], [], _, _ => rfl
  | [], _ :: _, _, h => h.elim
  | _ :: _, [], _, h => h.elim
  | i :: t, x :: fs, lo, ⟨h1, h2, h3, h⟩ => by
    have := fitE_room h (by omega)
    have ih := beh_one h
    rw [List.length_cons, behF_cons, sumR_step (by omega)]
    have e1 : n - (t.length + 1) + 1 = n - t.length := by omega
    have z : sumR (wayF n i t) (n - (t.length + 1) + 1) n = 0 := sumR_zero fun e a b => by
      unfold wayF
      split
      · exact beh_few (by omega) (by omega)
      · rfl
    rw [z]
    unfold wayF
    rw [if_pos (by omega), e1, ih]
theorem for_rank {n : Nat} : ∀ {l fs : List Nat} {lo : Nat} (low : Nat), fitE n l fs lo → rkF n l (forE n l) low = (behF n l low : Int) - 1
  | [], [], _, _, _ => rfl
  | [], _ :: _, _, _, h => h.elim
  | _ :: _, [], _, _, h => h.elim
  | i :: t, x :: fs, lo, low, ⟨h1, h2, h3, h⟩ => by
    have hr := fitE_room h (by omega)
    have e1 : n - (t.length + 1) + 1 = n - t.length := by omega
    have hb := beh_one (l := i :: t) (fs := x :: fs) (lo := lo) ⟨h1, h2, h3, h⟩
    rw [List.length_cons] at hb
    show (behF n (i :: t) low : Int) - (behF n (i :: t) (n - (t.length + 1)) : Int) + rkF n t (forE n t) (n - (t.length + 1) + 1) = _
    rw [for_rank _ h, hb, e1, beh_one h]
    omega
theorem for_eq {n : Nat} : ∀ {l : List Nat}, l.length ≤ n → forE n l = (List.range l.length).map fun k => n - l.length + k
  | [], _ => rfl
  | i :: t, h => by
    rw [List.length_cons] at h ⊢
    rw [List.range_succ_eq_map, List.map_cons, List.map_map]
    show (n - (t.length + 1)) :: forE n t = _
    rw [for_eq (by omega)]
    congr 1
    refine List.map_congr_left fun k _ => ?_
    show n - t.length + k = n - (t.length + 1) + (k + 1)
    omega
theorem rk_len {n : Nat} {l : List Nat} {low : Nat} : rkF n l [] low = 0 := by cases l <;> rfl
/-- one greedy step -/
def NthS (n : Nat) (L : List Nat) (num : Nat) (k : Nat) (es : List Nat) (low place : Nat) : Prop :=
  low ≤ n ∧ place < behF n (L.drop k) low ∧ ∀ es', fitE n (L.drop k) es' low → rkF n (L.drop k) es' low = (place : Int) → fitE n L (es ++ es') 0 ∧ rkF n L (es ++ es') 0 = (num : Int)
theorem nth_start {n num : Nat} {L : List Nat} (h : num < behF n L 0) : NthS n L num 0 [] 0 num := ⟨Nat.zero_le _, h, fun _ h1 h2 => ⟨h1, h2⟩⟩
theorem nth_end {n num low place : Nat} {L es : List Nat} (h : NthS n L num L.length es low place) : fitE n L es 0 ∧ rkF n L es 0 = (num : Int) := by
  obtain ⟨_, h1, h2⟩ := h
  rw [List.drop_length] at h1 h2
  have h1 : place < 1 := h1
  have := h2 [] trivial (by show (0 : Int) = _; omega)
  rwa [List.append_nil] at this
theorem drop_rg {g : Nat → Nat} {n low : Nat} : ((List.range n).map g).drop low = (List.range (n - low)).map fun t => g (low + t) := by
  refine List.ext_getElem (by simp) fun k h1 h2 => ?_
  simp
theorem take_rg {h : Nat → Nat} {m k : Nat} (hk : k ≤ m) : ((List.range m).map h).take k = (List.range k).map h := by
  refine List.ext_getElem (by simp; omega) fun j h1 h2 => ?_
  simp
theorem nth_sum {n i low : Nat} {t : List Nat} : (((List.range n).map (wayF n i t)).drop low).sum = behF n (i :: t) low := by
  rw [drop_rg, behF_cons] <;> rfl
theorem nth_step {n num k low place idx rem i : Nat} {t L es : List Nat} (h : NthS n L num k es low place) (hd : L.drop k = i :: t) (hi : idx < n - low) (hp : place = ((((List.range n).map (wayF n i t)).drop low).take idx).sum + rem) (hr : rem < (((List.range n).map (wayF n i t)).drop low).getD idx 0) :
    NthS n L num (k + 1) (es ++ [low + idx]) (low + idx + 1) rem := by
  obtain ⟨h0, h1, h2⟩ := h
  have hd2 : L.drop (k + 1) = t := by
    rw [← List.drop_drop, hd] <;> rfl
  rw [hd] at h1 h2
  rw [drop_rg, take_rg (by omega)] at hp
  rw [drop_rg, List.getD_eq_getElem?_getD, List.getElem?_map, List.getElem?_range hi] at hr
  have hr : rem < wayF n i t (low + idx) := hr
  have hs : behF n (i :: t) low = ((List.range idx).map fun t' => wayF n i t (low + t')).sum + behF n (i :: t) (low + idx) := by
    rw [behF_cons, behF_cons, sumR_split idx low (by omega)]
    congr 1
    unfold sumR
    rw [Nat.add_sub_cancel_left]
  unfold wayF at hr
  by_cases q : i < low + idx
  · rw [if_pos q] at hr
    refine ⟨by omega, by rw [hd2]; exact hr, fun es' f1 f2 => ?_⟩
    rw [hd2] at f1 f2
    rw [List.append_assoc]
    refine h2 ((low + idx) :: es') ⟨Nat.le_add_right _ _, q, by omega, f1⟩ ?_
    show (behF n (i :: t) low : Int) - (behF n (i :: t) (low + idx) : Int) + rkF n t es' (low + idx + 1) = (place : Int)
    rw [f2, hs, hp]
    omega
  · rw [if_neg q] at hr
    exact absurd hr (Nat.not_lt_zero _)
end
end Kp
end

section
-- conditions of operations on ints
local macro_rules | `(tactic| walk_at "syc") => `(tactic| first
  | exact Sy.cpow (by decide) (by decide)
  | exact Sy.mul_l (by omega) (by omega)
  | exact Sy.mul_r (by omega) (by omega)
  | exact Sy.fdiv_ok (by omega) (by omega)
  | ((show (0 : Int) < _); first | omega | (simp only [Sy.pow12, Sy.pow18, Sy.pow29, Sy.pow38, Sy.pow39, Sy.pow40]; omega)))
-- one step of the symbolic run
local macro_rules | `(tactic| walk_at "sy1") => `(tactic| first
  | with_reducible refine' Sy.ws_seq ?_
  | (with_reducible refine' Sy.ws_setI ?_)
  | (with_reducible refine' Sy.ws_asg ?_)
  | with_reducible refine' Sy.ws_ret (Sy.wp_lstO ?_)
  | with_reducible refine' Sy.ws_ret ?_
  | with_reducible refine' Sy.ws_if ?_
  | with_reducible refine' Sy.ws_drop ?_
  | with_reducible refine' Sy.ws_next ?_
  | with_reducible refine' Sy.ws_par ?_
  | with_reducible refine' Sy.wp_app ?_
  | with_reducible refine' Sy.ws_setI ?_
  | with_reducible refine' Sy.ws_dput ?_
  | with_reducible refine' Sy.wp_dget1 ?_
  | with_reducible refine' Sy.wp_dnotin ?_
  | ((with_reducible refine' Sy.wp_var ?h1 ?h2 ?_); (case h1 => rfl); (case h2 => (intro z; cases z)))
  | ((with_reducible refine' Sy.wp_c ?h1 ?_); (case h1 => rfl))
  | with_reducible refine' Sy.isi_int ?_
  | with_reducible refine' Sy.isi_bool ?_
  | with_reducible refine' Sy.isi_str ?_
  | with_reducible refine' Sy.isi_list ?_
  | with_reducible refine' Sy.isi_tuple ?_
  | with_reducible refine' Sy.isi_seq ?_
  | with_reducible refine' Sy.wp_op ?_
  | with_reducible refine' Sy.wp_neg ?_
  | with_reducible refine' Sy.wp_test ?_
  | with_reducible refine' Sy.wp_testB ?_
  | with_reducible refine' Sy.wp_and ?_
  | with_reducible refine' Sy.wp_or ?_
  | with_reducible refine' Sy.wp_not ?_
  | with_reducible refine' Sy.wp_if ?_
  | with_reducible refine' Sy.wp_andV ?_
  | with_reducible refine' Sy.wp_orV ?_
  | with_reducible refine' Sy.wp_notV ?_
  | with_reducible refine' Sy.wp_chain ?_
  | with_reducible refine' Sy.wp_cb ?_
  | with_reducible refine' Sy.wp_callE ?_
  | with_reducible refine' Sy.wp_callX0 ?_
  | (with_reducible refine' Sy.wp_ext ?_)
  | with_reducible refine' Sy.wp_tup ?_
  | with_reducible refine' Sy.wp_lst ?_
  | with_reducible refine' Sy.wp_sl ?_
  | with_reducible refine' Sy.wp_rev ?_
  | with_reducible refine' Sy.wp_join ?_
  | with_reducible refine' Sy.wo_none ?_
  | with_reducible refine' Sy.wo_some ?_
  | with_reducible refine' Sy.wa_nil ?_
  | with_reducible refine' Sy.wa_cons ?_
  | with_reducible refine' Sy.wp_yes ?_
  | with_reducible refine' Sy.wg_name ?_
  | with_reducible refine' Sy.wgs_nil ?_
  | with_reducible refine' Sy.wgs_cons ?_
  | (refine' Sy.wg_tup rfl rfl ?_)
  | (refine' Sy.wo_inl (Sy.wo_I0 rfl rfl rfl ?_))
  | (refine' Sy.wo_I0 rfl rfl rfl ?_)
  | (refine' Sy.wo_sign rfl rfl ?_)
  | (refine' Sy.wo_inl (Sy.wo_I rfl rfl ?h1 rfl ?_); (case h1 => walk_at "syc"))
  | (refine' Sy.wo_I rfl rfl ?h1 rfl ?_; (case h1 => walk_at "syc"))
  | (refine' Sy.wo_isN ?h1 rfl ?_; (case h1 => (intro z; cases z)))
  | (refine' Sy.wo_notN ?h1 rfl ?_; (case h1 => (intro z; cases z)))
  | (refine' Sy.wo_eq rfl rfl rfl ?_)
  | (refine' Sy.wo_inl (Sy.wo_eq rfl rfl rfl ?_))
  | (refine' Sy.wo_ne rfl rfl rfl ?_)
  | (refine' Sy.wo_inl (Sy.wo_ne rfl rfl rfl ?_))
  | (refine' Sy.wo_ixL rfl rfl ?h1 ?_; (case h1 => first | rfl | assumption))
  | (refine' Sy.wo_ixT rfl rfl ?h1 ?_; (case h1 => first | rfl | assumption))
  | (refine' Sy.wc_int1 rfl ?_)
  | (refine' Sy.wc_abs rfl ?_)
  | (refine' Sy.wc_max2 rfl rfl ?_)
  | (refine' Sy.wc_min2 rfl rfl ?_)
  | (refine' Sy.wc_len rfl ?_)
  | (refine' Sy.wc_lenS rfl ?h1 ?_; (case h1 => omega))
  | (refine' Sy.wc_list rfl ?_)
  | (refine' Sy.wc_listT rfl ?_)
  | (refine' Sy.wc_tuple rfl ?_)
  | ((with_reducible refine' And.intro ?h1 ?_); (case h1 => first | (with_reducible rfl) | omega | decide | (simp only [List.length_cons, List.length_nil]; omega)))
  | ((with_reducible show @ite Prop (true = true) _ _ _); refine' Sy.iteT0 ?_)
  | ((with_reducible show @ite Prop (false = true) _ _ _); refine' Sy.iteF0 ?_)
  | ((with_reducible show @ite Prop ((!true) = true) _ _ _); refine' Sy.iteNT ?_)
  | ((with_reducible show @ite Prop (@decide _ _ = true) _ _ _); (refine' Sy.iteDT ?h1 ?_); (case h1 => first | omega | rfl | (intro z; cases z)))
  | ((with_reducible show @ite Prop (@decide _ _ = true) _ _ _); (refine' Sy.iteDF ?h1 ?_); (case h1 => first | omega | rfl | (intro z; cases z)))
  | ((with_reducible show @ite Prop ((!@decide _ _) = true) _ _ _); (refine' Sy.iteND ?h1 ?_); (case h1 => first | omega | rfl | (intro z; cases z)))
  | ((with_reducible show @ite Prop ((!@decide _ _) = true) _ _ _); (refine' Sy.iteNDF ?h1 ?_); (case h1 => first | omega | rfl | (intro z; cases z)))
  | ((with_reducible show @ite Prop ((!false) = true) _ _ _); refine' Sy.iteNF ?_)
  | (with_reducible refine' Sy.ws_try ?_)
  | (with_reducible refine' Sy.wsx_drop (Sy.wx_call (Sy.wax_of ?_)))
  | (with_reducible refine' Sy.wsx_asg (Sy.wx_call (Sy.wax_of ?_)))
  | (with_reducible refine' Sy.wsx_ret (Sy.wx_call (Sy.wax_of ?_)))
  | (with_reducible refine' Sy.wsx_of ?_)
  | (refine ⟨_, rfl, ⟨_, rfl⟩, ?_⟩)
  | (refine ⟨_, rfl, ?_⟩)
  | (refine ⟨_, _, rfl, rfl, ?_⟩)
  | (refine ⟨_, _, rfl, ?_⟩)
  | ((refine' Sy.iteNo ?h1 ?_); (case h1 => (intro z; cases z)))
  | ((refine' Sy.iteYes ?h1 ?_); (case h1 => rfl)))
-- many steps
local macro_rules | `(tactic| walk_at "syd") => `(tactic| try dsimp only [List.set, List.length_cons, List.length_nil, Nat.reduceAdd, Sy.isNon, List.cons_append, List.nil_append, List.map, Bool.not_true, Bool.not_false, Sy.Ty.isInt, Sy.Ty.isBool, Sy.Ty.isStr, Sy.Ty.isList, Sy.Ty.isTuple, Sy.Ty.isSeq])
local macro_rules | `(tactic| walk_at "sy") => `(tactic| repeat ((walk_at "sy1"); (walk_at "syd")))
-- the start of a body
local macro_rules | `(tactic| walk_at "sy0") => `(tactic| dsimp only [L2.cxOf, List.length_cons, List.length_nil, Nat.reduceAdd, Nat.reduceSub, List.replicate, List.cons_append, List.nil_append])
-- a turn's end: the slots and the cells are said by the invariant
local macro_rules | `(tactic| walk_at "wkl") => `(tactic| repeat' first | exact trivial | refine ⟨.inl rfl, ?_⟩ | refine ⟨.inr rfl, ?_⟩)
local macro_rules | `(tactic| walk_at "lowl") => `(tactic| repeat' first | exact trivial | refine ⟨by omega, ?_⟩)
local macro_rules | `(tactic| walk_at "turn") => `(tactic| refine Sy.turn_q ⟨rfl, rfl⟩ (by walk_at "wkl") (by walk_at "lowl"))

namespace Kp
open PySem PySem.Spec L2 Sy
section
variable {Pg : Program} {w : World} {K : PySem.W.Frag} {mg : Str → Option Value} {base : Heap}
def waysD (wss : List (List Nat)) : List PyData := wss.map fun ws => .list (posD ws)
def pr_ways_by_end : Pr := prX (ι := Nat × List Nat) (fun (n, l) => [.list (posD l), .int (n : Int)]) (fun (n, l) => n ≤ 999 ∧ l.length ≤ 1000) fun (n, l) d => d = .list (waysD (waysL n l))
def wyF (n : Nat) (bs : List Nat) (i : Nat) : PyData → Option PyData | .int e => some (.int (if i < e.toNat then ((bs.getD (e.toNat + 1) 0 : Nat) : Int) else 0)) | _ => none
theorem beh_get {n e : Nat} {l : List Nat} (h : e < n + 1) : (behL n l).getD e 0 = behF n l e := by
  unfold behL
  rw [List.getD_eq_getElem?_getD, List.getElem?_map, List.getElem?_range h] <;> rfl
theorem wyF_eq {n i : Nat} {t : List Nat} : (rngD 0 n).filterMap (wyF n (behL n t) i) = posD ((List.range n).map (wayF n i t)) := by
  unfold rngD posD
  rw [List.filterMap_map, List.map_map, ← List.filterMap_eq_map]
  refine fm_congr fun k hk => ?_
  have hk := List.mem_range.mp hk
  show some (PyData.int (if i < ((0 : Int) + (k : Int)).toNat then (((behL n t).getD (((0 : Int) + (k : Int)).toNat + 1) 0 : Nat) : Int) else 0)) = some (PyData.int ((wayF n i t k : Nat) : Int))
  rw [Int.zero_add, Int.toNat_natCast]
  unfold wayF
  split
  · rw [beh_get (by omega)]
  · rfl
theorem behL_len {n : Nat} {l : List Nat} : (behL n l).length = n + 1 := by unfold behL; rw [List.length_map, List.length_range]
theorem ok_ways_by_end (T : Txt K mg) : FnOk Pg w K mg base CX0 2 T.f_ways_by_end T.d_ways_by_end ["order", "many"] (spS K pr_ways_by_end) := by
  refine ok_of _ T.F_ways_by_end sc_ways_by_end (hlenX fun _ => rfl) (fun cdv A outer s H E hr => ⟨_, (pss_cons (ps_set (i := 2) sc_ways_by_end.nd rfl (.inl rfl) (pe_lst pa_nil)) 
    (pss_cons (ps_set (i := 3) sc_ways_by_end.nd rfl (.inr rfl) (pe_op (OpR.or op_mul op_rep) (pe_lst (pa_cons pe_int pa_nil)) (pe_op (OpR.or op_add (OpR.or op_cat op_add_str)) (pv 1) pe_int))) 
    (pss_cons (ps_for PassesOwn.never rfl (pi_reversed rfl T.z_reversed (pa_cons (pv 0) pa_nil)) (pg_name (i := 4) sc_ways_by_end.nd rfl (.inr rfl))
    (pss_cons (ps_setLc (i := 5) rfl sc_ways_by_end.nd rfl rfl (sw_true rfl rfl rfl (by decide +kernel)) (own := [("end", 6)]) (pi_range1 rfl T.z_range (pa_cons (pv 1) pa_nil)) (blkOk_by (own := [("end", 6)]) (N := N_ways_by_end) (sc := (defScope s_ways_by_end)) (by decide +kernel)) (fun _ _ _ _ _ => (pg_name (i := 6) sc_ways_by_end.nd rfl (.inl rfl))) (fun _ _ _ _ _ => pts_nil) (fun _ _ _ _ _ => (pe_ifExp (pt_cmpR op_gt (pv 6) (pv 4) (nomark _)) (pe_ix (ix_seqK (K := K) rfl) (pv 3) (pe_op (OpR.or op_add (OpR.or op_cat op_add_str)) (pv 6) pe_int) (fun _ _ => rfl)) pe_int))) 
    (pss_cons (ps_set (i := 3) sc_ways_by_end.nd rfl (.inr rfl) (pe_call (ok_sums_from T) (hr.mono (by decide)) (by rfl) T.g_sums_from T.F_sums_from.kp T.B_sums_from .nil pass0 (pa_cons (pv 5) pa_nil))) 
    (pss_one (ps_expr (pe_bm PySem.F.plainAttrs_list PySem.F.slot_list_append PySem.F.type_list_append mt_append (pv 2) (pa_cons (pv 5) pa_nil))))))) 
    (pss_one (ps_ret (pe_revL (pv 2))))))), ?_⟩)
  walk_at "sy0"
  try dsimp only [N_ways_by_end, List.length_cons, List.length_nil, Nat.reduceAdd, Nat.reduceSub, List.replicate, List.cons_append, List.nil_append]
  rintro as cl Φ ⟨⟨n, l⟩, rfl, rfl, ⟨hn, hl⟩, q⟩
  have q := q _ rfl
  have hll := posD_length (ps := l)
  dsimp only [List.map]
  refine ws_seq (ws_asg (wp_lstO (wa_nil ⟨[], rfl, by simp, wg_name ?_⟩)))
  walk_at "syd"
  refine ws_seq (ws_asg ?_)
  walk_at "sy"
  refine wo_inr (wo_rep rfl rfl ⟨by omega, by omega⟩ (by simp; omega) (wg_name ?_))
  have e0 : (List.replicate ((n : Int) + 1).toNat [PyData.int 1]).flatten = posD (behL n []) := by
    rw [rep1, show ((n : Int) + 1).toNat = n + 1 by omega]
    refine List.ext_getElem (by rw [List.length_replicate, posD_length, behL_len]) fun j h1 h2 => ?_
    rw [List.getElem_replicate]
    have h3 : j < n + 1 := by rwa [List.length_replicate] at h1
    have h4 : (posD (behL n []))[j]? = some (.int 1) := by
      unfold posD behL
      rw [List.getElem?_map, List.getElem?_map, List.getElem?_range h3] <;> rfl
    rw [List.getElem?_eq_getElem h2] at h4
    exact (Option.some.inj h4).symm
  rw [e0]
  walk_at "syd"
  refine ws_seq (ws_for (wi_revL ?_))
  walk_at "sy"
  refine ⟨fun (k : Nat) (sl : List SD) (cl : List Cell) => sl = [.dat (.list (posD l)), .dat (.int (n : Int)), .own 0, .dat (.list (posD (behL n (l.reverse.take k).reverse))), .unk, .unk, .unk] ∧ cl = [.lst (waysD (waysL n (l.reverse.take k).reverse)).reverse], ⟨rfl, rfl⟩, fun k d sl' cl' hd hI hc => ?_, fun sl' cl' hI hc => ?_⟩
  · obtain ⟨rfl, rfl⟩ := hI
    have er : (posD l).reverse = posD l.reverse := by unfold posD; rw [List.map_reverse]
    rw [er] at hd
    obtain ⟨hk, rfl⟩ := posD_get hd
    have es : (l.reverse.take (k + 1)).reverse = l.reverse[k] :: (l.reverse.take k).reverse := by
      rw [List.take_succ_eq_append_getElem hk, List.reverse_append] <;> rfl
    have hcl : (waysD (waysL n (l.reverse.take k).reverse)).reverse.length ≤ 1000 := by
      rw [List.length_reverse]
      unfold waysD
      rw [List.length_map, waysL_len, List.length_reverse, List.length_take]
      rw [List.length_reverse] at hk ⊢
      omega
    generalize l.reverse[k] = i at es hd
    generalize (l.reverse.take k).reverse = S at es hcl ⊢
    have hbl : (posD (behL n S)).length = n + 1 := by rw [posD_length, behL_len]
    refine wg_name ?_
    walk_at "syd"
    refine ws_seq ?_
    walk_at "sy"
    refine lc_map (wyF n (behL n S) i) (wi_rng1 ?_)
    walk_at "sy"
    rw [Int.toNat_natCast]
    refine ⟨by rw [rngD_len]; omega, gk_name (by simp), fun j d hd => ?_, ?_⟩
    · obtain ⟨hj, rfl⟩ := rngD_get hd
      have e1 : (0 : Int) + (j : Int) = (j : Int) := by omega
      have e2 : (j : Int) + 1 = ((j + 1 : Nat) : Int) := by omega
      have hat : atI (posD (behL n S)) ((j + 1 : Nat) : Int) = some (.int (((behL n S).getD (j + 1) 0 : Nat) : Int)) := posD_at (by rw [behL_len]; omega)
      rw [e1]
      dsimp only [wipeS]
      walk_at "sy"
      refine iteD (fun h => ?_) (fun h => ?_)
      · walk_at "sy"
        show some (PyData.int (if i < (j : Int).toNat then (((behL n S).getD ((j : Int).toNat + 1) 0 : Nat) : Int) else 0)) = _
        rw [Int.toNat_natCast, if_pos (by omega)]
      · walk_at "sy"
        show some (PyData.int (if i < (j : Int).toNat then (((behL n S).getD ((j : Int).toNat + 1) 0 : Nat) : Int) else 0)) = _
        rw [Int.toNat_natCast, if_neg (by omega)]
    · rw [wyF_eq]
      refine wg_name ?_
      walk_at "syd"
      walk_at "sy"
      refine ⟨_, call_X ((List.range n).map (wayF n i S)) rfl (by rw [List.length_map, List.length_range]; omega) fun d hd => ?_⟩
      subst hd
      walk_at "sy"
      rw [suf_ways]
      refine Sy.turn_q (sl4 := [.dat (.list (posD l)), .dat (.int (n : Int)), .own 0, .dat (.list (posD (behL n (i :: S)))), .unk, .unk, .unk]) ⟨by rw [es], ?_⟩ (by walk_at "wkl") (by walk_at "lowl")
      rw [es]
      show [Cell.lst ((waysD (waysL n S)).reverse ++ [PyData.list (posD (List.map (wayF n i S) (List.range n)))])] = [Cell.lst (waysD (List.map (wayF n i S) (List.range n) :: waysL n S)).reverse]
      unfold waysD
      rw [List.map_cons, List.reverse_cons]
  · obtain ⟨rfl, rfl⟩ := hI
    have e1 : (l.reverse.take (posD l).reverse.length).reverse = l := by
      rw [List.length_reverse, hll, ← List.length_reverse (as := l), List.take_length, List.reverse_reverse]
    rw [e1]
    walk_at "sy"
    rw [List.reverse_reverse]
    exact q
end
end Kp
end

section
-- conditions of operations on ints
local macro_rules | `(tactic| walk_at "syc") => `(tactic| first
  | exact Sy.cpow (by decide) (by decide)
  | exact Sy.mul_l (by omega) (by omega)
  | exact Sy.mul_r (by omega) (by omega)
  | exact Sy.fdiv_ok (by omega) (by omega)
  | ((show (0 : Int) < _); first | omega | (simp only [Sy.pow12, Sy.pow18, Sy.pow29, Sy.pow38, Sy.pow39, Sy.pow40]; omega)))
-- one step of the symbolic run
local macro_rules | `(tactic| walk_at "sy1") => `(tactic| first
  | with_reducible refine' Sy.ws_seq ?_
  | (with_reducible refine' Sy.ws_setI ?_)
  | (with_reducible refine' Sy.ws_asg ?_)
  | with_reducible refine' Sy.ws_ret (Sy.wp_lstO ?_)
  | with_reducible refine' Sy.ws_ret ?_
  | with_reducible refine' Sy.ws_if ?_
  | with_reducible refine' Sy.ws_drop ?_
  | with_reducible refine' Sy.ws_next ?_
  | with_reducible refine' Sy.ws_par ?_
  | with_reducible refine' Sy.wp_app ?_
  | with_reducible refine' Sy.ws_setI ?_
  | with_reducible refine' Sy.ws_dput ?_
  | with_reducible refine' Sy.wp_dget1 ?_
  | with_reducible refine' Sy.wp_dnotin ?_
  | ((with_reducible refine' Sy.wp_var ?h1 ?h2 ?_); (case h1 => rfl); (case h2 => (intro z; cases z)))
  | ((with_reducible refine' Sy.wp_c ?h1 ?_); (case h1 => rfl))
  | with_reducible refine' Sy.isi_int ?_
  | with_reducible refine' Sy.isi_bool ?_
  | with_reducible refine' Sy.isi_str ?_
  | with_reducible refine' Sy.isi_list ?_
  | with_reducible refine' Sy.isi_tuple ?_
  | with_reducible refine' Sy.isi_seq ?_
  | with_reducible refine' Sy.wp_op ?_
  | with_reducible refine' Sy.wp_neg ?_
  | with_reducible refine' Sy.wp_test ?_
  | with_reducible refine' Sy.wp_testB ?_
  | with_reducible refine' Sy.wp_and ?_
  | with_reducible refine' Sy.wp_or ?_
  | with_reducible refine' Sy.wp_not ?_
  | with_reducible refine' Sy.wp_if ?_
  | with_reducible refine' Sy.wp_andV ?_
  | with_reducible refine' Sy.wp_orV ?_
  | with_reducible refine' Sy.wp_notV ?_
  | with_reducible refine' Sy.wp_chain ?_
  | with_reducible refine' Sy.wp_cb ?_
  | with_reducible refine' Sy.wp_callE ?_
  | with_reducible refine' Sy.wp_callX0 ?_
  | (with_reducible refine' Sy.wp_ext ?_)
  | with_reducible refine' Sy.wp_tup ?_
  | with_reducible refine' Sy.wp_lst ?_
  | with_reducible refine' Sy.wp_sl ?_
  | with_reducible refine' Sy.wp_rev ?_
  | with_reducible refine' Sy.wp_join ?_
  | with_reducible refine' Sy.wo_none ?_
  | with_reducible refine' Sy.wo_some ?_
  | with_reducible refine' Sy.wa_nil ?_
  | with_reducible refine' Sy.wa_cons ?_
  | with_reducible refine' Sy.wp_yes ?_
  | with_reducible refine' Sy.wg_name ?_
  | with_reducible refine' Sy.wgs_nil ?_
  | with_reducible refine' Sy.wgs_cons ?_
  | (refine' Sy.wg_tup rfl rfl ?_)
  | (refine' Sy.wo_inl (Sy.wo_I0 rfl rfl rfl ?_))
  | (refine' Sy.wo_I0 rfl rfl rfl ?_)
  | (refine' Sy.wo_sign rfl rfl ?_)
  | (refine' Sy.wo_inl (Sy.wo_I rfl rfl ?h1 rfl ?_); (case h1 => walk_at "syc"))
  | (refine' Sy.wo_I rfl rfl ?h1 rfl ?_; (case h1 => walk_at "syc"))
  | (refine' Sy.wo_isN ?h1 rfl ?_; (case h1 => (intro z; cases z)))
  | (refine' Sy.wo_notN ?h1 rfl ?_; (case h1 => (intro z; cases z)))
  | (refine' Sy.wo_eq rfl rfl rfl ?_)
  | (refine' Sy.wo_inl (Sy.wo_eq rfl rfl rfl ?_))
  | (refine' Sy.wo_ne rfl rfl rfl ?_)
  | (refine' Sy.wo_inl (Sy.wo_ne rfl rfl rfl ?_))
  | (refine' Sy.wo_ixL rfl rfl ?h1 ?_; (case h1 => first | rfl | assumption))
  | (refine' Sy.wo_ixT rfl rfl ?h1 ?_; (case h1 => first | rfl | assumption))
  | (refine' Sy.wc_int1 rfl ?_)
  | (refine' Sy.wc_abs rfl ?_)
  | (refine' Sy.wc_max2 rfl rfl ?_)
  | (refine' Sy.wc_min2 rfl rfl ?_)
  | (refine' Sy.wc_len rfl ?_)
  | (refine' Sy.wc_lenS rfl ?h1 ?_; (case h1 => omega))
  | (refine' Sy.wc_list rfl ?_)
  | (refine' Sy.wc_listT rfl ?_)
  | (refine' Sy.wc_tuple rfl ?_)
  | ((with_reducible refine' And.intro ?h1 ?_); (case h1 => first | (with_reducible rfl) | omega | decide | (simp only [List.length_cons, List.length_nil]; omega)))
  | ((with_reducible show @ite Prop (true = true) _ _ _); refine' Sy.iteT0 ?_)
  | ((with_reducible show @ite Prop (false = true) _ _ _); refine' Sy.iteF0 ?_)
  | ((with_reducible show @ite Prop ((!true) = true) _ _ _); refine' Sy.iteNT ?_)
  | ((with_reducible show @ite Prop (@decide _ _ = true) _ _ _); (refine' Sy.iteDT ?h1 ?_); (case h1 => first | omega | rfl | (intro z; cases z)))
  | ((with_reducible show @ite Prop (@decide _ _ = true) _ _ _); (refine' Sy.iteDF ?h1 ?_); (case h1 => first | omega | rfl | (intro z; cases z)))
  | ((with_reducible show @ite Prop ((!@decide _ _) = true) _ _ _); (refine' Sy.iteND ?h1 ?_); (case h1 => first | omega | rfl | (intro z; cases z)))
  | ((with_reducible show @ite Prop ((!@decide _ _) = true) _ _ _); (refine' Sy.iteNDF ?h1 ?_); (case h1 => first | omega | rfl | (intro z; cases z)))
  | ((with_reducible show @ite Prop ((!false) = true) _ _ _); refine' Sy.iteNF ?_)
  | (with_reducible refine' Sy.ws_try ?_)
  | (with_reducible refine' Sy.wsx_drop (Sy.wx_call (Sy.wax_of ?_)))
  | (with_reducible refine' Sy.wsx_asg (Sy.wx_call (Sy.wax_of ?_)))
  | (with_reducible refine' Sy.wsx_ret (Sy.wx_call (Sy.wax_of ?_)))
  | (with_reducible refine' Sy.wsx_of ?_)
  | (refine ⟨_, rfl, ⟨_, rfl⟩, ?_⟩)
  | (refine ⟨_, rfl, ?_⟩)
  | (refine ⟨_, _, rfl, rfl, ?_⟩)
  | (refine ⟨_, _, rfl, ?_⟩)
  | ((refine' Sy.iteNo ?h1 ?_); (case h1 => (intro z; cases z)))
  | ((refine' Sy.iteYes ?h1 ?_); (case h1 => rfl)))
-- many steps
local macro_rules | `(tactic| walk_at "syd") => `(tactic| try dsimp only [List.set, List.length_cons, List.length_nil, Nat.reduceAdd, Sy.isNon, List.cons_append, List.nil_append, List.map, Bool.not_true, Bool.not_false, Sy.Ty.isInt, Sy.Ty.isBool, Sy.Ty.isStr, Sy.Ty.isList, Sy.Ty.isTuple, Sy.Ty.isSeq])
local macro_rules | `(tactic| walk_at "sy") => `(tactic| repeat ((walk_at "sy1"); (walk_at "syd")))
-- the start of a body
local macro_rules | `(tactic| walk_at "sy0") => `(tactic| dsimp only [L2.cxOf, List.length_cons, List.length_nil, Nat.reduceAdd, Nat.reduceSub, List.replicate, List.cons_append, List.nil_append])
-- a turn's end: the slots and the cells are said by the invariant
local macro_rules | `(tactic| walk_at "wkl") => `(tactic| repeat' first | exact trivial | refine ⟨.inl rfl, ?_⟩ | refine ⟨.inr rfl, ?_⟩)
local macro_rules | `(tactic| walk_at "lowl") => `(tactic| repeat' first | exact trivial | refine ⟨by omega, ?_⟩)
local macro_rules | `(tactic| walk_at "turn") => `(tactic| refine Sy.turn_q ⟨rfl, rfl⟩ (by walk_at "wkl") (by walk_at "lowl"))

namespace Kp
open PySem PySem.Spec L2 Sy
section
variable {Pg : Program} {w : World} {K : PySem.W.Frag} {mg : Str → Option Value} {base : Heap}
def isLg (rs : List Row) : Prop := rs.length ≤ 999 ∧ ∀ r ∈ rs, Key1 r.1
abbrev lfL (rs : List Row) : List Nat := byN rs.length (nxt rs)
theorem lfL_fit (rs : List Row) : fitE rs.length (lfL rs) ((lfL rs).map fun i => (nxt rs i).getD 0) 0 := fit_byN (nxt_ok rs)
theorem lfL_nodup (rs : List Row) : (lfL rs).Nodup := byN_nodup (nxt_ok rs)
theorem lfL_len (rs : List Row) : (lfL rs).length ≤ rs.length := by
  have := fitE_room (lfL_fit rs) (Nat.zero_le _)
  omega
def pr_alike_count : Pr := prX (ι := List Row) (fun rs => [rowsD rs]) isLg fun rs d => d = .int (behF rs.length (lfL rs) 0 : Int)
theorem ok_alike_count (T : Txt K mg) : FnOk Pg w K mg base CX0 4 T.f_alike_count T.d_alike_count ["log"] (spS K pr_alike_count) := by
  refine ok_of _ T.F_alike_count sc_alike_count (hlenX fun _ => rfl) (fun cdv A outer s H E hr => ⟨_, (pss_cons (ps_expr (pe_call (ok_check_log T) (hr.mono (by decide)) (by rfl) T.g_check_log T.F_check_log.kp T.B_check_log .nil pass0 (pa_cons (pv 0) pa_nil))) 
    (pss_cons (ps_set (i := 1) sc_alike_count.nd rfl (.inl rfl) (pe_call (ok_ways_by_end T) (hr.mono (by decide)) (by rfl) T.g_ways_by_end T.F_ways_by_end.kp T.B_ways_by_end .nil pass0 (pa_cons (pe_call (ok_by_next T) (hr.mono (by decide)) (by rfl) T.g_by_next T.F_by_next.kp T.B_by_next .nil pass0 (pa_cons (pv 0) pa_nil)) (pa_cons (pe_callB call_len (by rfl) T.z_len (by decide +kernel) (pa_cons (pv 0) pa_nil)) pa_nil)))) 
    (pss_one (ps_ret (pe_ifExp (pt_truth (pv 1) (fun _ => rfl)) (pe_callB (cr_sum rfl) (by rfl) T.z_sum (by decide +kernel) (pa_cons (pe_ix ix_seq (pv 1) pe_int (fun _ _ => rfl)) pa_nil)) pe_int))))), ?_⟩)
  walk_at "sy0"
  try dsimp only [N_alike_count, List.length_cons, List.length_nil, Nat.reduceAdd, Nat.reduceSub, List.replicate, List.cons_append, List.nil_append]
  rintro as cl Φ ⟨rs, rfl, rfl, ⟨hz, hk⟩, q⟩
  have q := q _ rfl
  have hn : (rs.map rowD).length = rs.length := List.length_map _
  have hl := lfL_len rs
  dsimp only [List.map]
  walk_at "sy"
  refine ⟨_, call_dat rfl ⟨rs, rfl, by omega, hk, rfl⟩ ?_⟩
  refine ws_seq (ws_asg (wp_callE (wa_cons (wp_frz (wp_callE ?_)))))
  walk_at "sy"
  refine ⟨_, call_own rfl ⟨rs, rfl, by omega, rfl⟩ ⟨_, _, rfl, rfl, ?_⟩⟩
  dsimp only [rowsD]
  walk_at "sy"
  rw [hn]
  refine ⟨_, call_X (rs.length, lfL rs) rfl ⟨by omega, by omega⟩ fun d hd => ?_⟩
  subst hd
  walk_at "sy"
  generalize lfL rs = L at q hl ⊢
  cases L with
  | nil =>
    refine wp_truL ?_
    walk_at "sy"
    exact q
  | cons i t =>
    have hat : atI (waysD (waysL rs.length (i :: t))) 0 = some (.list (posD ((List.range rs.length).map (wayF rs.length i t)))) := atI_nat (j := 0) rfl
    refine wp_truL ?_
    walk_at "sy"
    refine wc_sumI (ns := ((List.range rs.length).map (wayF rs.length i t)).map fun (k : Nat) => (k : Int)) (by show some (posD _) = _; unfold posD; rw [List.map_map, List.map_map, List.map_map] <;> rfl) ?_
    have e : (((List.range rs.length).map (wayF rs.length i t)).map fun (k : Nat) => (k : Int)).sum = ((behF rs.length (i :: t) 0 : Nat) : Int) := by
      have hs : ∀ ks : List Nat, (ks.map fun (k : Nat) => (k : Int)).sum = ((ks.sum : Nat) : Int) := fun ks => by
        induction ks with
        | nil => rfl
        | cons a ks ih => rw [List.map_cons, List.sum_cons, ih, List.sum_cons, Int.natCast_add]
      rw [hs, ← nth_sum (low := 0), List.drop_zero]
    rw [e]
    exact q
end
end Kp
end

section
-- conditions of operations on ints
local macro_rules | `(tactic| walk_at "syc") => `(tactic| first
  | exact Sy.cpow (by decide) (by decide)
  | exact Sy.mul_l (by omega) (by omega)
  | exact Sy.mul_r (by omega) (by omega)
  | exact Sy.fdiv_ok (by omega) (by omega)
  | ((show (0 : Int) < _); first | omega | (simp only [Sy.pow12, Sy.pow18, Sy.pow29, Sy.pow38, Sy.pow39, Sy.pow40]; omega)))
-- one step of the symbolic run
local macro_rules | `(tactic| walk_at "sy1") => `(tactic| first
  | with_reducible refine' Sy.ws_seq ?_
  | (with_reducible refine' Sy.ws_setI ?_)
  | (with_reducible refine' Sy.ws_asg ?_)
  | with_reducible refine' Sy.ws_ret (Sy.wp_lstO ?_)
  | with_reducible refine' Sy.ws_ret ?_
  | with_reducible refine' Sy.ws_if ?_
  | with_reducible refine' Sy.ws_drop ?_
  | with_reducible refine' Sy.ws_next ?_
  | with_reducible refine' Sy.ws_par ?_
  | with_reducible refine' Sy.wp_app ?_
  | with_reducible refine' Sy.ws_setI ?_
  | with_reducible refine' Sy.ws_dput ?_
  | with_reducible refine' Sy.wp_dget1 ?_
  | with_reducible refine' Sy.wp_dnotin ?_
  | ((with_reducible refine' Sy.wp_var ?h1 ?h2 ?_); (case h1 => rfl); (case h2 => (intro z; cases z)))
  | ((with_reducible refine' Sy.wp_c ?h1 ?_); (case h1 => rfl))
  | with_reducible refine' Sy.isi_int ?_
  | with_reducible refine' Sy.isi_bool ?_
  | with_reducible refine' Sy.isi_str ?_
  | with_reducible refine' Sy.isi_list ?_
  | with_reducible refine' Sy.isi_tuple ?_
  | with_reducible refine' Sy.isi_seq ?_
  | with_reducible refine' Sy.wp_op ?_
  | with_reducible refine' Sy.wp_neg ?_
  | with_reducible refine' Sy.wp_test ?_
  | with_reducible refine' Sy.wp_testB ?_
  | with_reducible refine' Sy.wp_and ?_
  | with_reducible refine' Sy.wp_or ?_
  | with_reducible refine' Sy.wp_not ?_
  | with_reducible refine' Sy.wp_if ?_
  | with_reducible refine' Sy.wp_andV ?_
  | with_reducible refine' Sy.wp_orV ?_
  | with_reducible refine' Sy.wp_notV ?_
  | with_reducible refine' Sy.wp_chain ?_
  | with_reducible refine' Sy.wp_cb ?_
  | with_reducible refine' Sy.wp_callE ?_
  | with_reducible refine' Sy.wp_callX0 ?_
  | (with_reducible refine' Sy.wp_ext ?_)
  | with_reducible refine' Sy.wp_tup ?_
  | with_reducible refine' Sy.wp_lst ?_
  | with_reducible refine' Sy.wp_sl ?_
  | with_reducible refine' Sy.wp_rev ?_
  | with_reducible refine' Sy.wp_join ?_
  | with_reducible refine' Sy.wo_none ?_
  | with_reducible refine' Sy.wo_some ?_
  | with_reducible refine' Sy.wa_nil ?_
  | with_reducible refine' Sy.wa_cons ?_
  | with_reducible refine' Sy.wp_yes ?_
  | with_reducible refine' Sy.wg_name ?_
  | with_reducible refine' Sy.wgs_nil ?_
  | with_reducible refine' Sy.wgs_cons ?_
  | (refine' Sy.wg_tup rfl rfl ?_)
  | (refine' Sy.wo_inl (Sy.wo_I0 rfl rfl rfl ?_))
  | (refine' Sy.wo_I0 rfl rfl rfl ?_)
  | (refine' Sy.wo_sign rfl rfl ?_)
  | (refine' Sy.wo_inl (Sy.wo_I rfl rfl ?h1 rfl ?_); (case h1 => walk_at "syc"))
  | (refine' Sy.wo_I rfl rfl ?h1 rfl ?_; (case h1 => walk_at "syc"))
  | (refine' Sy.wo_isN ?h1 rfl ?_; (case h1 => (intro z; cases z)))
  | (refine' Sy.wo_notN ?h1 rfl ?_; (case h1 => (intro z; cases z)))
  | (refine' Sy.wo_eq rfl rfl rfl ?_)
  | (refine' Sy.wo_inl (Sy.wo_eq rfl rfl rfl ?_))
  | (refine' Sy.wo_ne rfl rfl rfl ?_)
  | (refine' Sy.wo_inl (Sy.wo_ne rfl rfl rfl ?_))
  | (refine' Sy.wo_ixL rfl rfl ?h1 ?_; (case h1 => first | rfl | assumption))
  | (refine' Sy.wo_ixT rfl rfl ?h1 ?_; (case h1 => first | rfl | assumption))
  | (refine' Sy.wc_int1 rfl ?_)
  | (refine' Sy.wc_abs rfl ?_)
  | (refine' Sy.wc_max2 rfl rfl ?_)
  | (refine' Sy.wc_min2 rfl rfl ?_)
  | (refine' Sy.wc_len rfl ?_)
  | (refine' Sy.wc_lenS rfl ?h1 ?_; (case h1 => omega))
  | (refine' Sy.wc_list rfl ?_)
  | (refine' Sy.wc_listT rfl ?_)
  | (refine' Sy.wc_tuple rfl ?_)
  | ((with_reducible refine' And.intro ?h1 ?_); (case h1 => first | (with_reducible rfl) | omega | decide | (simp only [List.length_cons, List.length_nil]; omega)))
  | ((with_reducible show @ite Prop (true = true) _ _ _); refine' Sy.iteT0 ?_)
  | ((with_reducible show @ite Prop (false = true) _ _ _); refine' Sy.iteF0 ?_)
  | ((with_reducible show @ite Prop ((!true) = true) _ _ _); refine' Sy.iteNT ?_)
  | ((with_reducible show @ite Prop (@decide _ _ = true) _ _ _); (refine' Sy.iteDT ?h1 ?_); (case h1 => first | omega | rfl | (intro z; cases z)))
  | ((with_reducible show @ite Prop (@decide _ _ = true) _ _ _); (refine' Sy.iteDF ?h1 ?_); (case h1 => first | omega | rfl | (intro z; cases z)))
  | ((with_reducible show @ite Prop ((!@decide _ _) = true) _ _ _); (refine' Sy.iteND ?h1 ?_); (case h1 => first | omega | rfl | (intro z; cases z)))
  | ((with_reducible show @ite Prop ((!@decide _ _) = true) _ _ _); (refine' Sy.iteNDF ?h1 ?_); (case h1 => first | omega | rfl | (intro z; cases z)))
  | ((with_reducible show @ite Prop ((!false) = true) _ _ _); refine' Sy.iteNF ?_)
  | (with_reducible refine' Sy.ws_try ?_)
  | (with_reducible refine' Sy.wsx_drop (Sy.wx_call (Sy.wax_of ?_)))
  | (with_reducible refine' Sy.wsx_asg (Sy.wx_call (Sy.wax_of ?_)))
  | (with_reducible refine' Sy.wsx_ret (Sy.wx_call (Sy.wax_of ?_)))
  | (with_reducible refine' Sy.wsx_of ?_)
  | (refine ⟨_, rfl, ⟨_, rfl⟩, ?_⟩)
  | (refine ⟨_, rfl, ?_⟩)
  | (refine ⟨_, _, rfl, rfl, ?_⟩)
  | (refine ⟨_, _, rfl, ?_⟩)
  | ((refine' Sy.iteNo ?h1 ?_); (case h1 => (intro z; cases z)))
  | ((refine' Sy.iteYes ?h1 ?_); (case h1 => rfl)))
-- many steps
local macro_rules | `(tactic| walk_at "syd") => `(tactic| try dsimp only [List.set, List.length_cons, List.length_nil, Nat.reduceAdd, Sy.isNon, List.cons_append, List.nil_append, List.map, Bool.not_true, Bool.not_false, Sy.Ty.isInt, Sy.Ty.isBool, Sy.Ty.isStr, Sy.Ty.isList, Sy.Ty.isTuple, Sy.Ty.isSeq])
local macro_rules | `(tactic| walk_at "sy") => `(tactic| repeat ((walk_at "sy1"); (walk_at "syd")))
-- the start of a body
local macro_rules | `(tactic| walk_at "sy0") => `(tactic| dsimp only [L2.cxOf, List.length_cons, List.length_nil, Nat.reduceAdd, Nat.reduceSub, List.replicate, List.cons_append, List.nil_append])
-- a turn's end: the slots and the cells are said by the invariant
local macro_rules | `(tactic| walk_at "wkl") => `(tactic| repeat' first | exact trivial | refine ⟨.inl rfl, ?_⟩ | refine ⟨.inr rfl, ?_⟩)
local macro_rules | `(tactic| walk_at "lowl") => `(tactic| repeat' first | exact trivial | refine ⟨by omega, ?_⟩)
local macro_rules | `(tactic| walk_at "turn") => `(tactic| refine Sy.turn_q ⟨rfl, rfl⟩ (by walk_at "wkl") (by walk_at "lowl"))

namespace Kp
open PySem PySem.Spec L2 Sy
section
variable {Pg : Program} {w : World} {K : PySem.W.Frag} {mg : Str → Option Value} {base : Heap}
def pr_pattern_with : Pr := prXO (ι := Nat × List Nat × List Nat) (fun (n, l, es) => [.list (posD l), .list (posD es), .int (n : Int)]) (fun (n, l, es) => n ≤ 1000 ∧ fitE n l es 0 ∧ l.Nodup) fun (n, l, es) d => d = posD (patN n (zpF l es))
theorem ok_pattern_with (T : Txt K mg) : FnOk Pg w K mg base CX0 3 T.f_pattern_with T.d_pattern_with ["order", "right_ends", "many"] (spS K pr_pattern_with) := by
  refine ok_of _ T.F_pattern_with sc_pattern_with (hlenXO fun _ => rfl) (fun cdv A outer s H E hr => ⟨_, (pss_cons (ps_set (i := 3) sc_pattern_with.nd rfl (.inl rfl) (pe_op (OpR.or op_mul op_rep) (pe_lst (pa_cons pe_non pa_nil)) (pv 2))) 
    (pss_cons (ps_for PassesOwn.never rfl (pi_zip rfl T.z_zip (pa_cons (pv 0) (pa_cons (pv 1) pa_nil))) (pg_tup rfl (pgs_cons (pg_name (i := 4) sc_pattern_with.nd rfl (.inl rfl)) (pgs_cons (pg_name (i := 5) sc_pattern_with.nd rfl (.inl rfl)) pgs_nil)))
    (pss_one (ps_asg (pv 5) (pg_sub (pv 3) (pv 4) set_list)))) 
    (pss_one (ps_ret (pe_call (ok_pattern_of T) (hr.mono (by decide)) (by rfl) T.g_pattern_of T.F_pattern_of.kp T.B_pattern_of .nil pass0 (pa_cons (pv 3) pa_nil)))))), ?_⟩)
  walk_at "sy0"
  try dsimp only [N_pattern_with, List.length_cons, List.length_nil, Nat.reduceAdd, Nat.reduceSub, List.replicate, List.cons_append, List.nil_append]
  rintro as cl Φ ⟨⟨n, l, es⟩, rfl, rfl, ⟨hn, hf, hd0⟩, q⟩
  have q := q _ rfl
  have hll := fitE_len hf
  have hroom := fitE_room hf (Nat.zero_le _)
  dsimp only [List.map]
  refine ws_seq (ws_asg ?_)
  walk_at "sy"
  refine wo_inr (wo_repO rfl rfl ⟨by omega, by omega⟩ (by simp; omega) (wg_name ?_))
  walk_at "syd"
  refine ws_seq (ws_for (wi_zip ?_))
  walk_at "sy"
  refine ⟨fun (i : Nat) (sl : List SD) (cl : List Cell) => sl = [.dat (.list (posD l)), .dat (.list (posD es)), .dat (.int (n : Int)), .own 0, .unk, .unk] ∧ cl = [.lst (optsD n (zpF (l.take i) (es.take i)))], ⟨rfl, ?_⟩, fun i d sl' cl' hd hI hc => ?_, fun sl' cl' hI hc => ?_⟩
  · rw [rep1]
    have e : List.replicate ((n : Nat) : Int).toNat PyData.none = optsD n (zpF [] []) := by
      rw [Int.toNat_natCast]
      unfold optsD
      refine List.ext_getElem (by simp) fun j h1 h2 => ?_
      rw [List.getElem_replicate, List.getElem_map] <;> rfl
    rw [e] <;> rfl
  · obtain ⟨rfl, rfl⟩ := hI
    obtain ⟨x, y, hx, hy, rfl⟩ := zipD_get hd
    obtain ⟨h1, rfl⟩ := posD_get hx
    obtain ⟨h2, rfl⟩ := posD_get hy
    have es1 : zpF (l.take (i + 1)) (es.take (i + 1)) = fun k => if k = l[i] then some es[i] else zpF (l.take i) (es.take i) k := by
      funext k
      rw [List.take_succ_eq_append_getElem h1, List.take_succ_eq_append_getElem h2]
      refine zpF_snoc (by rw [List.length_take, List.length_take]; omega) (fun z => ?_) k
      obtain ⟨a, ha, e⟩ := List.mem_take_iff_getElem.mp z
      have : a = i := nodup_inj hd0 (by omega) h1 e
      omega
    have hli : l[i] < n := by
      have := fitE_at hf (List.getElem?_eq_getElem h1) (List.getElem?_eq_getElem h2)
      omega
    generalize l[i] = p at es1 hli hd hx ⊢
    generalize es[i] = e at es1 hd hy ⊢
    generalize zpF (l.take i) (es.take i) = g at es1 ⊢
    walk_at "sy"
    refine ⟨_, 0, _, (p : Int), p, rfl, rfl, rfl, rfl, Evl.ixN_nat (by rw [optsD_len]; exact hli), ?_⟩
    refine Sy.turn_q ⟨rfl, ?_⟩ (by walk_at "wkl") (by walk_at "lowl")
    rw [es1]
    show [Cell.lst ((optsD n g).set p (.int (e : Int)))] = _
    congr 2
    unfold optsD
    refine set_range fun j _ => ?_
    show optD (if j = p then some e else g j) = _
    by_cases q : j = p
    · rw [if_pos q, if_pos q] <;> rfl
    · rw [if_neg q, if_neg q]
  · obtain ⟨rfl, rfl⟩ := hI
    have e1 : l.take (zipD (posD l) (posD es)).length = l := List.take_of_length_le (by rw [zipD_len, posD_length, posD_length]; omega)
    have e2 : es.take (zipD (posD l) (posD es)).length = es := List.take_of_length_le (by rw [zipD_len, posD_length, posD_length]; omega)
    rw [e1, e2]
    have hk := zp_ok hf hd0
    refine ws_ret (wp_callE (wa_cons (wp_frz (wp_var rfl (fun z => by cases z) ⟨0, _, rfl, rfl, ?_⟩))))
    walk_at "sy"
    refine ⟨_, call_own rfl ⟨n, zpF l es, rfl, by omega, fun i e _ h => hk.1 i e h, rfl⟩ ⟨_, rfl, q⟩⟩
end
end Kp
end

section
-- conditions of operations on ints
local macro_rules | `(tactic| walk_at "syc") => `(tactic| first
  | exact Sy.cpow (by decide) (by decide)
  | exact Sy.mul_l (by omega) (by omega)
  | exact Sy.mul_r (by omega) (by omega)
  | exact Sy.fdiv_ok (by omega) (by omega)
  | ((show (0 : Int) < _); first | omega | (simp only [Sy.pow12, Sy.pow18, Sy.pow29, Sy.pow38, Sy.pow39, Sy.pow40]; omega)))
-- one step of the symbolic run
local macro_rules | `(tactic| walk_at "sy1") => `(tactic| first
  | with_reducible refine' Sy.ws_seq ?_
  | (with_reducible refine' Sy.ws_setI ?_)
  | (with_reducible refine' Sy.ws_asg ?_)
  | with_reducible refine' Sy.ws_ret (Sy.wp_lstO ?_)
  | with_reducible refine' Sy.ws_ret ?_
  | with_reducible refine' Sy.ws_if ?_
  | with_reducible refine' Sy.ws_drop ?_
  | with_reducible refine' Sy.ws_next ?_
  | with_reducible refine' Sy.ws_par ?_
  | with_reducible refine' Sy.wp_app ?_
  | with_reducible refine' Sy.ws_setI ?_
  | with_reducible refine' Sy.ws_dput ?_
  | with_reducible refine' Sy.wp_dget1 ?_
  | with_reducible refine' Sy.wp_dnotin ?_
  | ((with_reducible refine' Sy.wp_var ?h1 ?h2 ?_); (case h1 => rfl); (case h2 => (intro z; cases z)))
  | ((with_reducible refine' Sy.wp_c ?h1 ?_); (case h1 => rfl))
  | with_reducible refine' Sy.isi_int ?_
  | with_reducible refine' Sy.isi_bool ?_
  | with_reducible refine' Sy.isi_str ?_
  | with_reducible refine' Sy.isi_list ?_
  | with_reducible refine' Sy.isi_tuple ?_
  | with_reducible refine' Sy.isi_seq ?_
  | with_reducible refine' Sy.wp_op ?_
  | with_reducible refine' Sy.wp_neg ?_
  | with_reducible refine' Sy.wp_test ?_
  | with_reducible refine' Sy.wp_testB ?_
  | with_reducible refine' Sy.wp_and ?_
  | with_reducible refine' Sy.wp_or ?_
  | with_reducible refine' Sy.wp_not ?_
  | with_reducible refine' Sy.wp_if ?_
  | with_reducible refine' Sy.wp_andV ?_
  | with_reducible refine' Sy.wp_orV ?_
  | with_reducible refine' Sy.wp_notV ?_
  | with_reducible refine' Sy.wp_chain ?_
  | with_reducible refine' Sy.wp_cb ?_
  | with_reducible refine' Sy.wp_callE ?_
  | with_reducible refine' Sy.wp_callX0 ?_
  | (with_reducible refine' Sy.wp_ext ?_)
  | with_reducible refine' Sy.wp_tup ?_
  | with_reducible refine' Sy.wp_lst ?_
  | with_reducible refine' Sy.wp_sl ?_
  | with_reducible refine' Sy.wp_rev ?_
  | with_reducible refine' Sy.wp_join ?_
  | with_reducible refine' Sy.wo_none ?_
  | with_reducible refine' Sy.wo_some ?_
  | with_reducible refine' Sy.wa_nil ?_
  | with_reducible refine' Sy.wa_cons ?_
  | with_reducible refine' Sy.wp_yes ?_
  | with_reducible refine' Sy.wg_name ?_
  | with_reducible refine' Sy.wgs_nil ?_
  | with_reducible refine' Sy.wgs_cons ?_
  | (refine' Sy.wg_tup rfl rfl ?_)
  | (refine' Sy.wo_inl (Sy.wo_I0 rfl rfl rfl ?_))
  | (refine' Sy.wo_I0 rfl rfl rfl ?_)
  | (refine' Sy.wo_sign rfl rfl ?_)
  | (refine' Sy.wo_inl (Sy.wo_I rfl rfl ?h1 rfl ?_); (case h1 => walk_at "syc"))
  | (refine' Sy.wo_I rfl rfl ?h1 rfl ?_; (case h1 => walk_at "syc"))
  | (refine' Sy.wo_isN ?h1 rfl ?_; (case h1 => (intro z; cases z)))
  | (refine' Sy.wo_notN ?h1 rfl ?_; (case h1 => (intro z; cases z)))
  | (refine' Sy.wo_eq rfl rfl rfl ?_)
  | (refine' Sy.wo_inl (Sy.wo_eq rfl rfl rfl ?_))
  | (refine' Sy.wo_ne rfl rfl rfl ?_)
  | (refine' Sy.wo_inl (Sy.wo_ne rfl rfl rfl ?_))
  | (refine' Sy.wo_ixL rfl rfl ?h1 ?_; (case h1 => first | rfl | assumption))
  | (refine' Sy.wo_ixT rfl rfl ?h1 ?_; (case h1 => first | rfl | assumption))
  | (refine' Sy.wc_int1 rfl ?_)
  | (refine' Sy.wc_abs rfl ?_)
  | (refine' Sy.wc_max2 rfl rfl ?_)
  | (refine' Sy.wc_min2 rfl rfl ?_)
  | (refine' Sy.wc_len rfl ?_)
  | (refine' Sy.wc_lenS rfl ?h1 ?_; (case h1 => omega))
  | (refine' Sy.wc_list rfl ?_)
  | (refine' Sy.wc_listT rfl ?_)
  | (refine' Sy.wc_tuple rfl ?_)
  | ((with_reducible refine' And.intro ?h1 ?_); (case h1 => first | (with_reducible rfl) | omega | decide | (simp only [List.length_cons, List.length_nil]; omega)))
  | ((with_reducible show @ite Prop (true = true) _ _ _); refine' Sy.iteT0 ?_)
  | ((with_reducible show @ite Prop (false = true) _ _ _); refine' Sy.iteF0 ?_)
  | ((with_reducible show @ite Prop ((!true) = true) _ _ _); refine' Sy.iteNT ?_)
  | ((with_reducible show @ite Prop (@decide _ _ = true) _ _ _); (refine' Sy.iteDT ?h1 ?_); (case h1 => first | omega | rfl | (intro z; cases z)))
  | ((with_reducible show @ite Prop (@decide _ _ = true) _ _ _); (refine' Sy.iteDF ?h1 ?_); (case h1 => first | omega | rfl | (intro z; cases z)))
  | ((with_reducible show @ite Prop ((!@decide _ _) = true) _ _ _); (refine' Sy.iteND ?h1 ?_); (case h1 => first | omega | rfl | (intro z; cases z)))
  | ((with_reducible show @ite Prop ((!@decide _ _) = true) _ _ _); (refine' Sy.iteNDF ?h1 ?_); (case h1 => first | omega | rfl | (intro z; cases z)))
  | ((with_reducible show @ite Prop ((!false) = true) _ _ _); refine' Sy.iteNF ?_)
  | (with_reducible refine' Sy.ws_try ?_)
  | (with_reducible refine' Sy.wsx_drop (Sy.wx_call (Sy.wax_of ?_)))
  | (with_reducible refine' Sy.wsx_asg (Sy.wx_call (Sy.wax_of ?_)))
  | (with_reducible refine' Sy.wsx_ret (Sy.wx_call (Sy.wax_of ?_)))
  | (with_reducible refine' Sy.wsx_of ?_)
  | (refine ⟨_, rfl, ⟨_, rfl⟩, ?_⟩)
  | (refine ⟨_, rfl, ?_⟩)
  | (refine ⟨_, _, rfl, rfl, ?_⟩)
  | (refine ⟨_, _, rfl, ?_⟩)
  | ((refine' Sy.iteNo ?h1 ?_); (case h1 => (intro z; cases z)))
  | ((refine' Sy.iteYes ?h1 ?_); (case h1 => rfl)))
-- many steps
local macro_rules | `(tactic| walk_at "syd") => `(tactic| try dsimp only [List.set, List.length_cons, List.length_nil, Nat.reduceAdd, Sy.isNon, List.cons_append, List.nil_append, List.map, Bool.not_true, Bool.not_false, Sy.Ty.isInt, Sy.Ty.isBool, Sy.Ty.isStr, Sy.Ty.isList, Sy.Ty.isTuple, Sy.Ty.isSeq])
local macro_rules | `(tactic| walk_at "sy") => `(tactic| repeat ((walk_at "sy1"); (walk_at "syd")))
-- the start of a body
local macro_rules | `(tactic| walk_at "sy0") => `(tactic| dsimp only [L2.cxOf, List.length_cons, List.length_nil, Nat.reduceAdd, Nat.reduceSub, List.replicate, List.cons_append, List.nil_append])
-- a turn's end: the slots and the cells are said by the invariant
local macro_rules | `(tactic| walk_at "wkl") => `(tactic| repeat' first | exact trivial | refine ⟨.inl rfl, ?_⟩ | refine ⟨.inr rfl, ?_⟩)
local macro_rules | `(tactic| walk_at "lowl") => `(tactic| repeat' first | exact trivial | refine ⟨by omega, ?_⟩)
local macro_rules | `(tactic| walk_at "turn") => `(tactic| refine Sy.turn_q ⟨rfl, rfl⟩ (by walk_at "wkl") (by walk_at "lowl"))

namespace Kp
open PySem PySem.Spec L2 Sy
section
variable {Pg : Program} {w : World} {K : PySem.W.Frag} {mg : Str → Option Value} {base : Heap}
def pr_near : Pr := prXO (ι := List Row) (fun rs => [rowsD rs]) isLg fun rs es => es = posD (patN rs.length (zpF (lfL rs) (nearE 0 (lfL rs))))
theorem near_snoc {i : Nat} : ∀ {l : List Nat} {s : Nat}, nearE s (l ++ [i]) = nearE s l ++ [max ((s :: nearE s l).getLast (List.cons_ne_nil _ _)) i + 1]
  | [], s => rfl
  | a :: t, s => by
    show (max s a + 1) :: nearE (max s a + 1) (t ++ [i]) = (max s a + 1) :: (nearE (max s a + 1) t ++ [max ((s :: (max s a + 1) :: nearE (max s a + 1) t).getLast (List.cons_ne_nil _ _)) i + 1])
    rw [near_snoc, List.getLast_cons_cons]
theorem ok_near (T : Txt K mg) : FnOk Pg w K mg base CX0 4 T.f_near T.d_near ["log"] (spS K pr_near) := by
  refine ok_of _ T.F_near sc_near (hlenXO fun _ => rfl) (fun cdv A outer s H E hr => ⟨_, (pss_cons (ps_expr (pe_call (ok_check_log T) (hr.mono (by decide)) (by rfl) T.g_check_log T.F_check_log.kp T.B_check_log .nil pass0 (pa_cons (pv 0) pa_nil))) 
    (pss_cons (ps_set (i := 1) sc_near.nd rfl (.inl rfl) (pe_call (ok_by_next T) (hr.mono (by decide)) (by rfl) T.g_by_next T.F_by_next.kp T.B_by_next .nil pass0 (pa_cons (pv 0) pa_nil))) 
    (pss_cons (ps_set (i := 2) sc_near.nd rfl (.inl rfl) (pe_lst pa_nil)) 
    (pss_cons (ps_set (i := 3) sc_near.nd rfl (.inl rfl) pe_int) 
    (pss_cons (ps_for PassesOwn.never rfl (pi_list (pv 1)) (pg_name (i := 4) sc_near.nd rfl (.inl rfl))
    (pss_cons (ps_set (i := 3) sc_near.nd rfl (.inl rfl) (pe_op (OpR.or op_add (OpR.or op_cat op_add_str)) (pe_callB (call_max2 rfl) (by rfl) T.z_max (by decide +kernel) (pa_cons (pv 3) (pa_cons (pv 4) pa_nil))) pe_int)) 
    (pss_one (ps_expr (pe_bm PySem.F.plainAttrs_list PySem.F.slot_list_append PySem.F.type_list_append mt_append (pv 2) (pa_cons (pv 3) pa_nil)))))) 
    (pss_one (ps_ret (pe_call (ok_pattern_with T) (hr.mono (by decide)) (by rfl) T.g_pattern_with T.F_pattern_with.kp T.B_pattern_with .nil pass0 (pa_cons (pv 1) (pa_cons (pv 2) (pa_cons (pe_callB call_len (by rfl) T.z_len (by decide +kernel) (pa_cons (pv 0) pa_nil)) pa_nil))))))))))), ?_⟩)
  walk_at "sy0"
  try dsimp only [N_near, List.length_cons, List.length_nil, Nat.reduceAdd, Nat.reduceSub, List.replicate, List.cons_append, List.nil_append]
  rintro as cl Φ ⟨rs, rfl, rfl, ⟨hz, hk⟩, q⟩
  have q := q _ rfl
  have hn : (rs.map rowD).length = rs.length := List.length_map _
  have hl := lfL_len rs
  have hf := near_fit0 (lfL_fit rs)
  dsimp only [List.map]
  walk_at "sy"
  refine ⟨_, call_dat rfl ⟨rs, rfl, by omega, hk, rfl⟩ ?_⟩
  refine ws_seq (ws_asg (wp_frz (wp_callE ?_)))
  walk_at "sy"
  refine ⟨_, call_own rfl ⟨rs, rfl, by omega, rfl⟩ ⟨_, _, rfl, rfl, wg_name ?_⟩⟩
  have hnd := lfL_nodup rs
  unfold lfL at q hl hf hnd
  generalize byN rs.length (nxt rs) = L at q hl hf hnd ⊢
  have hll := posD_length (ps := L)
  walk_at "syd"
  refine ws_seq (ws_asg (wp_lstO (wa_nil ⟨[], rfl, by simp, wg_name ?_⟩)))
  walk_at "syd"
  refine ws_seq ?_
  walk_at "sy"
  refine ws_for (wi_list ?_)
  walk_at "sy"
  refine ⟨fun (k : Nat) (sl : List SD) (cl : List Cell) => sl = [.dat (rowsD rs), .dat (.list (posD L)), .own 1, .dat (.int (((0 :: nearE 0 (L.take k)).getLast (List.cons_ne_nil _ _) : Nat) : Int)), .unk] ∧ cl = [.dead, .lst (posD (nearE 0 (L.take k)))], ⟨rfl, rfl⟩, fun k d sl' cl' hd hI hc => ?_, fun sl' cl' hI hc => ?_⟩
  · obtain ⟨rfl, rfl⟩ := hI
    obtain ⟨hk, rfl⟩ := posD_get hd
    have hls : ∀ (xs : List Nat) (v : Nat) (h : 0 :: (xs ++ [v]) ≠ []), (0 :: (xs ++ [v])).getLast h = v := fun xs v h => List.getLast_concat (l := 0 :: xs)
    have es : nearE 0 (L.take (k + 1)) = nearE 0 (L.take k) ++ [max ((0 :: nearE 0 (L.take k)).getLast (List.cons_ne_nil _ _)) L[k] + 1] := by
      rw [List.take_succ_eq_append_getElem hk, near_snoc]
    have hlen : (posD (nearE 0 (L.take k))).length = k := by
      have hne : ∀ (l : List Nat) (s : Nat), (nearE s l).length = l.length := fun l => by
        induction l with
        | nil => intro s; rfl
        | cons a l ih => intro s; show (nearE _ l).length + 1 = _; rw [ih] <;> rfl
      rw [posD_length, hne, List.length_take]
      omega
    have hlk : k ≤ 1000 := by omega
    generalize (0 :: nearE 0 (L.take k)).getLast (List.cons_ne_nil _ _) = e at es ⊢
    generalize L[k] = i at es hd ⊢
    have em : (if (i : Int) > (e : Int) then (i : Int) else (e : Int)) + 1 = ((max e i + 1 : Nat) : Int) := by
      split <;> omega
    walk_at "sy"
    rw [em]
    walk_at "sy"
    refine Sy.turn_q (sl4 := [.dat (rowsD rs), .dat (.list (posD L)), .own 1, .dat (.int ((max e i + 1 : Nat) : Int)), .unk]) ⟨?_, ?_⟩ (by walk_at "wkl") (by walk_at "lowl")
    · congr 5
      have : ∀ (ys : List Nat) (h : ys ≠ []), ys = 0 :: (nearE 0 (L.take k) ++ [max e i + 1]) → max e i + 1 = ys.getLast h := by
        rintro _ h rfl
        exact (hls _ _ h).symm
      rw [← this _ _ (by rw [es])] <;> rfl
    · rw [es, posD_snoc] <;> rfl
  · obtain ⟨rfl, rfl⟩ := hI
    rw [hll, List.take_length]
    refine ws_ret (wp_callE (wa_cons (wp_var rfl (fun z => by cases z) (wa_cons (wp_frz (wp_var rfl (fun z => by cases z) ⟨1, _, rfl, rfl, ?_⟩))))))
    walk_at "sy"
    rw [hn]
    exact ⟨_, call_XO (rs.length, L, nearE 0 L) rfl ⟨by omega, hf, hnd⟩ fun es he => ⟨_, rfl, by rw [he]; exact q⟩⟩
end
end Kp
end

section
-- conditions of operations on ints
local macro_rules | `(tactic| walk_at "syc") => `(tactic| first
  | exact Sy.cpow (by decide) (by decide)
  | exact Sy.mul_l (by omega) (by omega)
  | exact Sy.mul_r (by omega) (by omega)
  | exact Sy.fdiv_ok (by omega) (by omega)
  | ((show (0 : Int) < _); first | omega | (simp only [Sy.pow12, Sy.pow18, Sy.pow29, Sy.pow38, Sy.pow39, Sy.pow40]; omega)))
-- one step of the symbolic run
local macro_rules | `(tactic| walk_at "sy1") => `(tactic| first
  | with_reducible refine' Sy.ws_seq ?_
  | (with_reducible refine' Sy.ws_setI ?_)
  | (with_reducible refine' Sy.ws_asg ?_)
  | with_reducible refine' Sy.ws_ret (Sy.wp_lstO ?_)
  | with_reducible refine' Sy.ws_ret ?_
  | with_reducible refine' Sy.ws_if ?_
  | with_reducible refine' Sy.ws_drop ?_
  | with_reducible refine' Sy.ws_next ?_
  | with_reducible refine' Sy.ws_par ?_
  | with_reducible refine' Sy.wp_app ?_
  | with_reducible refine' Sy.ws_setI ?_
  | with_reducible refine' Sy.ws_dput ?_
  | with_reducible refine' Sy.wp_dget1 ?_
  | with_reducible refine' Sy.wp_dnotin ?_
  | ((with_reducible refine' Sy.wp_var ?h1 ?h2 ?_); (case h1 => rfl); (case h2 => (intro z; cases z)))
  | ((with_reducible refine' Sy.wp_c ?h1 ?_); (case h1 => rfl))
  | with_reducible refine' Sy.isi_int ?_
  | with_reducible refine' Sy.isi_bool ?_
  | with_reducible refine' Sy.isi_str ?_
  | with_reducible refine' Sy.isi_list ?_
  | with_reducible refine' Sy.isi_tuple ?_
  | with_reducible refine' Sy.isi_seq ?_
  | with_reducible refine' Sy.wp_op ?_
  | with_reducible refine' Sy.wp_neg ?_
  | with_reducible refine' Sy.wp_test ?_
  | with_reducible refine' Sy.wp_testB ?_
  | with_reducible refine' Sy.wp_and ?_
  | with_reducible refine' Sy.wp_or ?_
  | with_reducible refine' Sy.wp_not ?_
  | with_reducible refine' Sy.wp_if ?_
  | with_reducible refine' Sy.wp_andV ?_
  | with_reducible refine' Sy.wp_orV ?_
  | with_reducible refine' Sy.wp_notV ?_
  | with_reducible refine' Sy.wp_chain ?_
  | with_reducible refine' Sy.wp_cb ?_
  | with_reducible refine' Sy.wp_callE ?_
  | with_reducible refine' Sy.wp_callX0 ?_
  | (with_reducible refine' Sy.wp_ext ?_)
  | with_reducible refine' Sy.wp_tup ?_
  | with_reducible refine' Sy.wp_lst ?_
  | with_reducible refine' Sy.wp_sl ?_
  | with_reducible refine' Sy.wp_rev ?_
  | with_reducible refine' Sy.wp_join ?_
  | with_reducible refine' Sy.wo_none ?_
  | with_reducible refine' Sy.wo_some ?_
  | with_reducible refine' Sy.wa_nil ?_
  | with_reducible refine' Sy.wa_cons ?_
  | with_reducible refine' Sy.wp_yes ?_
  | with_reducible refine' Sy.wg_name ?_
  | with_reducible refine' Sy.wgs_nil ?_
  | with_reducible refine' Sy.wgs_cons ?_
  | (refine' Sy.wg_tup rfl rfl ?_)
  | (refine' Sy.wo_inl (Sy.wo_I0 rfl rfl rfl ?_))
  | (refine' Sy.wo_I0 rfl rfl rfl ?_)
  | (refine' Sy.wo_sign rfl rfl ?_)
  | (refine' Sy.wo_inl (Sy.wo_I rfl rfl ?h1 rfl ?_); (case h1 => walk_at "syc"))
  | (refine' Sy.wo_I rfl rfl ?h1 rfl ?_; (case h1 => walk_at "syc"))
  | (refine' Sy.wo_isN ?h1 rfl ?_; (case h1 => (intro z; cases z)))
  | (refine' Sy.wo_notN ?h1 rfl ?_; (case h1 => (intro z; cases z)))
  | (refine' Sy.wo_eq rfl rfl rfl ?_)
  | (refine' Sy.wo_inl (Sy.wo_eq rfl rfl rfl ?_))
  | (refine' Sy.wo_ne rfl rfl rfl ?_)
  | (refine' Sy.wo_inl (Sy.wo_ne rfl rfl rfl ?_))
  | (refine' Sy.wo_ixL rfl rfl ?h1 ?_; (case h1 => first | rfl | assumption))
  | (refine' Sy.wo_ixT rfl rfl ?h1 ?_; (case h1 => first | rfl | assumption))
  | (refine' Sy.wc_int1 rfl ?_)
  | (refine' Sy.wc_abs rfl ?_)
  | (refine' Sy.wc_max2 rfl rfl ?_)
  | (refine' Sy.wc_min2 rfl rfl ?_)
  | (refine' Sy.wc_len rfl ?_)
  | (refine' Sy.wc_lenS rfl ?h1 ?_; (case h1 => omega))
  | (refine' Sy.wc_list rfl ?_)
  | (refine' Sy.wc_listT rfl ?_)
  | (refine' Sy.wc_tuple rfl ?_)
  | ((with_reducible refine' And.intro ?h1 ?_); (case h1 => first | (with_reducible rfl) | omega | decide | (simp only [List.length_cons, List.length_nil]; omega)))
  | ((with_reducible show @ite Prop (true = true) _ _ _); refine' Sy.iteT0 ?_)
  | ((with_reducible show @ite Prop (false = true) _ _ _); refine' Sy.iteF0 ?_)
  | ((with_reducible show @ite Prop ((!true) = true) _ _ _); refine' Sy.iteNT ?_)
  | ((with_reducible show @ite Prop (@decide _ _ = true) _ _ _); (refine' Sy.iteDT ?h1 ?_); (case h1 => first | omega | rfl | (intro z; cases z)))
  | ((with_reducible show @ite Prop (@decide _ _ = true) _ _ _); (refine' Sy.iteDF ?h1 ?_); (case h1 => first | omega | rfl | (intro z; cases z)))
  | ((with_reducible show @ite Prop ((!@decide _ _) = true) _ _ _); (refine' Sy.iteND ?h1 ?_); (case h1 => first | omega | rfl | (intro z; cases z)))
  | ((with_reducible show @ite Prop ((!@decide _ _) = true) _ _ _); (refine' Sy.iteNDF ?h1 ?_); (case h1 => first | omega | rfl | (intro z; cases z)))
  | ((with_reducible show @ite Prop ((!false) = true) _ _ _); refine' Sy.iteNF ?_)
  | (with_reducible refine' Sy.ws_try ?_)
  | (with_reducible refine' Sy.wsx_drop (Sy.wx_call (Sy.wax_of ?_)))
  | (with_reducible refine' Sy.wsx_asg (Sy.wx_call (Sy.wax_of ?_)))
  | (with_reducible refine' Sy.wsx_ret (Sy.wx_call (Sy.wax_of ?_)))
  | (with_reducible refine' Sy.wsx_of ?_)
  | (refine ⟨_, rfl, ⟨_, rfl⟩, ?_⟩)
  | (refine ⟨_, rfl, ?_⟩)
  | (refine ⟨_, _, rfl, rfl, ?_⟩)
  | (refine ⟨_, _, rfl, ?_⟩)
  | ((refine' Sy.iteNo ?h1 ?_); (case h1 => (intro z; cases z)))
  | ((refine' Sy.iteYes ?h1 ?_); (case h1 => rfl)))
-- many steps
local macro_rules | `(tactic| walk_at "syd") => `(tactic| try dsimp only [List.set, List.length_cons, List.length_nil, Nat.reduceAdd, Sy.isNon, List.cons_append, List.nil_append, List.map, Bool.not_true, Bool.not_false, Sy.Ty.isInt, Sy.Ty.isBool, Sy.Ty.isStr, Sy.Ty.isList, Sy.Ty.isTuple, Sy.Ty.isSeq])
local macro_rules | `(tactic| walk_at "sy") => `(tactic| repeat ((walk_at "sy1"); (walk_at "syd")))
-- the start of a body
local macro_rules | `(tactic| walk_at "sy0") => `(tactic| dsimp only [L2.cxOf, List.length_cons, List.length_nil, Nat.reduceAdd, Nat.reduceSub, List.replicate, List.cons_append, List.nil_append])
-- a turn's end: the slots and the cells are said by the invariant
local macro_rules | `(tactic| walk_at "wkl") => `(tactic| repeat' first | exact trivial | refine ⟨.inl rfl, ?_⟩ | refine ⟨.inr rfl, ?_⟩)
local macro_rules | `(tactic| walk_at "lowl") => `(tactic| repeat' first | exact trivial | refine ⟨by omega, ?_⟩)
local macro_rules | `(tactic| walk_at "turn") => `(tactic| refine Sy.turn_q ⟨rfl, rfl⟩ (by walk_at "wkl") (by walk_at "lowl"))

namespace Kp
open PySem PySem.Spec L2 Sy
section
variable {Pg : Program} {w : World} {K : PySem.W.Frag} {mg : Str → Option Value} {base : Heap}
def pr_fore : Pr := prXO (ι := List Row) (fun rs => [rowsD rs]) isLg fun rs es => es = posD (patN rs.length (zpF (lfL rs) (forE rs.length (lfL rs))))
theorem ok_fore (T : Txt K mg) : FnOk Pg w K mg base CX0 4 T.f_fore T.d_fore ["log"] (spS K pr_fore) := by
  refine ok_of _ T.F_fore sc_fore (hlenXO fun _ => rfl) (fun cdv A outer s H E hr => ⟨_, (pss_cons (ps_expr (pe_call (ok_check_log T) (hr.mono (by decide)) (by rfl) T.g_check_log T.F_check_log.kp T.B_check_log .nil pass0 (pa_cons (pv 0) pa_nil))) 
    (pss_cons (ps_set (i := 1) sc_fore.nd rfl (.inl rfl) (pe_call (ok_by_next T) (hr.mono (by decide)) (by rfl) T.g_by_next T.F_by_next.kp T.B_by_next .nil pass0 (pa_cons (pv 0) pa_nil))) 
    (pss_cons (ps_set (i := 2) sc_fore.nd rfl (.inl rfl) (pe_op op_sub (pe_callB call_len (by rfl) T.z_len (by decide +kernel) (pa_cons (pv 0) pa_nil)) (pe_callB call_len (by rfl) T.z_len (by decide +kernel) (pa_cons (pv 1) pa_nil)))) 
    (pss_one (ps_ret (pe_call (ok_pattern_with T) (hr.mono (by decide)) (by rfl) T.g_pattern_with T.F_pattern_with.kp T.B_pattern_with .nil pass0 (pa_cons (pv 1) (pa_cons (pe_listRg rfl (by rfl) T.z_list (prg_2 rfl T.z_range (pv 2) (pe_callB call_len (by rfl) T.z_len (by decide +kernel) (pa_cons (pv 0) pa_nil)))) (pa_cons (pe_callB call_len (by rfl) T.z_len (by decide +kernel) (pa_cons (pv 0) pa_nil)) pa_nil))))))))), ?_⟩)
  walk_at "sy0"
  try dsimp only [N_fore, List.length_cons, List.length_nil, Nat.reduceAdd, Nat.reduceSub, List.replicate, List.cons_append, List.nil_append]
  rintro as cl Φ ⟨rs, rfl, rfl, ⟨hz, hk⟩, q⟩
  have q := q _ rfl
  have hn : (rs.map rowD).length = rs.length := List.length_map _
  have hl := lfL_len rs
  have hf := for_fit (low := 0) (lfL_fit rs) (Nat.zero_le _)
  have he := for_eq hl
  dsimp only [List.map]
  walk_at "sy"
  refine ⟨_, call_dat rfl ⟨rs, rfl, by omega, hk, rfl⟩ ?_⟩
  refine ws_seq (ws_asg (wp_frz (wp_callE ?_)))
  walk_at "sy"
  refine ⟨_, call_own rfl ⟨rs, rfl, by omega, rfl⟩ ⟨_, _, rfl, rfl, wg_name ?_⟩⟩
  have hnd := lfL_nodup rs
  unfold lfL at q hl hf hnd he
  generalize byN rs.length (nxt rs) = L at q hl hf hnd he ⊢
  have hll := posD_length (ps := L)
  walk_at "syd"
  refine ws_seq ?_
  walk_at "sy"
  refine wp_lstRg2 ?_
  walk_at "sy"
  have e1 : ((List.map rowD rs).length : Int) - ((posD L).length : Int) = ((rs.length - L.length : Nat) : Int) := by omega
  rw [e1, hn]
  have e2 : rngD ((rs.length - L.length : Nat) : Int) ((rs.length : Int) - ((rs.length - L.length : Nat) : Int)).toNat = posD (forE rs.length L) := by
    have : ((rs.length : Int) - ((rs.length - L.length : Nat) : Int)).toNat = L.length := by omega
    rw [this, he]
    unfold rngD posD
    rw [List.map_map]
    refine List.map_congr_left fun k _ => ?_
    show PyData.int (((rs.length - L.length : Nat) : Int) + (k : Int)) = PyData.int ((rs.length - L.length + k : Nat) : Int)
    rw [Int.natCast_add] <;> rfl
  rw [e2]
  walk_at "sy"
  try rw [hn]
  exact ⟨_, call_XO (rs.length, L, forE rs.length L) rfl ⟨by omega, hf, hnd⟩ fun es he => ⟨_, rfl, by rw [he]; exact q⟩⟩
end
end Kp
end

section
-- conditions of operations on ints
local macro_rules | `(tactic| walk_at "syc") => `(tactic| first
  | exact Sy.cpow (by decide) (by decide)
  | exact Sy.mul_l (by omega) (by omega)
  | exact Sy.mul_r (by omega) (by omega)
  | exact Sy.fdiv_ok (by omega) (by omega)
  | ((show (0 : Int) < _); first | omega | (simp only [Sy.pow12, Sy.pow18, Sy.pow29, Sy.pow38, Sy.pow39, Sy.pow40]; omega)))
-- one step of the symbolic run
local macro_rules | `(tactic| walk_at "sy1") => `(tactic| first
  | with_reducible refine' Sy.ws_seq ?_
  | (with_reducible refine' Sy.ws_setI ?_)
  | (with_reducible refine' Sy.ws_asg ?_)
  | with_reducible refine' Sy.ws_ret (Sy.wp_lstO ?_)
  | with_reducible refine' Sy.ws_ret ?_
  | with_reducible refine' Sy.ws_if ?_
  | with_reducible refine' Sy.ws_drop ?_
  | with_reducible refine' Sy.ws_next ?_
  | with_reducible refine' Sy.ws_par ?_
  | with_reducible refine' Sy.wp_app ?_
  | with_reducible refine' Sy.ws_setI ?_
  | with_reducible refine' Sy.ws_dput ?_
  | with_reducible refine' Sy.wp_dget1 ?_
  | with_reducible refine' Sy.wp_dnotin ?_
  | ((with_reducible refine' Sy.wp_var ?h1 ?h2 ?_); (case h1 => rfl); (case h2 => (intro z; cases z)))
  | ((with_reducible refine' Sy.wp_c ?h1 ?_); (case h1 => rfl))
  | with_reducible refine' Sy.isi_int ?_
  | with_reducible refine' Sy.isi_bool ?_
  | with_reducible refine' Sy.isi_str ?_
  | with_reducible refine' Sy.isi_list ?_
  | with_reducible refine' Sy.isi_tuple ?_
  | with_reducible refine' Sy.isi_seq ?_
  | with_reducible refine' Sy.wp_op ?_
  | with_reducible refine' Sy.wp_neg ?_
  | with_reducible refine' Sy.wp_test ?_
  | with_reducible refine' Sy.wp_testB ?_
  | with_reducible refine' Sy.wp_and ?_
  | with_reducible refine' Sy.wp_or ?_
  | with_reducible refine' Sy.wp_not ?_
  | with_reducible refine' Sy.wp_if ?_
  | with_reducible refine' Sy.wp_andV ?_
  | with_reducible refine' Sy.wp_orV ?_
  | with_reducible refine' Sy.wp_notV ?_
  | with_reducible refine' Sy.wp_chain ?_
  | with_reducible refine' Sy.wp_cb ?_
  | with_reducible refine' Sy.wp_callE ?_
  | with_reducible refine' Sy.wp_callX0 ?_
  | (with_reducible refine' Sy.wp_ext ?_)
  | with_reducible refine' Sy.wp_tup ?_
  | with_reducible refine' Sy.wp_lst ?_
  | with_reducible refine' Sy.wp_sl ?_
  | with_reducible refine' Sy.wp_rev ?_
  | with_reducible refine' Sy.wp_join ?_
  | with_reducible refine' Sy.wo_none ?_
  | with_reducible refine' Sy.wo_some ?_
  | with_reducible refine' Sy.wa_nil ?_
  | with_reducible refine' Sy.wa_cons ?_
  | with_reducible refine' Sy.wp_yes ?_
  | with_reducible refine' Sy.wg_name ?_
  | with_reducible refine' Sy.wgs_nil ?_
  | with_reducible refine' Sy.wgs_cons ?_
  | (refine' Sy.wg_tup rfl rfl ?_)
  | (refine' Sy.wo_inl (Sy.wo_I0 rfl rfl rfl ?_))
  | (refine' Sy.wo_I0 rfl rfl rfl ?_)
  | (refine' Sy.wo_sign rfl rfl ?_)
  | (refine' Sy.wo_inl (Sy.wo_I rfl rfl ?h1 rfl ?_); (case h1 => walk_at "syc"))
  | (refine' Sy.wo_I rfl rfl ?h1 rfl ?_; (case h1 => walk_at "syc"))
  | (refine' Sy.wo_isN ?h1 rfl ?_; (case h1 => (intro z; cases z)))
  | (refine' Sy.wo_notN ?h1 rfl ?_; (case h1 => (intro z; cases z)))
  | (refine' Sy.wo_eq rfl rfl rfl ?_)
  | (refine' Sy.wo_inl (Sy.wo_eq rfl rfl rfl ?_))
  | (refine' Sy.wo_ne rfl rfl rfl ?_)
  | (refine' Sy.wo_inl (Sy.wo_ne rfl rfl rfl ?_))
  | (refine' Sy.wo_ixL rfl rfl ?h1 ?_; (case h1 => first | rfl | assumption))
  | (refine' Sy.wo_ixT rfl rfl ?h1 ?_; (case h1 => first | rfl | assumption))
  | (refine' Sy.wc_int1 rfl ?_)
  | (refine' Sy.wc_abs rfl ?_)
  | (refine' Sy.wc_max2 rfl rfl ?_)
  | (refine' Sy.wc_min2 rfl rfl ?_)
  | (refine' Sy.wc_len rfl ?_)
  | (refine' Sy.wc_lenS rfl ?h1 ?_; (case h1 => omega))
  | (refine' Sy.wc_list rfl ?_)
  | (refine' Sy.wc_listT rfl ?_)
  | (refine' Sy.wc_tuple rfl ?_)
  | ((with_reducible refine' And.intro ?h1 ?_); (case h1 => first | (with_reducible rfl) | omega | decide | (simp only [List.length_cons, List.length_nil]; omega)))
  | ((with_reducible show @ite Prop (true = true) _ _ _); refine' Sy.iteT0 ?_)
  | ((with_reducible show @ite Prop (false = true) _ _ _); refine' Sy.iteF0 ?_)
  | ((with_reducible show @ite Prop ((!true) = true) _ _ _); refine' Sy.iteNT ?_)
  | ((with_reducible show @ite Prop (@decide _ _ = true) _ _ _); (refine' Sy.iteDT ?h1 ?_); (case h1 => first | omega | rfl | (intro z; cases z)))
  | ((with_reducible show @ite Prop (@decide _ _ = true) _ _ _); (refine' Sy.iteDF ?h1 ?_); (case h1 => first | omega | rfl | (intro z; cases z)))
  | ((with_reducible show @ite Prop ((!@decide _ _) = true) _ _ _); (refine' Sy.iteND ?h1 ?_); (case h1 => first | omega | rfl | (intro z; cases z)))
  | ((with_reducible show @ite Prop ((!@decide _ _) = true) _ _ _); (refine' Sy.iteNDF ?h1 ?_); (case h1 => first | omega | rfl | (intro z; cases z)))
  | ((with_reducible show @ite Prop ((!false) = true) _ _ _); refine' Sy.iteNF ?_)
  | (with_reducible refine' Sy.ws_try ?_)
  | (with_reducible refine' Sy.wsx_drop (Sy.wx_call (Sy.wax_of ?_)))
  | (with_reducible refine' Sy.wsx_asg (Sy.wx_call (Sy.wax_of ?_)))
  | (with_reducible refine' Sy.wsx_ret (Sy.wx_call (Sy.wax_of ?_)))
  | (with_reducible refine' Sy.wsx_of ?_)
  | (refine ⟨_, rfl, ⟨_, rfl⟩, ?_⟩)
  | (refine ⟨_, rfl, ?_⟩)
  | (refine ⟨_, _, rfl, rfl, ?_⟩)
  | (refine ⟨_, _, rfl, ?_⟩)
  | ((refine' Sy.iteNo ?h1 ?_); (case h1 => (intro z; cases z)))
  | ((refine' Sy.iteYes ?h1 ?_); (case h1 => rfl)))
-- many steps
local macro_rules | `(tactic| walk_at "syd") => `(tactic| try dsimp only [List.set, List.length_cons, List.length_nil, Nat.reduceAdd, Sy.isNon, List.cons_append, List.nil_append, List.map, Bool.not_true, Bool.not_false, Sy.Ty.isInt, Sy.Ty.isBool, Sy.Ty.isStr, Sy.Ty.isList, Sy.Ty.isTuple, Sy.Ty.isSeq])
local macro_rules | `(tactic| walk_at "sy") => `(tactic| repeat ((walk_at "sy1"); (walk_at "syd")))
-- the start of a body
local macro_rules | `(tactic| walk_at "sy0") => `(tactic| dsimp only [L2.cxOf, List.length_cons, List.length_nil, Nat.reduceAdd, Nat.reduceSub, List.replicate, List.cons_append, List.nil_append])
-- a turn's end: the slots and the cells are said by the invariant
local macro_rules | `(tactic| walk_at "wkl") => `(tactic| repeat' first | exact trivial | refine ⟨.inl rfl, ?_⟩ | refine ⟨.inr rfl, ?_⟩)
local macro_rules | `(tactic| walk_at "lowl") => `(tactic| repeat' first | exact trivial | refine ⟨by omega, ?_⟩)
local macro_rules | `(tactic| walk_at "turn") => `(tactic| refine Sy.turn_q ⟨rfl, rfl⟩ (by walk_at "wkl") (by walk_at "lowl"))

namespace Kp
open PySem PySem.Spec L2 Sy
section
variable {Pg : Program} {w : World} {K : PySem.W.Frag} {mg : Str → Option Value} {base : Heap}
def isFromB (l : Int) : PyData → Bool | .int v => decide (l ≤ v) | _ => false
def pr_is_integer_from : Pr := prD fun ds r => ∃ d l, ds = [d, .int l] ∧ ptY d ∧ r = .bool (isFromB l d)
theorem ok_is_integer_from (T : Txt K mg) : FnOk Pg w K mg base CX0 2 T.f_is_integer_from T.d_is_integer_from ["value", "low"] (spS K pr_is_integer_from) := by
  refine ok_of _ T.F_is_integer_from sc_is_integer_from (hlenD fun ds d ⟨_, _, h, _⟩ => dlen h rfl) (fun cdv A outer s H E hr => ⟨_, (pss_one (ps_ret (pe_and (pe_call (ok_is_integer T) (hr.mono (by decide)) (by rfl) T.g_is_integer T.F_is_integer.kp T.B_is_integer .nil pass0 (pa_cons (pv 0) pa_nil)) (pe_one (pe_cmpR op_ge (pv 0) (pv 1) (nomark _)))))), ?_⟩)
  walk_at "sy0"
  try dsimp only [N_is_integer_from, List.length_cons, List.length_nil, Nat.reduceAdd, Nat.reduceSub, List.replicate, List.cons_append, List.nil_append]
  rintro as cl Φ ⟨_, _, rfl, rfl, ⟨d, l, rfl, hd, rfl⟩, q⟩
  dsimp only [List.map]
  walk_at "sy"
  refine ⟨_, call_dat rfl ⟨d, rfl, hd, rfl⟩ ?_⟩
  cases d <;> (walk_at "sy"; exact q)
theorem pow_step (b k : Nat) : ((b ^ k : Nat) : Int) * (b : Int) = ((b ^ (k + 1) : Nat) : Int) := by
  rw [Nat.pow_succ]
  exact (Int.natCast_mul _ _).symm
def pr_power : Pr := prX (ι := Nat × Nat) (fun (b, e) => [.int (b : Int), .int (e : Int)]) (fun (b, e) => b ≤ 1000 ∧ e ≤ 1000) fun (b, e) d => d = .int ((b ^ e : Nat) : Int)
theorem ok_power (T : Txt K mg) : FnOk Pg w K mg base CX0 1 T.f_power T.d_power ["base", "exponent"] (spS K pr_power) := by
  refine ok_of _ T.F_power sc_power (hlenX fun _ => rfl) (fun cdv A outer s H E hr => ⟨_, (pss_cons (ps_set (i := 2) sc_power.nd rfl (.inl rfl) pe_int) 
    (pss_cons (ps_for PassesOwn.never rfl (pi_range1 rfl T.z_range (pa_cons (pv 1) pa_nil)) (pg_name (i := 3) sc_power.nd rfl (.inl rfl))
    (pss_one (ps_set (i := 2) sc_power.nd rfl (.inl rfl) (pe_op (OpR.or op_mul op_rep) (pv 2) (pv 0))))) 
    (pss_one (ps_ret (pv 2))))), ?_⟩)
  walk_at "sy0"
  try dsimp only [N_power, List.length_cons, List.length_nil, Nat.reduceAdd, Nat.reduceSub, List.replicate, List.cons_append, List.nil_append]
  rintro as cl Φ ⟨⟨b, e⟩, rfl, rfl, ⟨hb, he⟩, q⟩
  have q := q _ rfl
  dsimp only [List.map]
  walk_at "sy"
  refine ws_for (wi_rng1 ?_)
  walk_at "sy"
  rw [Int.toNat_natCast]
  refine ⟨fun (k : Nat) (sl : List SD) (cl : List Cell) => sl = [.dat (.int (b : Int)), .dat (.int (e : Int)), .dat (.int ((b ^ k : Nat) : Int)), .unk] ∧ cl = [], ⟨rfl, rfl⟩, fun k d sl' cl' hd hI hl => ?_, fun sl' cl' hI hl => ?_⟩
  · obtain ⟨rfl, rfl⟩ := hI
    obtain ⟨hk, rfl⟩ := rngD_get hd
    refine wg_name ?_
    walk_at "syd"
    refine ws_asg ?_
    walk_at "sy"
    rw [pow_step]
    exact Sy.turn_q (sl4 := [.dat (.int (b : Int)), .dat (.int (e : Int)), .dat (.int ((b ^ (k + 1) : Nat) : Int)), .unk]) ⟨rfl, rfl⟩ (by walk_at "wkl") (by walk_at "lowl")
  · obtain ⟨rfl, rfl⟩ := hI
    rw [rngD_len]
    walk_at "sy"
    exact q
def sumU (n : Nat) : Nat := ((List.range (n + 1)).map fun k => k ^ (n - k)).sum
theorem sum_cast (l : List Nat) : (l.map fun (k : Nat) => (k : Int)).sum = ((l.sum : Nat) : Int) := by
  induction l with
  | nil => rfl
  | cons a l ih => rw [List.map_cons, List.sum_cons, List.sum_cons, ih]; omega
def powF (n : Nat) : PyData → Option PyData | .int k => some (.int ((k.toNat ^ (n - k.toNat) : Nat) : Int)) | _ => none
theorem rng_pos {n : Nat} : rngD 0 n = posD (List.range n) := by
  unfold rngD posD
  refine List.map_congr_left fun k _ => ?_
  rw [Int.zero_add]
theorem fm_pos {f : PyData → Option PyData} {g : Nat → Nat} (h : ∀ k : Nat, f (.int (k : Int)) = some (.int ((g k : Nat) : Int))) : ∀ l : List Nat, (posD l).filterMap f = posD (l.map g)
  | [] => rfl
  | a :: l => by
    show (PyData.int (a : Int) :: posD l).filterMap f = PyData.int ((g a : Nat) : Int) :: posD (l.map g)
    rw [List.filterMap_cons, h a, fm_pos h l]
theorem powF_nat {n : Nat} (k : Nat) : powF n (.int (k : Int)) = some (.int ((k ^ (n - k) : Nat) : Int)) := by
  show some (PyData.int (((k : Int).toNat ^ (n - (k : Int).toNat) : Nat) : Int)) = _
  rw [Int.toNat_natCast]
theorem wc_sumN {sl : List SD} {cl : List Cell} {Φ : SD → List Cell → Prop} {r : SD} {ns : List Nat} (h : seeL cl r = some (posD ns)) (q : Φ (.dat (.int ((ns.sum : Nat) : Int))) cl) : Wc K (rSum K) [r] sl cl Φ :=
  wc_sumI (ns := ns.map fun (k : Nat) => (k : Int)) (by rw [h]; unfold posD; rw [List.map_map] <;> rfl) (by rw [sum_cast]; exact q)
def pr_unlike_count (C_InvalidNumber : Addr) : PrX := prV (ι := PyData) (fun d => [d]) (fun d => ptY d ∧ ∀ i, d = .int i → i ≤ 900) (fun d r => ∀ n : Nat, d = .int (n : Int) → r = .int ((sumU n : Nat) : Int)) fun d => if isFromB 0 d = true then none else some (.ref C_InvalidNumber)
theorem ok_unlike_count (T : Txt K mg) : FnOk Pg w K mg base (L2.CX Pg w) 3 T.f_unlike_count T.d_unlike_count ["records"] (spX K (pr_unlike_count T.C_InvalidNumber)) := by
  refine ok_ofX _ T.F_unlike_count sc_unlike_count (hlenV fun _ => rfl) (fun cdv A outer s H E hr => ⟨_, fun W tk => (pss_cons (ps_if (pt_not (pt_val (pe_call (ok_is_integer_from T) (hr.mono (by decide)) (by rfl) T.g_is_integer_from T.F_is_integer_from.kp T.B_is_integer_from .nil pass0 (pa_cons (pv 0) (pa_cons pe_int pa_nil))))) (pss_one (ps_raise rfl tk (pmk_own PySem.F.excBase_ValueError T.q_InvalidNumber T.g_InvalidNumber T.k_InvalidNumber (raises_own T.s_InvalidNumber T.y_InvalidNumber) (by rfl)))) pss_nil) 
    (pss_one (ps_ret (pe_callB (cr_sum rfl) (by rfl) T.z_sum (by decide +kernel) (pa_cons (pe_lc rfl sc_unlike_count.nd (own := [("keys", 1)]) (pi_range1 rfl T.z_range (pa_cons (pe_op (OpR.or op_add (OpR.or op_cat op_add_str)) (pv 0) pe_int) pa_nil)) (blkOk_by (own := [("keys", 1)]) (N := N_unlike_count) (sc := (defScope s_unlike_count)) (by decide +kernel)) (fun _ _ _ _ _ => (pg_name (i := 1) sc_unlike_count.nd rfl (.inl rfl))) (fun _ _ _ _ _ => pts_nil) (fun _ _ _ _ _ => (pe_call (ok_power T) (hr.mono (by decide)) (by rfl) T.g_power T.F_power.kp T.B_power .nil pass0 (pa_cons (pv 1) (pa_cons (pe_op op_sub (pv 0) (pv 1)) pa_nil))))) pa_nil))))), ?_⟩)
  walk_at "sy0"
  try dsimp only [N_unlike_count, List.length_cons, List.length_nil, Nat.reduceAdd, Nat.reduceSub, List.replicate, List.cons_append, List.nil_append]
  rintro as cl Φ Ξ ⟨d, rfl, rfl, ⟨hd, hz⟩, q, qx⟩
  dsimp only [List.map] at q qx ⊢
  refine wsx_seq (wsx_guard (!isFromB 0 d) ?_ (fun hb => ?_) fun hb => ?_)
  · walk_at "sy"
    refine ⟨_, call_dat rfl ⟨d, 0, rfl, hd, rfl⟩ ?_⟩
    walk_at "sy"
  · have hb' : isFromB 0 d = false := by simpa using hb
    exact qx _ (by rw [if_neg (by rw [hb']; exact Bool.false_ne_true)])
  · have hb' : isFromB 0 d = true := by simpa using hb
    have q := q (if_pos hb')
    obtain ⟨n, rfl⟩ : ∃ n : Nat, d = .int (n : Int) := by
      cases d with
      | int i => exact ⟨i.toNat, by have := of_decide_eq_true hb'; rw [Int.toNat_of_nonneg this]⟩
      | _ => cases hb'
    have hn : n ≤ 900 := by have := hz _ rfl; omega
    refine wsx_of ?_
    walk_at "sy"
    refine lc_map (powF n) (wi_rng1 ?_)
    walk_at "sy"
    rw [show ((n : Int) + 1).toNat = n + 1 by omega]
    refine ⟨by rw [rngD_len]; omega, gk_name (by simp), fun j d hd => ?_, ?_⟩
    · obtain ⟨hj, rfl⟩ := rngD_get hd
      have e1 : (0 : Int) + (j : Int) = (j : Int) := by omega
      rw [e1]
      dsimp only [wipeS]
      walk_at "sy"
      have e2 : (n : Int) - (j : Int) = ((n - j : Nat) : Int) := by omega
      rw [e2]
      refine ⟨_, call_X (j, n - j) rfl ⟨by omega, by omega⟩ fun r hr => ?_⟩
      subst hr
      refine ⟨_, rfl, rfl, ?_⟩
      exact powF_nat j
    · rw [rng_pos, fm_pos powF_nat]
      walk_at "sy"
      refine wc_sumN (by rfl) ?_
      exact q _ fun m hm => by
        have : n = m := by have := PyData.int.inj hm; omega
        subst this
        rfl
end
end Kp
end

section
-- conditions of operations on ints
local macro_rules | `(tactic| walk_at "syc") => `(tactic| first
  | exact Sy.cpow (by decide) (by decide)
  | exact Sy.mul_l (by omega) (by omega)
  | exact Sy.mul_r (by omega) (by omega)
  | exact Sy.fdiv_ok (by omega) (by omega)
  | ((show (0 : Int) < _); first | omega | (simp only [Sy.pow12, Sy.pow18, Sy.pow29, Sy.pow38, Sy.pow39, Sy.pow40]; omega)))
-- one step of the symbolic run
local macro_rules | `(tactic| walk_at "sy1") => `(tactic| first
  | with_reducible refine' Sy.ws_seq ?_
  | (with_reducible refine' Sy.ws_setI ?_)
  | (with_reducible refine' Sy.ws_asg ?_)
  | with_reducible refine' Sy.ws_ret (Sy.wp_lstO ?_)
  | with_reducible refine' Sy.ws_ret ?_
  | with_reducible refine' Sy.ws_if ?_
  | with_reducible refine' Sy.ws_drop ?_
  | with_reducible refine' Sy.ws_next ?_
  | with_reducible refine' Sy.ws_par ?_
  | with_reducible refine' Sy.wp_app ?_
  | with_reducible refine' Sy.ws_setI ?_
  | with_reducible refine' Sy.ws_dput ?_
  | with_reducible refine' Sy.wp_dget1 ?_
  | with_reducible refine' Sy.wp_dnotin ?_
  | ((with_reducible refine' Sy.wp_var ?h1 ?h2 ?_); (case h1 => rfl); (case h2 => (intro z; cases z)))
  | ((with_reducible refine' Sy.wp_c ?h1 ?_); (case h1 => rfl))
  | with_reducible refine' Sy.isi_int ?_
  | with_reducible refine' Sy.isi_bool ?_
  | with_reducible refine' Sy.isi_str ?_
  | with_reducible refine' Sy.isi_list ?_
  | with_reducible refine' Sy.isi_tuple ?_
  | with_reducible refine' Sy.isi_seq ?_
  | with_reducible refine' Sy.wp_op ?_
  | with_reducible refine' Sy.wp_neg ?_
  | with_reducible refine' Sy.wp_test ?_
  | with_reducible refine' Sy.wp_testB ?_
  | with_reducible refine' Sy.wp_and ?_
  | with_reducible refine' Sy.wp_or ?_
  | with_reducible refine' Sy.wp_not ?_
  | with_reducible refine' Sy.wp_if ?_
  | with_reducible refine' Sy.wp_andV ?_
  | with_reducible refine' Sy.wp_orV ?_
  | with_reducible refine' Sy.wp_notV ?_
  | with_reducible refine' Sy.wp_chain ?_
  | with_reducible refine' Sy.wp_cb ?_
  | with_reducible refine' Sy.wp_callE ?_
  | with_reducible refine' Sy.wp_callX0 ?_
  | (with_reducible refine' Sy.wp_ext ?_)
  | with_reducible refine' Sy.wp_tup ?_
  | with_reducible refine' Sy.wp_lst ?_
  | with_reducible refine' Sy.wp_sl ?_
  | with_reducible refine' Sy.wp_rev ?_
  | with_reducible refine' Sy.wp_join ?_
  | with_reducible refine' Sy.wo_none ?_
  | with_reducible refine' Sy.wo_some ?_
  | with_reducible refine' Sy.wa_nil ?_
  | with_reducible refine' Sy.wa_cons ?_
  | with_reducible refine' Sy.wp_yes ?_
  | with_reducible refine' Sy.wg_name ?_
  | with_reducible refine' Sy.wgs_nil ?_
  | with_reducible refine' Sy.wgs_cons ?_
  | (refine' Sy.wg_tup rfl rfl ?_)
  | (refine' Sy.wo_inl (Sy.wo_I0 rfl rfl rfl ?_))
  | (refine' Sy.wo_I0 rfl rfl rfl ?_)
  | (refine' Sy.wo_sign rfl rfl ?_)
  | (refine' Sy.wo_inl (Sy.wo_I rfl rfl ?h1 rfl ?_); (case h1 => walk_at "syc"))
  | (refine' Sy.wo_I rfl rfl ?h1 rfl ?_; (case h1 => walk_at "syc"))
  | (refine' Sy.wo_isN ?h1 rfl ?_; (case h1 => (intro z; cases z)))
  | (refine' Sy.wo_notN ?h1 rfl ?_; (case h1 => (intro z; cases z)))
  | (refine' Sy.wo_eq rfl rfl rfl ?_)
  | (refine' Sy.wo_inl (Sy.wo_eq rfl rfl rfl ?_))
  | (refine' Sy.wo_ne rfl rfl rfl ?_)
  | (refine' Sy.wo_inl (Sy.wo_ne rfl rfl rfl ?_))
  | (refine' Sy.wo_ixL rfl rfl ?h1 ?_; (case h1 => first | rfl | assumption))
  | (refine' Sy.wo_ixT rfl rfl ?h1 ?_; (case h1 => first | rfl | assumption))
  | (refine' Sy.wc_int1 rfl ?_)
  | (refine' Sy.wc_abs rfl ?_)
  | (refine' Sy.wc_max2 rfl rfl ?_)
  | (refine' Sy.wc_min2 rfl rfl ?_)
  | (refine' Sy.wc_len rfl ?_)
  | (refine' Sy.wc_lenS rfl ?h1 ?_; (case h1 => omega))
  | (refine' Sy.wc_list rfl ?_)
  | (refine' Sy.wc_listT rfl ?_)
  | (refine' Sy.wc_tuple rfl ?_)
  | ((with_reducible refine' And.intro ?h1 ?_); (case h1 => first | (with_reducible rfl) | omega | decide | (simp only [List.length_cons, List.length_nil]; omega)))
  | ((with_reducible show @ite Prop (true = true) _ _ _); refine' Sy.iteT0 ?_)
  | ((with_reducible show @ite Prop (false = true) _ _ _); refine' Sy.iteF0 ?_)
  | ((with_reducible show @ite Prop ((!true) = true) _ _ _); refine' Sy.iteNT ?_)
  | ((with_reducible show @ite Prop (@decide _ _ = true) _ _ _); (refine' Sy.iteDT ?h1 ?_); (case h1 => first | omega | rfl | (intro z; cases z)))
  | ((with_reducible show @ite Prop (@decide _ _ = true) _ _ _); (refine' Sy.iteDF ?h1 ?_); (case h1 => first | omega | rfl | (intro z; cases z)))
  | ((with_reducible show @ite Prop ((!@decide _ _) = true) _ _ _); (refine' Sy.iteND ?h1 ?_); (case h1 => first | omega | rfl | (intro z; cases z)))
  | ((with_reducible show @ite Prop ((!@decide _ _) = true) _ _ _); (refine' Sy.iteNDF ?h1 ?_); (case h1 => first | omega | rfl | (intro z; cases z)))
  | ((with_reducible show @ite Prop ((!false) = true) _ _ _); refine' Sy.iteNF ?_)
  | (with_reducible refine' Sy.ws_try ?_)
  | (with_reducible refine' Sy.wsx_drop (Sy.wx_call (Sy.wax_of ?_)))
  | (with_reducible refine' Sy.wsx_asg (Sy.wx_call (Sy.wax_of ?_)))
  | (with_reducible refine' Sy.wsx_ret (Sy.wx_call (Sy.wax_of ?_)))
  | (with_reducible refine' Sy.wsx_of ?_)
  | (refine ⟨_, rfl, ⟨_, rfl⟩, ?_⟩)
  | (refine ⟨_, rfl, ?_⟩)
  | (refine ⟨_, _, rfl, rfl, ?_⟩)
  | (refine ⟨_, _, rfl, ?_⟩)
  | ((refine' Sy.iteNo ?h1 ?_); (case h1 => (intro z; cases z)))
  | ((refine' Sy.iteYes ?h1 ?_); (case h1 => rfl)))
-- many steps
local macro_rules | `(tactic| walk_at "syd") => `(tactic| try dsimp only [List.set, List.length_cons, List.length_nil, Nat.reduceAdd, Sy.isNon, List.cons_append, List.nil_append, List.map, Bool.not_true, Bool.not_false, Sy.Ty.isInt, Sy.Ty.isBool, Sy.Ty.isStr, Sy.Ty.isList, Sy.Ty.isTuple, Sy.Ty.isSeq])
local macro_rules | `(tactic| walk_at "sy") => `(tactic| repeat ((walk_at "sy1"); (walk_at "syd")))
-- the start of a body
local macro_rules | `(tactic| walk_at "sy0") => `(tactic| dsimp only [L2.cxOf, List.length_cons, List.length_nil, Nat.reduceAdd, Nat.reduceSub, List.replicate, List.cons_append, List.nil_append])
-- a turn's end: the slots and the cells are said by the invariant
local macro_rules | `(tactic| walk_at "wkl") => `(tactic| repeat' first | exact trivial | refine ⟨.inl rfl, ?_⟩ | refine ⟨.inr rfl, ?_⟩)
local macro_rules | `(tactic| walk_at "lowl") => `(tactic| repeat' first | exact trivial | refine ⟨by omega, ?_⟩)
local macro_rules | `(tactic| walk_at "turn") => `(tactic| refine Sy.turn_q ⟨rfl, rfl⟩ (by walk_at "wkl") (by walk_at "lowl"))

namespace Kp
open PySem PySem.Spec L2 Sy
section
variable {Pg : Program} {w : World} {K : PySem.W.Frag} {mg : Str → Option Value} {base : Heap}
def lstsD (xs : List (List Nat)) : List PyData := xs.map fun l => .list (posD l)
theorem lsts_ok (a : List (List Nat)) : okD 2 (.list (lstsD a)) := okD.list fun x hx => by
  obtain ⟨l, _, rfl⟩ := List.mem_map.mp hx
  exact posD_ok
def mx1 (one : List Nat) : Nat := one.foldr (fun x m => max (x + 1) m) 0
def growL (one : List Nat) : List (List Nat) := (List.range (mx1 one + 1)).map fun x => one ++ [x]
def shapesL : Nat → List (List Nat)
  | 0 => [[]]
  | n + 1 => (shapesL n).flatMap growL
theorem mx1_le : ∀ {one : List Nat} {x : Nat}, x ∈ one → x + 1 ≤ mx1 one
  | a :: l, x, h => by
    show x + 1 ≤ max (a + 1) (mx1 l)
    rcases List.mem_cons.mp h with z | z
    · subst z; omega
    · have := mx1_le z; omega
theorem mx1_in : ∀ {one : List Nat}, 0 < mx1 one → ∃ x ∈ one, x + 1 = mx1 one
  | [], h => absurd h (Nat.lt_irrefl 0)
  | a :: l, h => by
    have e : mx1 (a :: l) = max (a + 1) (mx1 l) := rfl
    by_cases hl : mx1 l ≤ a + 1
    · exact ⟨a, List.mem_cons_self, by omega⟩
    · obtain ⟨x, hx, ex⟩ := mx1_in (one := l) (by omega)
      exact ⟨x, List.mem_cons_of_mem _ hx, by omega⟩
theorem shapes_small : ∀ n, n ≤ 6 → (shapesL n).length ≤ 300 ∧ ∀ one ∈ shapesL n, mx1 one ≤ 6 ∧ one.length = n := by
  have h : ∀ n : Fin 7, ((shapesL n.val).length ≤ 300 ∧ ∀ one ∈ shapesL n.val, mx1 one ≤ 6 ∧ one.length = n.val) := by decide +kernel
  exact fun n hn => h ⟨n, by omega⟩
theorem flat_take {α β : Type} {f : α → List β} (l : List α) (j : Nat) : ((l.take j).flatMap f).length ≤ (l.flatMap f).length := by
  conv => rhs; rw [← List.take_append_drop j l]
  rw [List.flatMap_append, List.length_append]
  omega
theorem flat_snoc {α β : Type} {f : α → List β} {l : List α} {j : Nat} (h : j < l.length) : (l.take (j + 1)).flatMap f = (l.take j).flatMap f ++ f l[j] := by
  rw [List.take_add_one, List.getElem?_eq_getElem h, List.flatMap_append]
  show _ ++ ([l[j]].flatMap f) = _
  rw [List.flatMap_cons, List.flatMap_nil, List.append_nil]
def snF (one : List Nat) : PyData → Option PyData | .int x => some (.list (posD one ++ [.int x])) | _ => none
theorem snF_eq (one : List Nat) (l : List Nat) : (posD l).filterMap (snF one) = lstsD (l.map fun x => one ++ [x]) := by
  induction l with
  | nil => rfl
  | cons a l ih =>
    show (PyData.int (a : Int) :: posD l).filterMap _ = _
    rw [List.filterMap_cons_some (show snF one (.int (a : Int)) = some (.list (posD one ++ [.int (a : Int)])) from rfl), ih]
    show _ = PyData.list (posD (one ++ [a])) :: _
    rw [posD_snoc] <;> rfl
theorem lsts_len {l : List (List Nat)} : (lstsD l).length = l.length := List.length_map _
theorem lsts_app {a b : List (List Nat)} : lstsD a ++ lstsD b = lstsD (a ++ b) := by unfold lstsD; rw [List.map_append]
theorem ints_neg (one : List Nat) : posD one ++ [PyData.int (-1)] = ((one.map fun (k : Nat) => (k : Int)) ++ [-1]).map PyData.int := by
  unfold posD
  rw [List.map_append, List.map_map] <;> rfl
theorem mx1_max {one : List Nat} {m : Int} (h1 : m ∈ (one.map fun (k : Nat) => (k : Int)) ++ [-1]) (h2 : ∀ y, y ∈ (one.map fun (k : Nat) => (k : Int)) ++ [-1] → y ≤ m) : m = (mx1 one : Int) - 1 := by
  have hneg := h2 (-1) (List.mem_append_right _ List.mem_cons_self)
  have up : m ≤ (mx1 one : Int) - 1 := by
    rcases List.mem_append.mp h1 with z | z
    · obtain ⟨x, hx, rfl⟩ := List.mem_map.mp z
      have := mx1_le hx
      omega
    · rw [List.mem_singleton.mp z]; omega
  by_cases h : 0 < mx1 one
  · obtain ⟨x, hx, e⟩ := mx1_in h
    have := h2 (x : Int) (List.mem_append_left _ (List.mem_map.mpr ⟨x, hx, rfl⟩))
    omega
  · omega
def pr__law_all_shapes : Pr := prX (ι := Nat) (fun n => [.int (n : Int)]) (fun n => n ≤ 6) fun n d => d = .list (lstsD (shapesL n))
theorem ok__law_all_shapes (T : Txt K mg) : FnOk Pg w K mg base CX0 1 T.f__law_all_shapes T.d__law_all_shapes ["size"] (spS K pr__law_all_shapes) := by
  refine ok_of _ T.F__law_all_shapes sc__law_all_shapes (hlenX fun _ => rfl) (fun cdv A outer s H E hr => ⟨_, (pss_cons (ps_set (i := 1) sc__law_all_shapes.nd rfl (.inl rfl) (pe_lst (pa_cons (pe_lst pa_nil) pa_nil))) 
    (pss_cons (ps_for PassesOwn.never rfl (pi_range1 rfl T.z_range (pa_cons (pv 0) pa_nil)) (pg_name (i := 2) sc__law_all_shapes.nd rfl (.inl rfl))
    (pss_cons (ps_set (i := 3) sc__law_all_shapes.nd rfl (.inl rfl) (pe_lst pa_nil)) 
    (pss_cons (ps_for PassesOwn.never rfl (pi_list (pv 1)) (pg_name (i := 4) sc__law_all_shapes.nd rfl (.inr rfl))
    (pss_one (ps_expr (pe_bm PySem.F.plainAttrs_list PySem.F.slot_list_extend PySem.F.type_list_extend mt_extend (pv 3) (pa_cons (pe_lc rfl sc__law_all_shapes.nd (own := [("number_here", 5)]) (pi_range1 rfl T.z_range (pa_cons (pe_op (OpR.or op_add (OpR.or op_cat op_add_str)) (pe_callB (cr_max rfl) (by rfl) T.z_max (by decide +kernel) (pa_cons (pe_op (OpR.or op_add (OpR.or op_cat op_add_str)) (pv 4) (pe_lst (pa_cons (pe_un un_neg pe_int) pa_nil))) pa_nil)) pe_int) pa_nil)) (blkOk_by (own := [("number_here", 5)]) (N := N__law_all_shapes) (sc := (defScope s__law_all_shapes)) (by decide +kernel)) (fun _ _ _ _ _ => (pg_name (i := 5) sc__law_all_shapes.nd rfl (.inl rfl))) (fun _ _ _ _ _ => pts_nil) (fun _ _ _ _ _ => (pe_op (OpR.or op_add (OpR.or op_cat op_add_str)) (pv 4) (pe_lst (pa_cons (pv 5) pa_nil))))) pa_nil))))) 
    (pss_one (ps_set (i := 1) sc__law_all_shapes.nd rfl (.inl rfl) (pe_callTy call_list_of (by rfl) T.z_list (by decide +kernel) (pa_cons (pv 3) pa_nil))))))) 
    (pss_one (ps_ret (pv 1))))), ?_⟩)
  walk_at "sy0"
  try dsimp only [N__law_all_shapes, List.length_cons, List.length_nil, Nat.reduceAdd, Nat.reduceSub, List.replicate, List.cons_append, List.nil_append]
  rintro as cl Φ ⟨n, rfl, rfl, hn, q⟩
  have q := q _ rfl
  dsimp only [List.map]
  refine ws_seq (ws_asg (wp_lst ?_))
  walk_at "sy"
  refine ws_for (wi_rng1 ?_)
  walk_at "sy"
  rw [Int.toNat_natCast]
  refine ⟨fun (k : Nat) (sl : List SD) (cl : List Cell) => sl = [.dat (.int (n : Int)), .dat (.list (lstsD (shapesL k))), .unk, .unk, .unk, .unk] ∧ cl = [], ⟨rfl, rfl⟩, fun k d sl' cl' hd hI hl => ?_, fun sl' cl' hI hl => ?_⟩
  · obtain ⟨rfl, rfl⟩ := hI
    obtain ⟨hk, rfl⟩ := rngD_get hd
    obtain ⟨z1, z2⟩ := shapes_small k (by omega)
    obtain ⟨z3, _⟩ := shapes_small (k + 1) (by omega)
    have hsh : shapesL (k + 1) = (shapesL k).flatMap growL := rfl
    rw [hsh] at z3
    refine wg_name ?_
    walk_at "syd"
    refine ws_seq (ws_asg (wp_lstO ?_))
    walk_at "sy"
    refine ws_for (wi_list ?_)
    walk_at "sy"
    refine ⟨fun (j : Nat) (sl : List SD) (cl : List Cell) => sl = [.dat (.int (n : Int)), .dat (.list (lstsD (shapesL k))), .dat (.int ((0 : Int) + (k : Int))), .own 0, .unk, .unk] ∧ cl = [.lst (lstsD (((shapesL k).take j).flatMap growL))], ⟨rfl, rfl⟩, fun j d sl' cl' hd hI hl => ?_, fun sl' cl' hI hl => ?_⟩
    · obtain ⟨rfl, rfl⟩ := hI
      have hj : j < (shapesL k).length := by
        have := (List.getElem?_eq_some_iff.mp hd).1
        rwa [lsts_len] at this
      have ed : d = .list (posD (shapesL k)[j]) := by
        unfold lstsD at hd
        rw [List.getElem?_map, List.getElem?_eq_getElem hj] at hd
        exact (Option.some.inj hd).symm
      subst ed
      have hone := z2 _ (List.getElem_mem hj)
      have hsn := flat_snoc (f := growL) hj
      have hle := flat_take (f := growL) (shapesL k) j
      have hle2 := flat_take (f := growL) (shapesL k) (j + 1)
      rw [hsn, List.length_append] at hle2
      have ha := lsts_len (l := ((shapesL k).take j).flatMap growL)
      have hb := lsts_len (l := growL (shapesL k)[j])
      generalize (shapesL k)[j] = one at hone hsn hle2 hb ⊢
      have hol := posD_length (ps := one)
      refine wg_name ?_
      walk_at "syd"
      refine ws_drop (wp_ext ?_)
      walk_at "sy"
      refine lc_map (snF one) (wi_rng1 ?_)
      walk_at "sy"
      refine wo_inr (wo_inl (wo_cat rfl rfl (by show (posD one).length + 1 ≤ _; omega) ?_))
      walk_at "sy"
      refine wc_maxI (ns := (one.map fun (k : Nat) => (k : Int)) ++ [-1]) (by show some (posD one ++ [PyData.int (-1)]) = _; rw [ints_neg]) (by simp) fun m hm1 hm2 => ?_
      have em := mx1_max hm1 hm2
      subst em
      walk_at "sy"
      rw [show ((mx1 one : Int) - 1 + 2).toNat = mx1 one + 1 by omega]
      refine ⟨by rw [rngD_len]; omega, gk_name (by simp), fun x d hd => ?_, ?_⟩
      · obtain ⟨hx, rfl⟩ := rngD_get hd
        dsimp only [wipeS]
        walk_at "sy"
        refine wo_inr (wo_inl (wo_cat rfl rfl (by show (posD one).length + 1 ≤ _; omega) ?_))
        exact ⟨_, rfl, rfl, rfl⟩
      · rw [rng_pos, snF_eq]
        have eg : (List.range (mx1 one + 1)).map (fun x => one ++ [x]) = growL one := rfl
        rw [eg]
        refine ⟨_, _, rfl, rfl, by omega, ?_⟩
        rw [lsts_app, ← hsn]
        exact Sy.turn_q (sl4 := [.dat (.int (n : Int)), .dat (.list (lstsD (shapesL k))), .dat (.int ((0 : Int) + (k : Int))), .own 0, .unk, .unk]) ⟨rfl, rfl⟩ (by walk_at "wkl") (by walk_at "lowl")
    · obtain ⟨rfl, rfl⟩ := hI
      rw [lsts_len, List.take_length, ← hsh]
      walk_at "sy"
      exact Sy.turn_q (sl4 := [.dat (.int (n : Int)), .dat (.list (lstsD (shapesL (k + 1)))), .unk, .unk, .unk, .unk]) ⟨rfl, rfl⟩ (by walk_at "wkl") (by walk_at "lowl")
  · obtain ⟨rfl, rfl⟩ := hI
    rw [rngD_len]
    walk_at "sy"
    exact q
end
end Kp
end

section
-- conditions of operations on ints
local macro_rules | `(tactic| walk_at "syc") => `(tactic| first
  | exact Sy.cpow (by decide) (by decide)
  | exact Sy.mul_l (by omega) (by omega)
  | exact Sy.mul_r (by omega) (by omega)
  | exact Sy.fdiv_ok (by omega) (by omega)
  | ((show (0 : Int) < _); first | omega | (simp only [Sy.pow12, Sy.pow18, Sy.pow29, Sy.pow38, Sy.pow39, Sy.pow40]; omega)))
-- one step of the symbolic run
local macro_rules | `(tactic| walk_at "sy1") => `(tactic| first
  | with_reducible refine' Sy.ws_seq ?_
  | (with_reducible refine' Sy.ws_setI ?_)
  | (with_reducible refine' Sy.ws_asg ?_)
  | with_reducible refine' Sy.ws_ret (Sy.wp_lstO ?_)
  | with_reducible refine' Sy.ws_ret ?_
  | with_reducible refine' Sy.ws_if ?_
  | with_reducible refine' Sy.ws_drop ?_
  | with_reducible refine' Sy.ws_next ?_
  | with_reducible refine' Sy.ws_par ?_
  | with_reducible refine' Sy.wp_app ?_
  | with_reducible refine' Sy.ws_setI ?_
  | with_reducible refine' Sy.ws_dput ?_
  | with_reducible refine' Sy.wp_dget1 ?_
  | with_reducible refine' Sy.wp_dnotin ?_
  | ((with_reducible refine' Sy.wp_var ?h1 ?h2 ?_); (case h1 => rfl); (case h2 => (intro z; cases z)))
  | ((with_reducible refine' Sy.wp_c ?h1 ?_); (case h1 => rfl))
  | with_reducible refine' Sy.isi_int ?_
  | with_reducible refine' Sy.isi_bool ?_
  | with_reducible refine' Sy.isi_str ?_
  | with_reducible refine' Sy.isi_list ?_
  | with_reducible refine' Sy.isi_tuple ?_
  | with_reducible refine' Sy.isi_seq ?_
  | with_reducible refine' Sy.wp_op ?_
  | with_reducible refine' Sy.wp_neg ?_
  | with_reducible refine' Sy.wp_test ?_
  | with_reducible refine' Sy.wp_testB ?_
  | with_reducible refine' Sy.wp_and ?_
  | with_reducible refine' Sy.wp_or ?_
  | with_reducible refine' Sy.wp_not ?_
  | with_reducible refine' Sy.wp_if ?_
  | with_reducible refine' Sy.wp_andV ?_
  | with_reducible refine' Sy.wp_orV ?_
  | with_reducible refine' Sy.wp_notV ?_
  | with_reducible refine' Sy.wp_chain ?_
  | with_reducible refine' Sy.wp_cb ?_
  | with_reducible refine' Sy.wp_callE ?_
  | with_reducible refine' Sy.wp_callX0 ?_
  | (with_reducible refine' Sy.wp_ext ?_)
  | with_reducible refine' Sy.wp_tup ?_
  | with_reducible refine' Sy.wp_lst ?_
  | with_reducible refine' Sy.wp_sl ?_
  | with_reducible refine' Sy.wp_rev ?_
  | with_reducible refine' Sy.wp_join ?_
  | with_reducible refine' Sy.wo_none ?_
  | with_reducible refine' Sy.wo_some ?_
  | with_reducible refine' Sy.wa_nil ?_
  | with_reducible refine' Sy.wa_cons ?_
  | with_reducible refine' Sy.wp_yes ?_
  | with_reducible refine' Sy.wg_name ?_
  | with_reducible refine' Sy.wgs_nil ?_
  | with_reducible refine' Sy.wgs_cons ?_
  | (refine' Sy.wg_tup rfl rfl ?_)
  | (refine' Sy.wo_inl (Sy.wo_I0 rfl rfl rfl ?_))
  | (refine' Sy.wo_I0 rfl rfl rfl ?_)
  | (refine' Sy.wo_sign rfl rfl ?_)
  | (refine' Sy.wo_inl (Sy.wo_I rfl rfl ?h1 rfl ?_); (case h1 => walk_at "syc"))
  | (refine' Sy.wo_I rfl rfl ?h1 rfl ?_; (case h1 => walk_at "syc"))
  | (refine' Sy.wo_isN ?h1 rfl ?_; (case h1 => (intro z; cases z)))
  | (refine' Sy.wo_notN ?h1 rfl ?_; (case h1 => (intro z; cases z)))
  | (refine' Sy.wo_eq rfl rfl rfl ?_)
  | (refine' Sy.wo_inl (Sy.wo_eq rfl rfl rfl ?_))
  | (refine' Sy.wo_ne rfl rfl rfl ?_)
  | (refine' Sy.wo_inl (Sy.wo_ne rfl rfl rfl ?_))
  | (refine' Sy.wo_ixL rfl rfl ?h1 ?_; (case h1 => first | rfl | assumption))
  | (refine' Sy.wo_ixT rfl rfl ?h1 ?_; (case h1 => first | rfl | assumption))
  | (refine' Sy.wc_int1 rfl ?_)
  | (refine' Sy.wc_abs rfl ?_)
  | (refine' Sy.wc_max2 rfl rfl ?_)
  | (refine' Sy.wc_min2 rfl rfl ?_)
  | (refine' Sy.wc_len rfl ?_)
  | (refine' Sy.wc_lenS rfl ?h1 ?_; (case h1 => omega))
  | (refine' Sy.wc_list rfl ?_)
  | (refine' Sy.wc_listT rfl ?_)
  | (refine' Sy.wc_tuple rfl ?_)
  | ((with_reducible refine' And.intro ?h1 ?_); (case h1 => first | (with_reducible rfl) | omega | decide | (simp only [List.length_cons, List.length_nil]; omega)))
  | ((with_reducible show @ite Prop (true = true) _ _ _); refine' Sy.iteT0 ?_)
  | ((with_reducible show @ite Prop (false = true) _ _ _); refine' Sy.iteF0 ?_)
  | ((with_reducible show @ite Prop ((!true) = true) _ _ _); refine' Sy.iteNT ?_)
  | ((with_reducible show @ite Prop (@decide _ _ = true) _ _ _); (refine' Sy.iteDT ?h1 ?_); (case h1 => first | omega | rfl | (intro z; cases z)))
  | ((with_reducible show @ite Prop (@decide _ _ = true) _ _ _); (refine' Sy.iteDF ?h1 ?_); (case h1 => first | omega | rfl | (intro z; cases z)))
  | ((with_reducible show @ite Prop ((!@decide _ _) = true) _ _ _); (refine' Sy.iteND ?h1 ?_); (case h1 => first | omega | rfl | (intro z; cases z)))
  | ((with_reducible show @ite Prop ((!@decide _ _) = true) _ _ _); (refine' Sy.iteNDF ?h1 ?_); (case h1 => first | omega | rfl | (intro z; cases z)))
  | ((with_reducible show @ite Prop ((!false) = true) _ _ _); refine' Sy.iteNF ?_)
  | (with_reducible refine' Sy.ws_try ?_)
  | (with_reducible refine' Sy.wsx_drop (Sy.wx_call (Sy.wax_of ?_)))
  | (with_reducible refine' Sy.wsx_asg (Sy.wx_call (Sy.wax_of ?_)))
  | (with_reducible refine' Sy.wsx_ret (Sy.wx_call (Sy.wax_of ?_)))
  | (with_reducible refine' Sy.wsx_of ?_)
  | (refine ⟨_, rfl, ⟨_, rfl⟩, ?_⟩)
  | (refine ⟨_, rfl, ?_⟩)
  | (refine ⟨_, _, rfl, rfl, ?_⟩)
  | (refine ⟨_, _, rfl, ?_⟩)
  | ((refine' Sy.iteNo ?h1 ?_); (case h1 => (intro z; cases z)))
  | ((refine' Sy.iteYes ?h1 ?_); (case h1 => rfl)))
-- many steps
local macro_rules | `(tactic| walk_at "syd") => `(tactic| try dsimp only [List.set, List.length_cons, List.length_nil, Nat.reduceAdd, Sy.isNon, List.cons_append, List.nil_append, List.map, Bool.not_true, Bool.not_false, Sy.Ty.isInt, Sy.Ty.isBool, Sy.Ty.isStr, Sy.Ty.isList, Sy.Ty.isTuple, Sy.Ty.isSeq])
local macro_rules | `(tactic| walk_at "sy") => `(tactic| repeat ((walk_at "sy1"); (walk_at "syd")))
-- the start of a body
local macro_rules | `(tactic| walk_at "sy0") => `(tactic| dsimp only [L2.cxOf, List.length_cons, List.length_nil, Nat.reduceAdd, Nat.reduceSub, List.replicate, List.cons_append, List.nil_append])
-- a turn's end: the slots and the cells are said by the invariant
local macro_rules | `(tactic| walk_at "wkl") => `(tactic| repeat' first | exact trivial | refine ⟨.inl rfl, ?_⟩ | refine ⟨.inr rfl, ?_⟩)
local macro_rules | `(tactic| walk_at "lowl") => `(tactic| repeat' first | exact trivial | refine ⟨by omega, ?_⟩)
local macro_rules | `(tactic| walk_at "turn") => `(tactic| refine Sy.turn_q ⟨rfl, rfl⟩ (by walk_at "wkl") (by walk_at "lowl"))

namespace Kp
open PySem PySem.Spec L2 Sy
section
variable {Pg : Program} {w : World} {K : PySem.W.Frag} {mg : Str → Option Value} {base : Heap}
theorem mx1_snoc (x : Nat) : ∀ l : List Nat, mx1 (l ++ [x]) = max (mx1 l) (x + 1)
  | [] => by show max (x + 1) 0 = max 0 (x + 1); omega
  | a :: l => by
    show max (a + 1) (mx1 (l ++ [x])) = max (max (a + 1) (mx1 l)) (x + 1)
    rw [mx1_snoc x l]
    omega
theorem pat_shape {α : Type} [DecidableEq α] : ∀ (k : Nat) (l : List α), l.length = k → patL l ∈ shapesL k ∧ mx1 (patL l) = (ded l).length
  | 0, l, h => by
    have : l = [] := List.length_eq_zero_iff.mp h
    subst this
    exact ⟨List.mem_singleton.mpr rfl, rfl⟩
  | k + 1, l, h => by
    have hne : l ≠ [] := fun z => by rw [z] at h; cases h
    obtain ⟨l', x, rfl⟩ : ∃ l' x, l = l' ++ [x] := ⟨l.dropLast, l.getLast hne, (List.dropLast_concat_getLast hne).symm⟩
    have h' : l'.length = k := by rw [List.length_append] at h; exact Nat.succ.inj h
    obtain ⟨i1, i2⟩ := pat_shape k l' h'
    have hd := ded_snoc l' x
    have hx : ixO x (ded (l' ++ [x])) ≤ (ded l').length ∧ (ded (l' ++ [x])).length = max (ded l').length (ixO x (ded (l' ++ [x])) + 1) := by
      by_cases hm : x ∈ ded l'
      · rw [if_pos hm] at hd
        rw [hd]
        have := ixO_lt hm
        exact ⟨by omega, by omega⟩
      · rw [if_neg hm] at hd
        rw [hd, ixO_new hm, List.length_append]
        show (ded l').length ≤ (ded l').length ∧ (ded l').length + 1 = _
        omega
    rw [patL_snoc]
    refine ⟨List.mem_flatMap.mpr ⟨_, i1, List.mem_map.mpr ⟨_, List.mem_range.mpr (by rw [i2]; omega), rfl⟩⟩, ?_⟩
    rw [mx1_snoc, i2]
    exact hx.2.symm
/-! a shape and its left ends: as many right ends as records that are not the first of their key -/
theorem pat_nats (s : List Nat) : patS (befU (nxk s) s.length) s.length = (patL s, (ded s).length) := by
  have kd : ∀ j, (h : j < s.length) → s.getD j 0 = s[j] := fun j h => by rw [List.getD_eq_getElem?_getD, List.getElem?_eq_getElem h] <;> rfl
  have := patS_eqN s (befU (nxk s) s.length) (fun j hj hn hin => ?_) (fun j i hj hs => ?_) s.length (Nat.le_refl _)
  · rw [this, List.take_length]
  · rw [kd j hj, List.mem_take_iff_getElem] at hin
    obtain ⟨i0, hi0, e0⟩ := hin
    have hi0' : i0 < j := by omega
    have last : ∃ i, i < j ∧ s[i]? = s[j]? ∧ ∀ k, i < k → k < j → s[k]? ≠ s[j]? := by
      have : ∀ d, ∀ i, i < j → j - i ≤ d → s[i]? = s[j]? → ∃ i, i < j ∧ s[i]? = s[j]? ∧ ∀ k, i < k → k < j → s[k]? ≠ s[j]? := fun d => by
        induction d with
        | zero => intro i h1 h2; omega
        | succ d ih =>
          intro i h1 h2 h3
          by_cases hx : ∃ k, i < k ∧ k < j ∧ s[k]? = s[j]?
          · obtain ⟨k, k1, k2, k3⟩ := hx
            exact ih k k2 (by omega) k3
          · exact ⟨i, h1, h3, fun k k1 k2 k3 => hx ⟨k, k1, k2, k3⟩⟩
      exact this j i0 hi0' (by omega) (by rw [List.getElem?_eq_getElem (by omega), List.getElem?_eq_getElem hj, e0])
    obtain ⟨i, h1, h2, h3⟩ := last
    have hne := befU_none hn i (by omega)
    cases hx : nxk s i with
    | none => exact nxk_none hx (by omega) j h1 h2.symm
    | some e =>
      obtain ⟨n1, n2, n3, n4⟩ := nxk_spec hx
      rcases Nat.lt_trichotomy e j with z | z | z
      · exact h3 e n1 z (n3.trans h2)
      · rw [z] at hx; exact hne hx
      · exact n4 j h1 z h2.symm
  · obtain ⟨h1, h2⟩ := befU_some hs
    obtain ⟨n1, n2, n3, n4⟩ := nxk_spec h2
    refine ⟨n1, ?_⟩
    rw [kd i (by omega), kd j hj]
    rw [List.getElem?_eq_getElem hj, List.getElem?_eq_getElem (by omega)] at n3
    exact (Option.some.inj n3).symm
theorem patS_cnt (g : Nat → Option Nat) : ∀ m, (patS g m).2 + ((List.range m).filterMap g).length = m
  | 0 => rfl
  | m + 1 => by
    have ih := patS_cnt g m
    rw [patS_succ, List.range_succ, List.filterMap_append, List.length_append]
    unfold pstep
    cases h : g m with
    | none =>
      rw [List.filterMap_cons_none h]
      show (patS g m).2 + 1 + (_ + 0) = m + 1
      omega
    | some i =>
      rw [List.filterMap_cons_some h]
      show (patS g m).2 + (_ + 1) = m + 1
      omega
theorem keys_left (s : List Nat) : (ded s).length + (byN s.length (nxk s)).length = s.length := by
  have h := patS_cnt (befU (nxk s) s.length) s.length
  rw [pat_nats] at h
  exact h
/-- a form -/
def isPt (s : List Nat) : Prop := patL s = s
theorem pt_keys {s : List Nat} (h : isPt s) : mx1 s + (byN s.length (nxk s)).length = s.length := by
  have e : mx1 s = (ded s).length := by
    have := (pat_shape s.length s rfl).2
    rwa [h] at this
  rw [e]
  exact keys_left s
theorem pt_patL {α : Type} [DecidableEq α] (l : List α) : isPt (patL l) := by
  have h : patL (l.map fun x => ixO x (ded l)) = patL l := patL_map fun a ha b hb e => ixO_inj (mem_ded.mpr ha) (mem_ded.mpr hb) e
  exact h
def forP (s : List Nat) : List Nat := patN s.length (zpF (byN s.length (nxk s)) (forE s.length (byN s.length (nxk s))))
def neaP (s : List Nat) : List Nat := patN s.length (zpF (byN s.length (nxk s)) (nearE 0 (byN s.length (nxk s))))
theorem lefts_fit (s : List Nat) : fitE s.length (byN s.length (nxk s)) ((byN s.length (nxk s)).map fun i => ((nxk s) i).getD 0) 0 := fit_byN (nxk_ok s)
theorem lefts_nodup (s : List Nat) : (byN s.length (nxk s)).Nodup := byN_nodup (nxk_ok s)
theorem form_lefts {s Es : List Nat} (h : fitE s.length (byN s.length (nxk s)) Es 0) : byN s.length (nxk (patN s.length (zpF (byN s.length (nxk s)) Es))) = byN s.length (nxk s) := by
  rw [patN_nxk (zp_ok h (lefts_nodup s))]
  exact zp_byN h (lefts_nodup s)
theorem for_fits (s : List Nat) : fitE s.length (byN s.length (nxk s)) (forE s.length (byN s.length (nxk s))) 0 := for_fit (low := 0) (lefts_fit s) (Nat.zero_le _)
theorem nea_fits (s : List Nat) : fitE s.length (byN s.length (nxk s)) (nearE 0 (byN s.length (nxk s))) 0 := near_fit0 (lefts_fit s)
theorem forP_len (s : List Nat) : (forP s).length = s.length := patN_len
theorem neaP_len (s : List Nat) : (neaP s).length = s.length := patN_len
theorem forP_left (s : List Nat) : byN s.length (nxk (forP s)) = byN s.length (nxk s) := form_lefts (for_fits s)
theorem neaP_left (s : List Nat) : byN s.length (nxk (neaP s)) = byN s.length (nxk s) := form_lefts (nea_fits s)
theorem forP_same {s t : List Nat} (hl : s.length = t.length) : forP s = forP t ↔ byN s.length (nxk s) = byN t.length (nxk t) := by
  constructor
  · intro h
    have h1 := forP_left s
    have h2 := forP_left t
    rw [h, hl] at h1
    rw [hl, ← h1, h2]
  · intro h
    unfold forP
    rw [h, hl]
theorem neaP_same {s t : List Nat} (hl : s.length = t.length) : neaP s = neaP t ↔ byN s.length (nxk s) = byN t.length (nxk t) := by
  constructor
  · intro h
    have h1 := neaP_left s
    have h2 := neaP_left t
    rw [h, hl] at h1
    rw [hl, ← h1, h2]
  · intro h
    unfold neaP
    rw [h, hl]
theorem forP_pt (s : List Nat) : isPt (forP s) := patN_patL (zp_ok (for_fits s) (lefts_nodup s))
theorem forP_start {s : List Nat} (h : isPt s) : (forP s).take (mx1 s) = List.range (mx1 s) := by
  have hk := pt_keys h
  have g5 := for_fit (low := s.length - (byN s.length (nxk s)).length) (lefts_fit s) (Nat.le_refl _)
  have hok := zp_ok (for_fits s) (lefts_nodup s)
  unfold forP
  refine patN_start hok (by omega) fun k hk2 i hi => ?_
  have := fitE_ge g5 k ((zp_ends (for_fits s) (lefts_nodup s) k).mpr ⟨i, hi⟩)
  omega
/-! the small forms -/
def insN {α : Type} [DecidableEq α] (acc : List α) (x : α) : List α := if x ∈ acc then acc else acc ++ [x]
def frmF (acc : List (List Nat)) (one : List Nat) : List (List Nat) := insN acc (forP one)
def frmL (n : Nat) : List (List Nat) := (shapesL n).foldl frmF []
theorem frm_small : ∀ n, n ≤ 5 → (frmL n).length = sumU n ∧ (∀ one ∈ frmL n, one.length = n ∧ mx1 one ≤ 6 ∧ (1 ≤ n → 1 ≤ mx1 one) ∧ ∀ p ∈ one, p < 600) ∧ (∀ k, k ≤ n → 1 ≤ k → ((frmL n).filter fun one => decide (mx1 one = k)).length = k ^ (n - k)) ∧
    ((frmL n).map fun one => behF n (byN n (nxk one)) 0).sum = (shapesL n).length := by
  have h : ∀ n : Fin 6, ((frmL n.val).length = sumU n.val ∧ (∀ one ∈ frmL n.val, one.length = n.val ∧ mx1 one ≤ 6 ∧ (1 ≤ n.val → 1 ≤ mx1 one) ∧ ∀ p ∈ one, p < 600)) ∧ (∀ k : Fin 6, k.val ≤ n.val → 1 ≤ k.val → ((frmL n.val).filter fun one => decide (mx1 one = k.val)).length = k.val ^ (n.val - k.val)) ∧
      ((frmL n.val).map fun one => behF n.val (byN n.val (nxk one)) 0).sum = (shapesL n.val).length := by decide +kernel
  intro n hn
  obtain ⟨⟨h1, h2⟩, h3, h4⟩ := h ⟨n, by omega⟩
  exact ⟨h1, h2, fun k hk h1 => h3 ⟨k, by omega⟩ hk h1, h4⟩
theorem shp_pt : ∀ n, n ≤ 5 → ∀ one ∈ shapesL n, isPt one ∧ ∀ p ∈ one, p < 600 := by
  have h : ∀ n : Fin 6, ∀ one ∈ shapesL n.val, patL one = one ∧ ∀ p ∈ one, p < 600 := by decide +kernel
  exact fun n hn => h ⟨n, by omega⟩
end
end Kp
end

section
-- conditions of operations on ints
local macro_rules | `(tactic| walk_at "syc") => `(tactic| first
  | exact Sy.cpow (by decide) (by decide)
  | exact Sy.mul_l (by omega) (by omega)
  | exact Sy.mul_r (by omega) (by omega)
  | exact Sy.fdiv_ok (by omega) (by omega)
  | ((show (0 : Int) < _); first | omega | (simp only [Sy.pow12, Sy.pow18, Sy.pow29, Sy.pow38, Sy.pow39, Sy.pow40]; omega)))
-- one step of the symbolic run
local macro_rules | `(tactic| walk_at "sy1") => `(tactic| first
  | with_reducible refine' Sy.ws_seq ?_
  | (with_reducible refine' Sy.ws_setI ?_)
  | (with_reducible refine' Sy.ws_asg ?_)
  | with_reducible refine' Sy.ws_ret (Sy.wp_lstO ?_)
  | with_reducible refine' Sy.ws_ret ?_
  | with_reducible refine' Sy.ws_if ?_
  | with_reducible refine' Sy.ws_drop ?_
  | with_reducible refine' Sy.ws_next ?_
  | with_reducible refine' Sy.ws_par ?_
  | with_reducible refine' Sy.wp_app ?_
  | with_reducible refine' Sy.ws_setI ?_
  | with_reducible refine' Sy.ws_dput ?_
  | with_reducible refine' Sy.wp_dget1 ?_
  | with_reducible refine' Sy.wp_dnotin ?_
  | ((with_reducible refine' Sy.wp_var ?h1 ?h2 ?_); (case h1 => rfl); (case h2 => (intro z; cases z)))
  | ((with_reducible refine' Sy.wp_c ?h1 ?_); (case h1 => rfl))
  | with_reducible refine' Sy.isi_int ?_
  | with_reducible refine' Sy.isi_bool ?_
  | with_reducible refine' Sy.isi_str ?_
  | with_reducible refine' Sy.isi_list ?_
  | with_reducible refine' Sy.isi_tuple ?_
  | with_reducible refine' Sy.isi_seq ?_
  | with_reducible refine' Sy.wp_op ?_
  | with_reducible refine' Sy.wp_neg ?_
  | with_reducible refine' Sy.wp_test ?_
  | with_reducible refine' Sy.wp_testB ?_
  | with_reducible refine' Sy.wp_and ?_
  | with_reducible refine' Sy.wp_or ?_
  | with_reducible refine' Sy.wp_not ?_
  | with_reducible refine' Sy.wp_if ?_
  | with_reducible refine' Sy.wp_andV ?_
  | with_reducible refine' Sy.wp_orV ?_
  | with_reducible refine' Sy.wp_notV ?_
  | with_reducible refine' Sy.wp_chain ?_
  | with_reducible refine' Sy.wp_cb ?_
  | with_reducible refine' Sy.wp_callE ?_
  | with_reducible refine' Sy.wp_callX0 ?_
  | (with_reducible refine' Sy.wp_ext ?_)
  | with_reducible refine' Sy.wp_tup ?_
  | with_reducible refine' Sy.wp_lst ?_
  | with_reducible refine' Sy.wp_sl ?_
  | with_reducible refine' Sy.wp_rev ?_
  | with_reducible refine' Sy.wp_join ?_
  | with_reducible refine' Sy.wo_none ?_
  | with_reducible refine' Sy.wo_some ?_
  | with_reducible refine' Sy.wa_nil ?_
  | with_reducible refine' Sy.wa_cons ?_
  | with_reducible refine' Sy.wp_yes ?_
  | with_reducible refine' Sy.wg_name ?_
  | with_reducible refine' Sy.wgs_nil ?_
  | with_reducible refine' Sy.wgs_cons ?_
  | (refine' Sy.wg_tup rfl rfl ?_)
  | (refine' Sy.wo_inl (Sy.wo_I0 rfl rfl rfl ?_))
  | (refine' Sy.wo_I0 rfl rfl rfl ?_)
  | (refine' Sy.wo_sign rfl rfl ?_)
  | (refine' Sy.wo_inl (Sy.wo_I rfl rfl ?h1 rfl ?_); (case h1 => walk_at "syc"))
  | (refine' Sy.wo_I rfl rfl ?h1 rfl ?_; (case h1 => walk_at "syc"))
  | (refine' Sy.wo_isN ?h1 rfl ?_; (case h1 => (intro z; cases z)))
  | (refine' Sy.wo_notN ?h1 rfl ?_; (case h1 => (intro z; cases z)))
  | (refine' Sy.wo_eq rfl rfl rfl ?_)
  | (refine' Sy.wo_inl (Sy.wo_eq rfl rfl rfl ?_))
  | (refine' Sy.wo_ne rfl rfl rfl ?_)
  | (refine' Sy.wo_inl (Sy.wo_ne rfl rfl rfl ?_))
  | (refine' Sy.wo_ixL rfl rfl ?h1 ?_; (case h1 => first | rfl | assumption))
  | (refine' Sy.wo_ixT rfl rfl ?h1 ?_; (case h1 => first | rfl | assumption))
  | (refine' Sy.wc_int1 rfl ?_)
  | (refine' Sy.wc_abs rfl ?_)
  | (refine' Sy.wc_max2 rfl rfl ?_)
  | (refine' Sy.wc_min2 rfl rfl ?_)
  | (refine' Sy.wc_len rfl ?_)
  | (refine' Sy.wc_lenS rfl ?h1 ?_; (case h1 => omega))
  | (refine' Sy.wc_list rfl ?_)
  | (refine' Sy.wc_listT rfl ?_)
  | (refine' Sy.wc_tuple rfl ?_)
  | ((with_reducible refine' And.intro ?h1 ?_); (case h1 => first | (with_reducible rfl) | omega | decide | (simp only [List.length_cons, List.length_nil]; omega)))
  | ((with_reducible show @ite Prop (true = true) _ _ _); refine' Sy.iteT0 ?_)
  | ((with_reducible show @ite Prop (false = true) _ _ _); refine' Sy.iteF0 ?_)
  | ((with_reducible show @ite Prop ((!true) = true) _ _ _); refine' Sy.iteNT ?_)
  | ((with_reducible show @ite Prop (@decide _ _ = true) _ _ _); (refine' Sy.iteDT ?h1 ?_); (case h1 => first | omega | rfl | (intro z; cases z)))
  | ((with_reducible show @ite Prop (@decide _ _ = true) _ _ _); (refine' Sy.iteDF ?h1 ?_); (case h1 => first | omega | rfl | (intro z; cases z)))
  | ((with_reducible show @ite Prop ((!@decide _ _) = true) _ _ _); (refine' Sy.iteND ?h1 ?_); (case h1 => first | omega | rfl | (intro z; cases z)))
  | ((with_reducible show @ite Prop ((!@decide _ _) = true) _ _ _); (refine' Sy.iteNDF ?h1 ?_); (case h1 => first | omega | rfl | (intro z; cases z)))
  | ((with_reducible show @ite Prop ((!false) = true) _ _ _); refine' Sy.iteNF ?_)
  | (with_reducible refine' Sy.ws_try ?_)
  | (with_reducible refine' Sy.wsx_drop (Sy.wx_call (Sy.wax_of ?_)))
  | (with_reducible refine' Sy.wsx_asg (Sy.wx_call (Sy.wax_of ?_)))
  | (with_reducible refine' Sy.wsx_ret (Sy.wx_call (Sy.wax_of ?_)))
  | (with_reducible refine' Sy.wsx_of ?_)
  | (refine ⟨_, rfl, ⟨_, rfl⟩, ?_⟩)
  | (refine ⟨_, rfl, ?_⟩)
  | (refine ⟨_, _, rfl, rfl, ?_⟩)
  | (refine ⟨_, _, rfl, ?_⟩)
  | ((refine' Sy.iteNo ?h1 ?_); (case h1 => (intro z; cases z)))
  | ((refine' Sy.iteYes ?h1 ?_); (case h1 => rfl)))
-- many steps
local macro_rules | `(tactic| walk_at "syd") => `(tactic| try dsimp only [List.set, List.length_cons, List.length_nil, Nat.reduceAdd, Sy.isNon, List.cons_append, List.nil_append, List.map, Bool.not_true, Bool.not_false, Sy.Ty.isInt, Sy.Ty.isBool, Sy.Ty.isStr, Sy.Ty.isList, Sy.Ty.isTuple, Sy.Ty.isSeq])
local macro_rules | `(tactic| walk_at "sy") => `(tactic| repeat ((walk_at "sy1"); (walk_at "syd")))
-- the start of a body
local macro_rules | `(tactic| walk_at "sy0") => `(tactic| dsimp only [L2.cxOf, List.length_cons, List.length_nil, Nat.reduceAdd, Nat.reduceSub, List.replicate, List.cons_append, List.nil_append])
-- a turn's end: the slots and the cells are said by the invariant
local macro_rules | `(tactic| walk_at "wkl") => `(tactic| repeat' first | exact trivial | refine ⟨.inl rfl, ?_⟩ | refine ⟨.inr rfl, ?_⟩)
local macro_rules | `(tactic| walk_at "lowl") => `(tactic| repeat' first | exact trivial | refine ⟨by omega, ?_⟩)
local macro_rules | `(tactic| walk_at "turn") => `(tactic| refine Sy.turn_q ⟨rfl, rfl⟩ (by walk_at "wkl") (by walk_at "lowl"))

namespace Kp
open PySem PySem.Spec L2 Sy
section
variable {Pg : Program} {w : World} {K : PySem.W.Frag} {mg : Str → Option Value} {base : Heap}
theorem keyed_nxt {ps : List Nat} {rs : List Row} (h : keyedR ps rs) : nxt rs = nxk ps := by
  obtain ⟨nm, h1, _, h3⟩ := h
  funext i
  rw [nxt_nxk]
  have h1 : rs.map Prod.fst = ps.map nm := h1
  rw [h1]
  exact nxk_map h3 i
def pr__law_log_of : Pr := prXC 700 (ι := List Nat) (fun s => [.list (posD s)]) (fun s => s.length ≤ 61 ∧ ∀ p ∈ s, p < 600) fun s d => ∃ rs : List Row, d = rowsD rs ∧ keyedR s rs
theorem ok__law_log_of (T : Txt K mg) : FnOk Pg w K mg base CX0 4 T.f__law_log_of T.d__law_log_of ["crate", "shape_here"] (spS K pr__law_log_of) := by
  refine ok_of _ T.F__law_log_of sc__law_log_of (hlenXC (n := 1) fun _ => rfl) (fun cdv A outer s H E hr => ⟨_, (pss_one (ps_ret (pe_call (ok__law_keyed T) (hr.mono (by decide)) (by rfl) T.g__law_keyed T.F__law_keyed.kp T.B__law_keyed .nil pass0 (pa_cons (pv 0) (pa_cons (pv 1) pa_nil))))), ?_⟩)
  walk_at "sy0"
  try dsimp only [N__law_log_of, List.length_cons, List.length_nil, Nat.reduceAdd, Nat.reduceSub, List.replicate, List.cons_append, List.nil_append]
  rintro as cl Φ ⟨s, n, c, rfl, rfl, hc, hn, ⟨hl, hp⟩, q⟩
  dsimp only [List.map]
  walk_at "sy"
  refine keyed_ok rfl hc (by omega) (by omega) hp fun rs c' hrs hc' => ?_
  exact q _ _ ⟨rs, rfl, hrs⟩ (hc'.mono (by omega))
structure LogIs (s : List Nat) (rs : List Row) : Prop where
  lg : isLg rs
  rw : isRows rs
  len : rs.length = s.length
  nx : nxt rs = nxk s
theorem LogIs.lf (h : LogIs s rs) : lfL rs = byN s.length (nxk s) := by
  unfold lfL
  rw [h.len, h.nx]
theorem log_ok {sl : List SD} {cl : List Cell} {Φ : SD → List Cell → Prop} {k n : Nat} {c : Cell} {s : List Nat} (hk : cl[k]? = some c) (hc : Crate n c) (hn : n + 700 ≤ 1000000) (hl : s.length ≤ 61) (hp : ∀ p ∈ s, p < 600)
    (q : ∀ (rs : List Row) c', LogIs s rs → Crate (n + 700) c' → Φ (.dat (rowsD rs)) (cl.set k c')) : ∃ sel, CallOk pr__law_log_of [.own k, .dat (.list (posD s))] sl cl sel Φ :=
  ⟨_, call_XC s rfl hk hc hn ⟨hl, hp⟩ fun d c' ⟨rs, e, hr⟩ hc' => e ▸ q rs c' ⟨⟨by rw [hr.len]; omega, hr.key⟩, ⟨by rw [hr.len]; omega, hr.key⟩, hr.len, keyed_nxt hr⟩ hc'⟩
theorem pow_stepk (b k : Nat) : ((b ^ k : Nat) : Int) * (b : Int) = ((b ^ (k + 1) : Nat) : Int) := by
  rw [Nat.pow_succ]
  exact (Int.natCast_mul _ _).symm
def pr__law_powers : Pr := prX (ι := Nat × Nat) (fun (n, b) => [.int (n : Int), .int (b : Int)]) (fun (n, b) => b ≤ n ∧ n ≤ 100) fun (n, b) d => d = .int ((b ^ (n - b) : Nat) : Int)
theorem ok__law_powers (T : Txt K mg) : FnOk Pg w K mg base CX0 1 T.f__law_powers T.d__law_powers ["size", "keys_here"] (spS K pr__law_powers) := by
  refine ok_of _ T.F__law_powers sc__law_powers (hlenX fun _ => rfl) (fun cdv A outer s H E hr => ⟨_, (pss_cons (ps_set (i := 2) sc__law_powers.nd rfl (.inl rfl) pe_int) 
    (pss_cons (ps_for PassesOwn.never rfl (pi_range1 rfl T.z_range (pa_cons (pe_op op_sub (pv 0) (pv 1)) pa_nil)) (pg_name (i := 3) sc__law_powers.nd rfl (.inl rfl))
    (pss_one (ps_set (i := 2) sc__law_powers.nd rfl (.inl rfl) (pe_op (OpR.or op_mul op_rep) (pv 2) (pv 1))))) 
    (pss_one (ps_ret (pv 2))))), ?_⟩)
  walk_at "sy0"
  try dsimp only [N__law_powers, List.length_cons, List.length_nil, Nat.reduceAdd, Nat.reduceSub, List.replicate, List.cons_append, List.nil_append]
  rintro as cl Φ ⟨⟨n, b⟩, rfl, rfl, ⟨hb, hn⟩, q⟩
  have q := q _ rfl
  dsimp only [List.map]
  walk_at "sy"
  refine ws_for (wi_rng1 ?_)
  walk_at "sy"
  rw [show ((n : Int) - (b : Int)).toNat = n - b by omega]
  refine ⟨fun (k : Nat) (sl : List SD) (cl : List Cell) => sl = [.dat (.int (n : Int)), .dat (.int (b : Int)), .dat (.int ((b ^ k : Nat) : Int)), .unk] ∧ cl = [], ⟨rfl, rfl⟩, fun k d sl' cl' hd hI hl => ?_, fun sl' cl' hI hl => ?_⟩
  · obtain ⟨rfl, rfl⟩ := hI
    obtain ⟨hk, rfl⟩ := rngD_get hd
    refine wg_name ?_
    walk_at "syd"
    refine ws_asg ?_
    walk_at "sy"
    rw [pow_stepk]
    exact Sy.turn_q (sl4 := [.dat (.int (n : Int)), .dat (.int (b : Int)), .dat (.int ((b ^ (k + 1) : Nat) : Int)), .unk]) ⟨rfl, rfl⟩ (by walk_at "wkl") (by walk_at "lowl")
  · obtain ⟨rfl, rfl⟩ := hI
    rw [rngD_len]
    walk_at "sy"
    exact q
def onqF : PyData → Option PyData := fun d => some (.tuple [d])
def inlK (l : List Nat) : List Kx := l.map fun (k : Nat) => Kx.inl (k : Int)
theorem onqF_eq : ∀ l : List Nat, (posD l).filterMap onqF = onesD (inlK l)
  | [] => rfl
  | a :: l => by
    show (PyData.int (a : Int) :: posD l).filterMap onqF = PyData.tuple [.int (a : Int)] :: onesD (inlK l)
    rw [List.filterMap_cons_some (show onqF (.int (a : Int)) = some (.tuple [.int (a : Int)]) from rfl), onqF_eq l]
theorem inl_pat {l : List Nat} (h : isPt l) : patL (inlK l) = l := by
  unfold inlK
  rw [patL_map fun a _ b _ e => by have := Kx.inl.inj e; omega]
  exact h
end
end Kp
end

section
-- conditions of operations on ints
local macro_rules | `(tactic| walk_at "syc") => `(tactic| first
  | exact Sy.cpow (by decide) (by decide)
  | exact Sy.mul_l (by omega) (by omega)
  | exact Sy.mul_r (by omega) (by omega)
  | exact Sy.fdiv_ok (by omega) (by omega)
  | ((show (0 : Int) < _); first | omega | (simp only [Sy.pow12, Sy.pow18, Sy.pow29, Sy.pow38, Sy.pow39, Sy.pow40]; omega)))
-- one step of the symbolic run
local macro_rules | `(tactic| walk_at "sy1") => `(tactic| first
  | with_reducible refine' Sy.ws_seq ?_
  | (with_reducible refine' Sy.ws_setI ?_)
  | (with_reducible refine' Sy.ws_asg ?_)
  | with_reducible refine' Sy.ws_ret (Sy.wp_lstO ?_)
  | with_reducible refine' Sy.ws_ret ?_
  | with_reducible refine' Sy.ws_if ?_
  | with_reducible refine' Sy.ws_drop ?_
  | with_reducible refine' Sy.ws_next ?_
  | with_reducible refine' Sy.ws_par ?_
  | with_reducible refine' Sy.wp_app ?_
  | with_reducible refine' Sy.ws_setI ?_
  | with_reducible refine' Sy.ws_dput ?_
  | with_reducible refine' Sy.wp_dget1 ?_
  | with_reducible refine' Sy.wp_dnotin ?_
  | ((with_reducible refine' Sy.wp_var ?h1 ?h2 ?_); (case h1 => rfl); (case h2 => (intro z; cases z)))
  | ((with_reducible refine' Sy.wp_c ?h1 ?_); (case h1 => rfl))
  | with_reducible refine' Sy.isi_int ?_
  | with_reducible refine' Sy.isi_bool ?_
  | with_reducible refine' Sy.isi_str ?_
  | with_reducible refine' Sy.isi_list ?_
  | with_reducible refine' Sy.isi_tuple ?_
  | with_reducible refine' Sy.isi_seq ?_
  | with_reducible refine' Sy.wp_op ?_
  | with_reducible refine' Sy.wp_neg ?_
  | with_reducible refine' Sy.wp_test ?_
  | with_reducible refine' Sy.wp_testB ?_
  | with_reducible refine' Sy.wp_and ?_
  | with_reducible refine' Sy.wp_or ?_
  | with_reducible refine' Sy.wp_not ?_
  | with_reducible refine' Sy.wp_if ?_
  | with_reducible refine' Sy.wp_andV ?_
  | with_reducible refine' Sy.wp_orV ?_
  | with_reducible refine' Sy.wp_notV ?_
  | with_reducible refine' Sy.wp_chain ?_
  | with_reducible refine' Sy.wp_cb ?_
  | with_reducible refine' Sy.wp_callE ?_
  | with_reducible refine' Sy.wp_callX0 ?_
  | (with_reducible refine' Sy.wp_ext ?_)
  | with_reducible refine' Sy.wp_tup ?_
  | with_reducible refine' Sy.wp_lst ?_
  | with_reducible refine' Sy.wp_sl ?_
  | with_reducible refine' Sy.wp_rev ?_
  | with_reducible refine' Sy.wp_join ?_
  | with_reducible refine' Sy.wo_none ?_
  | with_reducible refine' Sy.wo_some ?_
  | with_reducible refine' Sy.wa_nil ?_
  | with_reducible refine' Sy.wa_cons ?_
  | with_reducible refine' Sy.wp_yes ?_
  | with_reducible refine' Sy.wg_name ?_
  | with_reducible refine' Sy.wgs_nil ?_
  | with_reducible refine' Sy.wgs_cons ?_
  | (refine' Sy.wg_tup rfl rfl ?_)
  | (refine' Sy.wo_inl (Sy.wo_I0 rfl rfl rfl ?_))
  | (refine' Sy.wo_I0 rfl rfl rfl ?_)
  | (refine' Sy.wo_sign rfl rfl ?_)
  | (refine' Sy.wo_inl (Sy.wo_I rfl rfl ?h1 rfl ?_); (case h1 => walk_at "syc"))
  | (refine' Sy.wo_I rfl rfl ?h1 rfl ?_; (case h1 => walk_at "syc"))
  | (refine' Sy.wo_isN ?h1 rfl ?_; (case h1 => (intro z; cases z)))
  | (refine' Sy.wo_notN ?h1 rfl ?_; (case h1 => (intro z; cases z)))
  | (refine' Sy.wo_eq rfl rfl rfl ?_)
  | (refine' Sy.wo_inl (Sy.wo_eq rfl rfl rfl ?_))
  | (refine' Sy.wo_ne rfl rfl rfl ?_)
  | (refine' Sy.wo_inl (Sy.wo_ne rfl rfl rfl ?_))
  | (refine' Sy.wo_ixL rfl rfl ?h1 ?_; (case h1 => first | rfl | assumption))
  | (refine' Sy.wo_ixT rfl rfl ?h1 ?_; (case h1 => first | rfl | assumption))
  | (refine' Sy.wc_int1 rfl ?_)
  | (refine' Sy.wc_abs rfl ?_)
  | (refine' Sy.wc_max2 rfl rfl ?_)
  | (refine' Sy.wc_min2 rfl rfl ?_)
  | (refine' Sy.wc_len rfl ?_)
  | (refine' Sy.wc_lenS rfl ?h1 ?_; (case h1 => omega))
  | (refine' Sy.wc_list rfl ?_)
  | (refine' Sy.wc_listT rfl ?_)
  | (refine' Sy.wc_tuple rfl ?_)
  | ((with_reducible refine' And.intro ?h1 ?_); (case h1 => first | (with_reducible rfl) | omega | decide | (simp only [List.length_cons, List.length_nil]; omega)))
  | ((with_reducible show @ite Prop (true = true) _ _ _); refine' Sy.iteT0 ?_)
  | ((with_reducible show @ite Prop (false = true) _ _ _); refine' Sy.iteF0 ?_)
  | ((with_reducible show @ite Prop ((!true) = true) _ _ _); refine' Sy.iteNT ?_)
  | ((with_reducible show @ite Prop (@decide _ _ = true) _ _ _); (refine' Sy.iteDT ?h1 ?_); (case h1 => first | omega | rfl | (intro z; cases z)))
  | ((with_reducible show @ite Prop (@decide _ _ = true) _ _ _); (refine' Sy.iteDF ?h1 ?_); (case h1 => first | omega | rfl | (intro z; cases z)))
  | ((with_reducible show @ite Prop ((!@decide _ _) = true) _ _ _); (refine' Sy.iteND ?h1 ?_); (case h1 => first | omega | rfl | (intro z; cases z)))
  | ((with_reducible show @ite Prop ((!@decide _ _) = true) _ _ _); (refine' Sy.iteNDF ?h1 ?_); (case h1 => first | omega | rfl | (intro z; cases z)))
  | ((with_reducible show @ite Prop ((!false) = true) _ _ _); refine' Sy.iteNF ?_)
  | (with_reducible refine' Sy.ws_try ?_)
  | (with_reducible refine' Sy.wsx_drop (Sy.wx_call (Sy.wax_of ?_)))
  | (with_reducible refine' Sy.wsx_asg (Sy.wx_call (Sy.wax_of ?_)))
  | (with_reducible refine' Sy.wsx_ret (Sy.wx_call (Sy.wax_of ?_)))
  | (with_reducible refine' Sy.wsx_of ?_)
  | (refine ⟨_, rfl, ⟨_, rfl⟩, ?_⟩)
  | (refine ⟨_, rfl, ?_⟩)
  | (refine ⟨_, _, rfl, rfl, ?_⟩)
  | (refine ⟨_, _, rfl, ?_⟩)
  | ((refine' Sy.iteNo ?h1 ?_); (case h1 => (intro z; cases z)))
  | ((refine' Sy.iteYes ?h1 ?_); (case h1 => rfl)))
-- many steps
local macro_rules | `(tactic| walk_at "syd") => `(tactic| try dsimp only [List.set, List.length_cons, List.length_nil, Nat.reduceAdd, Sy.isNon, List.cons_append, List.nil_append, List.map, Bool.not_true, Bool.not_false, Sy.Ty.isInt, Sy.Ty.isBool, Sy.Ty.isStr, Sy.Ty.isList, Sy.Ty.isTuple, Sy.Ty.isSeq])
local macro_rules | `(tactic| walk_at "sy") => `(tactic| repeat ((walk_at "sy1"); (walk_at "syd")))
-- the start of a body
local macro_rules | `(tactic| walk_at "sy0") => `(tactic| dsimp only [L2.cxOf, List.length_cons, List.length_nil, Nat.reduceAdd, Nat.reduceSub, List.replicate, List.cons_append, List.nil_append])
-- a turn's end: the slots and the cells are said by the invariant
local macro_rules | `(tactic| walk_at "wkl") => `(tactic| repeat' first | exact trivial | refine ⟨.inl rfl, ?_⟩ | refine ⟨.inr rfl, ?_⟩)
local macro_rules | `(tactic| walk_at "lowl") => `(tactic| repeat' first | exact trivial | refine ⟨by omega, ?_⟩)
local macro_rules | `(tactic| walk_at "turn") => `(tactic| refine Sy.turn_q ⟨rfl, rfl⟩ (by walk_at "wkl") (by walk_at "lowl"))

namespace Kp
open PySem PySem.Spec L2 Sy
section
variable {Pg : Program} {w : World} {K : PySem.W.Frag} {mg : Str → Option Value} {base : Heap}
theorem pt_lt {s : List Nat} (h : isPt s) : ∀ p ∈ s, p < s.length := fun p hp => by
  have h2 : p ∈ patL s := by rw [h]; exact hp
  exact patL_lt h2
theorem neaP_pt (s : List Nat) : isPt (neaP s) := patN_patL (zp_ok (nea_fits s) (lefts_nodup s))
theorem forP_idem (s : List Nat) : forP (forP s) = forP s := (forP_same (forP_len s)).mpr (by rw [forP_len]; exact forP_left s)
theorem forP_nea (s : List Nat) : forP (neaP s) = forP s := (forP_same (neaP_len s)).mpr (by rw [neaP_len]; exact neaP_left s)
theorem neaP_for (s : List Nat) : neaP (forP s) = neaP s := (neaP_same (forP_len s)).mpr (by rw [forP_len]; exact forP_left s)
theorem neaP_idem (s : List Nat) : neaP (neaP s) = neaP s := (neaP_same (neaP_len s)).mpr (by rw [neaP_len]; exact neaP_left s)
theorem LogIs.for_ (h : LogIs s rs) : patN rs.length (zpF (lfL rs) (forE rs.length (lfL rs))) = forP s := by
  rw [h.lf, h.len] <;> rfl
theorem LogIs.nea_ (h : LogIs s rs) : patN rs.length (zpF (lfL rs) (nearE 0 (lfL rs))) = neaP s := by
  rw [h.lf, h.len] <;> rfl
theorem LogIs.alike {s t : List Nat} {rs ss : List Row} (h : LogIs s rs) (g : LogIs t ss) : alikeB rs.length ss.length (nxt rs) (nxt ss) = (decide (s.length = t.length) && decide (byN s.length (nxk s) = byN t.length (nxk t))) := by
  unfold alikeB
  rw [h.len, g.len, h.nx, g.nx]
theorem mx1_lens {s : List Nat} (h : isPt s) : mx1 s ≤ s.length := by have := pt_keys h; omega
theorem cutD_take2 {α : Type} {xs : List α} {k : Nat} {i : Int} (e : i = (k : Int)) : cutD xs none (some i) = xs.take k := by rw [e, cutD_take]
def pr__law_forms_right : Pr := prXC 2100 (ι := List Nat) (fun s => [.list (posD s)]) (fun s => s.length ≤ 61 ∧ isPt s) fun s d => d = .list (posD (forP s))
theorem ok__law_forms_right (T : Txt K mg) : FnOk Pg w K mg base CX0 5 T.f__law_forms_right T.d__law_forms_right ["crate", "shape_here"] (spS K pr__law_forms_right) := by
  refine ok_of _ T.F__law_forms_right sc__law_forms_right (hlenXC (n := 1) fun _ => rfl) (fun cdv A outer s H E hr => ⟨_, (pss_cons (ps_set (i := 2) sc__law_forms_right.nd rfl (.inl rfl) (pe_call (ok__law_log_of T) (hr.mono (by decide)) (by rfl) T.g__law_log_of T.F__law_log_of.kp T.B__law_log_of .nil pass0 (pa_cons (pv 0) (pa_cons (pv 1) pa_nil)))) 
    (pss_cons (ps_par (i := 3) (j := 4) rfl sc__law_forms_right.nd rfl rfl (by decide) rfl rfl (pa_cons (pe_call (ok_fore T) (hr.mono (by decide)) (by rfl) T.g_fore T.F_fore.kp T.B_fore .nil pass0 (pa_cons (pv 2) pa_nil)) (pa_cons (pe_call (ok_near T) (hr.mono (by decide)) (by rfl) T.g_near T.F_near.kp T.B_near .nil pass0 (pa_cons (pv 2) pa_nil)) pa_nil)) (by rfl)) 
    (pss_cons (ps_if (PW.pt (pw_or (pt_not (pt_val (pe_callB call_isi (by rfl) T.z_isinstance (by decide +kernel) (pa_cons (pv 3) (pa_cons (pe_bltn (v := .ty "list") (u := .type "list") (by rfl) T.z_list (by decide +kernel) rfl) pa_nil))))) (pw_or (pt_not (pt_val (pe_callB call_isi (by rfl) T.z_isinstance (by decide +kernel) (pa_cons (pv 4) (pa_cons (pe_bltn (v := .ty "list") (u := .type "list") (by rfl) T.z_list (by decide +kernel) rfl) pa_nil))))) (pw_or1 (pt_cmpR (OpR.or op_ne (op_neD hr.units)) (pe_callB call_len (by rfl) T.z_len (by decide +kernel) (pa_cons (pv 3) pa_nil)) (pe_callB call_len (by rfl) T.z_len (by decide +kernel) (pa_cons (pv 1) pa_nil)) (nomark _)))))) (pss_one (ps_ret pe_non)) pss_nil) 
    (pss_cons (ps_set (i := 5) sc__law_forms_right.nd rfl (.inl rfl) (pe_op (OpR.or op_add (OpR.or op_cat op_add_str)) (pe_callB (cr_max rfl) (by rfl) T.z_max (by decide +kernel) (pa_cons (pe_op (OpR.or op_add (OpR.or op_cat op_add_str)) (pv 1) (pe_lst (pa_cons (pe_un un_neg pe_int) pa_nil))) pa_nil)) pe_int)) 
    (pss_cons (ps_if (PW.pt (pw_or (pt_cmpR (OpR.or op_ne (op_neD hr.units)) (pe_slice (SlR.or sl_list sl_str) (pv 3) po_none (po_some (pv 5))) (pe_listRg rfl (by rfl) T.z_list (prg_1 rfl T.z_range (pv 5))) (nomark _)) (pw_or1 (pt_cmpR (OpR.or op_ne (op_neD hr.units)) (pe_call (ok__law_pattern T) (hr.mono (by decide)) (by rfl) T.g__law_pattern T.F__law_pattern.kp T.B__law_pattern .nil pass0 (pa_cons (pe_lc rfl sc__law_forms_right.nd (own := [("k", 7)]) (pi_list (pv 3)) (blkOk_by (own := [("k", 7)]) (N := N__law_forms_right) (sc := (defScope s__law_forms_right)) (by decide +kernel)) (fun _ _ _ _ _ => (pg_name (i := 7) sc__law_forms_right.nd rfl (.inl rfl))) (fun _ _ _ _ _ => pts_nil) (fun _ _ _ _ _ => (pe_tup (pa_cons (pv 7) pa_nil)))) pa_nil)) (pv 3) (nomark _))))) (pss_one (ps_ret pe_non)) pss_nil) 
    (pss_cons (ps_set (i := 6) sc__law_forms_right.nd rfl (.inl rfl) (pe_lst (pa_cons (pe_call (ok__law_log_of T) (hr.mono (by decide)) (by rfl) T.g__law_log_of T.F__law_log_of.kp T.B__law_log_of .nil pass0 (pa_cons (pv 0) (pa_cons (pv 3) pa_nil))) (pa_cons (pe_call (ok__law_log_of T) (hr.mono (by decide)) (by rfl) T.g__law_log_of T.F__law_log_of.kp T.B__law_log_of .nil pass0 (pa_cons (pv 0) (pa_cons (pv 4) pa_nil))) pa_nil)))) 
    (pss_cons (ps_if (PW.pt (pw_or (pt_cmpR (OpR.or op_ne (op_neD hr.units)) (pe_call (ok_fore T) (hr.mono (by decide)) (by rfl) T.g_fore T.F_fore.kp T.B_fore .nil pass0 (pa_cons (pe_ix ix_seq (pv 6) pe_int (fun _ _ => rfl)) pa_nil)) (pv 3) (nomark _)) (pw_or (pt_cmpR (OpR.or op_ne (op_neD hr.units)) (pe_call (ok_fore T) (hr.mono (by decide)) (by rfl) T.g_fore T.F_fore.kp T.B_fore .nil pass0 (pa_cons (pe_ix ix_seq (pv 6) pe_int (fun _ _ => rfl)) pa_nil)) (pv 3) (nomark _)) (pw_or (pt_cmpR (OpR.or op_ne (op_neD hr.units)) (pe_call (ok_near T) (hr.mono (by decide)) (by rfl) T.g_near T.F_near.kp T.B_near .nil pass0 (pa_cons (pe_ix ix_seq (pv 6) pe_int (fun _ _ => rfl)) pa_nil)) (pv 4) (nomark _)) (pw_or1 (pt_cmpR (OpR.or op_ne (op_neD hr.units)) (pe_call (ok_near T) (hr.mono (by decide)) (by rfl) T.g_near T.F_near.kp T.B_near .nil pass0 (pa_cons (pe_ix ix_seq (pv 6) pe_int (fun _ _ => rfl)) pa_nil)) (pv 4) (nomark _))))))) (pss_one (ps_ret pe_non)) pss_nil) 
    (pss_cons (ps_if (PW.pt (pw_or (pt_cmpR op_notBl (pe_call (ok_are_alike T) (hr.mono (by decide)) (by rfl) T.g_are_alike T.F_are_alike.kp T.B_are_alike .nil pass0 (pa_cons (pv 2) (pa_cons (pe_ix ix_seq (pv 6) pe_int (fun _ _ => rfl)) pa_nil))) pe_bl (nomark _)) (pw_or1 (pt_cmpR op_notBl (pe_call (ok_are_alike T) (hr.mono (by decide)) (by rfl) T.g_are_alike T.F_are_alike.kp T.B_are_alike .nil pass0 (pa_cons (pe_ix ix_seq (pv 6) pe_int (fun _ _ => rfl)) (pa_cons (pv 2) pa_nil))) pe_bl (nomark _))))) (pss_one (ps_ret pe_non)) pss_nil) 
    (pss_one (ps_ret (pv 3))))))))))), ?_⟩)
  walk_at "sy0"
  try dsimp only [N__law_forms_right, List.length_cons, List.length_nil, Nat.reduceAdd, Nat.reduceSub, List.replicate, List.cons_append, List.nil_append]
  rintro as cl Φ ⟨s, n, c, rfl, rfl, hc, hn, ⟨hl, hs⟩, q⟩
  have q := fun c' => q _ c' rfl
  dsimp only [List.map]
  have hsl := posD_length (ps := s)
  have hfl := posD_length (ps := forP s)
  have hF := forP_len s
  have hN := neaP_len s
  have hst := forP_start hs
  have hm := mx1_lens hs
  have hlt : ∀ p ∈ s, p < 600 := fun p hp => by have := pt_lt hs p hp; omega
  have hltF : ∀ p ∈ forP s, p < 600 := fun p hp => by have := pt_lt (forP_pt s) p hp; omega
  have hltN : ∀ p ∈ neaP s, p < 600 := fun p hp => by have := pt_lt (neaP_pt s) p hp; omega
  refine ws_seq ?_
  walk_at "sy"
  refine log_ok rfl hc (by omega) hl hlt fun rs c1 hR hc1 => wg_name ?_
  walk_at "syd"
  refine ws_seq (ws_par (wa_cons (wp_frz (wp_callE ?_))))
  walk_at "sy"
  refine ⟨_, call_XO rs rfl hR.lg fun es hes => ⟨1, _, rfl, rfl, ?_⟩⟩
  subst hes
  rw [hR.for_]
  refine wa_cons (wp_frz (wp_callE ?_))
  walk_at "sy"
  refine ⟨_, call_XO rs rfl hR.lg fun es hes => ⟨2, _, rfl, rfl, ?_⟩⟩
  subst hes
  rw [hR.nea_]
  walk_at "sy"
  refine wo_inr (wo_inl (wo_cat rfl rfl (by show (posD s).length + 1 ≤ _; omega) ?_))
  walk_at "sy"
  refine wc_maxI (ns := (s.map fun (k : Nat) => (k : Int)) ++ [-1]) (by show some (posD s ++ [PyData.int (-1)]) = _; rw [ints_neg]) (by simp) fun m hm1 hm2 => ?_
  have em := mx1_max hm1 hm2
  subst em
  clear hm1 hm2
  walk_at "sy"
  have e1 : (mx1 s : Int) - 1 + 1 = (mx1 s : Int) := by omega
  rw [e1]
  walk_at "sy"
  refine wsl_inl (wsl_list rfl ?_)
  have e3 : (posD (forP s)).take (mx1 s) = posD (List.range (mx1 s)) := by
    rw [← hst]
    unfold posD
    rw [List.map_take]
  have e4 : rngD 0 (mx1 s) = posD (List.range (mx1 s)) := by
    unfold rngD posD
    refine List.map_congr_left fun k _ => ?_
    rw [Int.zero_add]
  rw [cutD_take, e3]
  walk_at "sy"
  refine wp_lstRg1 ?_
  walk_at "sy"
  rw [Int.toNat_natCast, e4]
  refine wo_inr (wo_neD rfl rfl (posD_ok.shaped (by decide)) (posD_ok.shaped (by decide)) ?_)
  rw [posD_eqv2, decide_eq_true rfl]
  walk_at "sy"
  refine lc_map onqF (wi_list ?_)
  walk_at "sy"
  refine ⟨gk_name (by simp), fun j d hd => ?_, ?_⟩
  · obtain ⟨_, rfl⟩ := posD_get hd
    dsimp only [wipeS]
    walk_at "sy"
    try rfl
  rw [onqF_eq]
  walk_at "sy"
  refine pattern_ok (by unfold inlK; rw [List.length_map]; omega) ?_
  rw [inl_pat (forP_pt s)]
  refine wp_var rfl (fun z => by cases z) ?_
  refine wo_inr (wo_neD rfl rfl (posD_ok.shaped (by decide)) (posD_ok.shaped (by decide)) ?_)
  rw [posD_eqv2, decide_eq_true rfl]
  refine ⟨_, rfl, Sy.iteNo (by decide) (ws_next ?_)⟩
  refine ws_seq ?_
  walk_at "sy"
  refine log_ok rfl hc1 (by omega) (by omega) hltF fun rs1 c2 hR1 hc2 => ?_
  walk_at "sy"
  refine log_ok rfl hc2 (by omega) (by omega) hltN fun rs2 c3 hR2 hc3 => ?_
  dsimp only [rowsD]
  refine wa_nil ⟨_, rfl, by show 2 ≤ 100000; decide, wg_name ?_⟩
  walk_at "syd"
  refine ws_seq (ws_if ?_)
  walk_at "sy"
  refine ⟨_, call_XO rs1 rfl hR1.lg fun es hes => ?_⟩
  subst hes
  rw [hR1.for_, forP_idem]
  refine wp_var rfl (fun z => by cases z) ?_
  refine wo_inr (wo_neD rfl rfl (posD_ok.shaped (by decide)) (posD_ok.shaped (by decide)) ?_)
  rw [posD_eqv2, decide_eq_true rfl]
  refine ⟨_, rfl, Sy.iteNo (by decide) ?_⟩
  walk_at "sy"
  refine ⟨_, call_XO rs2 rfl hR2.lg fun es hes => ?_⟩
  subst hes
  rw [hR2.for_, forP_nea]
  refine wp_var rfl (fun z => by cases z) ?_
  refine wo_inr (wo_neD rfl rfl (posD_ok.shaped (by decide)) (posD_ok.shaped (by decide)) ?_)
  rw [posD_eqv2, decide_eq_true rfl]
  refine ⟨_, rfl, Sy.iteNo (by decide) ?_⟩
  walk_at "sy"
  refine ⟨_, call_XO rs1 rfl hR1.lg fun es hes => ?_⟩
  subst hes
  rw [hR1.nea_, neaP_for]
  refine wp_var rfl (fun z => by cases z) ?_
  refine wo_inr (wo_neD rfl rfl (posD_ok.shaped (by decide)) (posD_ok.shaped (by decide)) ?_)
  rw [posD_eqv2, decide_eq_true rfl]
  refine ⟨_, rfl, Sy.iteNo (by decide) ?_⟩
  walk_at "sy"
  refine ⟨_, call_XO rs2 rfl hR2.lg fun es hes => ?_⟩
  subst hes
  rw [hR2.nea_, neaP_idem]
  refine wp_var rfl (fun z => by cases z) ?_
  refine wo_inr (wo_neD rfl rfl (posD_ok.shaped (by decide)) (posD_ok.shaped (by decide)) ?_)
  rw [posD_eqv2, decide_eq_true rfl]
  refine ⟨_, rfl, Sy.iteNo (by decide) ?_⟩
  walk_at "sy"
  have ha1 : alikeB rs.length rs1.length (nxt rs) (nxt rs1) = true := by rw [hR.alike hR1, forP_len, forP_left]; simp
  have ha2 : alikeB rs2.length rs.length (nxt rs2) (nxt rs) = true := by rw [hR2.alike hR, neaP_len, neaP_left]; simp
  refine ⟨_, call_dat rfl ⟨rs, rs1, rfl, hR.rw, hR1.rw, rfl⟩ ?_⟩
  rw [ha1]
  walk_at "sy"
  refine wo_notBl rfl rfl ⟨_, rfl, Sy.iteNo (by decide) ?_⟩
  walk_at "sy"
  refine ⟨_, call_dat rfl ⟨rs2, rs, rfl, hR2.rw, hR.rw, rfl⟩ ?_⟩
  rw [ha2]
  walk_at "sy"
  refine wo_notBl rfl rfl ⟨_, rfl, Sy.iteNo (by decide) (ws_next ?_)⟩
  walk_at "sy"
  exact q _ (hc3.mono (by omega))
end
end Kp
end

section
-- conditions of operations on ints
local macro_rules | `(tactic| walk_at "syc") => `(tactic| first
  | exact Sy.cpow (by decide) (by decide)
  | exact Sy.mul_l (by omega) (by omega)
  | exact Sy.mul_r (by omega) (by omega)
  | exact Sy.fdiv_ok (by omega) (by omega)
  | ((show (0 : Int) < _); first | omega | (simp only [Sy.pow12, Sy.pow18, Sy.pow29, Sy.pow38, Sy.pow39, Sy.pow40]; omega)))
-- one step of the symbolic run
local macro_rules | `(tactic| walk_at "sy1") => `(tactic| first
  | with_reducible refine' Sy.ws_seq ?_
  | (with_reducible refine' Sy.ws_setI ?_)
  | (with_reducible refine' Sy.ws_asg ?_)
  | with_reducible refine' Sy.ws_ret (Sy.wp_lstO ?_)
  | with_reducible refine' Sy.ws_ret ?_
  | with_reducible refine' Sy.ws_if ?_
  | with_reducible refine' Sy.ws_drop ?_
  | with_reducible refine' Sy.ws_next ?_
  | with_reducible refine' Sy.ws_par ?_
  | with_reducible refine' Sy.wp_app ?_
  | with_reducible refine' Sy.ws_setI ?_
  | with_reducible refine' Sy.ws_dput ?_
  | with_reducible refine' Sy.wp_dget1 ?_
  | with_reducible refine' Sy.wp_dnotin ?_
  | ((with_reducible refine' Sy.wp_var ?h1 ?h2 ?_); (case h1 => rfl); (case h2 => (intro z; cases z)))
  | ((with_reducible refine' Sy.wp_c ?h1 ?_); (case h1 => rfl))
  | with_reducible refine' Sy.isi_int ?_
  | with_reducible refine' Sy.isi_bool ?_
  | with_reducible refine' Sy.isi_str ?_
  | with_reducible refine' Sy.isi_list ?_
  | with_reducible refine' Sy.isi_tuple ?_
  | with_reducible refine' Sy.isi_seq ?_
  | with_reducible refine' Sy.wp_op ?_
  | with_reducible refine' Sy.wp_neg ?_
  | with_reducible refine' Sy.wp_test ?_
  | with_reducible refine' Sy.wp_testB ?_
  | with_reducible refine' Sy.wp_and ?_
  | with_reducible refine' Sy.wp_or ?_
  | with_reducible refine' Sy.wp_not ?_
  | with_reducible refine' Sy.wp_if ?_
  | with_reducible refine' Sy.wp_andV ?_
  | with_reducible refine' Sy.wp_orV ?_
  | with_reducible refine' Sy.wp_notV ?_
  | with_reducible refine' Sy.wp_chain ?_
  | with_reducible refine' Sy.wp_cb ?_
  | with_reducible refine' Sy.wp_callE ?_
  | with_reducible refine' Sy.wp_callX0 ?_
  | (with_reducible refine' Sy.wp_ext ?_)
  | with_reducible refine' Sy.wp_tup ?_
  | with_reducible refine' Sy.wp_lst ?_
  | with_reducible refine' Sy.wp_sl ?_
  | with_reducible refine' Sy.wp_rev ?_
  | with_reducible refine' Sy.wp_join ?_
  | with_reducible refine' Sy.wo_none ?_
  | with_reducible refine' Sy.wo_some ?_
  | with_reducible refine' Sy.wa_nil ?_
  | with_reducible refine' Sy.wa_cons ?_
  | with_reducible refine' Sy.wp_yes ?_
  | with_reducible refine' Sy.wg_name ?_
  | with_reducible refine' Sy.wgs_nil ?_
  | with_reducible refine' Sy.wgs_cons ?_
  | (refine' Sy.wg_tup rfl rfl ?_)
  | (refine' Sy.wo_inl (Sy.wo_I0 rfl rfl rfl ?_))
  | (refine' Sy.wo_I0 rfl rfl rfl ?_)
  | (refine' Sy.wo_sign rfl rfl ?_)
  | (refine' Sy.wo_inl (Sy.wo_I rfl rfl ?h1 rfl ?_); (case h1 => walk_at "syc"))
  | (refine' Sy.wo_I rfl rfl ?h1 rfl ?_; (case h1 => walk_at "syc"))
  | (refine' Sy.wo_isN ?h1 rfl ?_; (case h1 => (intro z; cases z)))
  | (refine' Sy.wo_notN ?h1 rfl ?_; (case h1 => (intro z; cases z)))
  | (refine' Sy.wo_eq rfl rfl rfl ?_)
  | (refine' Sy.wo_inl (Sy.wo_eq rfl rfl rfl ?_))
  | (refine' Sy.wo_ne rfl rfl rfl ?_)
  | (refine' Sy.wo_inl (Sy.wo_ne rfl rfl rfl ?_))
  | (refine' Sy.wo_ixL rfl rfl ?h1 ?_; (case h1 => first | rfl | assumption))
  | (refine' Sy.wo_ixT rfl rfl ?h1 ?_; (case h1 => first | rfl | assumption))
  | (refine' Sy.wc_int1 rfl ?_)
  | (refine' Sy.wc_abs rfl ?_)
  | (refine' Sy.wc_max2 rfl rfl ?_)
  | (refine' Sy.wc_min2 rfl rfl ?_)
  | (refine' Sy.wc_len rfl ?_)
  | (refine' Sy.wc_lenS rfl ?h1 ?_; (case h1 => omega))
  | (refine' Sy.wc_list rfl ?_)
  | (refine' Sy.wc_listT rfl ?_)
  | (refine' Sy.wc_tuple rfl ?_)
  | ((with_reducible refine' And.intro ?h1 ?_); (case h1 => first | (with_reducible rfl) | omega | decide | (simp only [List.length_cons, List.length_nil]; omega)))
  | ((with_reducible show @ite Prop (true = true) _ _ _); refine' Sy.iteT0 ?_)
  | ((with_reducible show @ite Prop (false = true) _ _ _); refine' Sy.iteF0 ?_)
  | ((with_reducible show @ite Prop ((!true) = true) _ _ _); refine' Sy.iteNT ?_)
  | ((with_reducible show @ite Prop (@decide _ _ = true) _ _ _); (refine' Sy.iteDT ?h1 ?_); (case h1 => first | omega | rfl | (intro z; cases z)))
  | ((with_reducible show @ite Prop (@decide _ _ = true) _ _ _); (refine' Sy.iteDF ?h1 ?_); (case h1 => first | omega | rfl | (intro z; cases z)))
  | ((with_reducible show @ite Prop ((!@decide _ _) = true) _ _ _); (refine' Sy.iteND ?h1 ?_); (case h1 => first | omega | rfl | (intro z; cases z)))
  | ((with_reducible show @ite Prop ((!@decide _ _) = true) _ _ _); (refine' Sy.iteNDF ?h1 ?_); (case h1 => first | omega | rfl | (intro z; cases z)))
  | ((with_reducible show @ite Prop ((!false) = true) _ _ _); refine' Sy.iteNF ?_)
  | (with_reducible refine' Sy.ws_try ?_)
  | (with_reducible refine' Sy.wsx_drop (Sy.wx_call (Sy.wax_of ?_)))
  | (with_reducible refine' Sy.wsx_asg (Sy.wx_call (Sy.wax_of ?_)))
  | (with_reducible refine' Sy.wsx_ret (Sy.wx_call (Sy.wax_of ?_)))
  | (with_reducible refine' Sy.wsx_of ?_)
  | (refine ⟨_, rfl, ⟨_, rfl⟩, ?_⟩)
  | (refine ⟨_, rfl, ?_⟩)
  | (refine ⟨_, _, rfl, rfl, ?_⟩)
  | (refine ⟨_, _, rfl, ?_⟩)
  | ((refine' Sy.iteNo ?h1 ?_); (case h1 => (intro z; cases z)))
  | ((refine' Sy.iteYes ?h1 ?_); (case h1 => rfl)))
-- many steps
local macro_rules | `(tactic| walk_at "syd") => `(tactic| try dsimp only [List.set, List.length_cons, List.length_nil, Nat.reduceAdd, Sy.isNon, List.cons_append, List.nil_append, List.map, Bool.not_true, Bool.not_false, Sy.Ty.isInt, Sy.Ty.isBool, Sy.Ty.isStr, Sy.Ty.isList, Sy.Ty.isTuple, Sy.Ty.isSeq])
local macro_rules | `(tactic| walk_at "sy") => `(tactic| repeat ((walk_at "sy1"); (walk_at "syd")))
-- the start of a body
local macro_rules | `(tactic| walk_at "sy0") => `(tactic| dsimp only [L2.cxOf, List.length_cons, List.length_nil, Nat.reduceAdd, Nat.reduceSub, List.replicate, List.cons_append, List.nil_append])
-- a turn's end: the slots and the cells are said by the invariant
local macro_rules | `(tactic| walk_at "wkl") => `(tactic| repeat' first | exact trivial | refine ⟨.inl rfl, ?_⟩ | refine ⟨.inr rfl, ?_⟩)
local macro_rules | `(tactic| walk_at "lowl") => `(tactic| repeat' first | exact trivial | refine ⟨by omega, ?_⟩)
local macro_rules | `(tactic| walk_at "turn") => `(tactic| refine Sy.turn_q ⟨rfl, rfl⟩ (by walk_at "wkl") (by walk_at "lowl"))

namespace Kp
open PySem PySem.Spec L2 Sy
section
variable {Pg : Program} {w : World} {K : PySem.W.Frag} {mg : Str → Option Value} {base : Heap}
def pr__law_pair_right : Pr := prXC 1400 (ι := List Nat × List Nat) (fun (a, b) => [.list (posD a), .list (posD b)]) (fun (a, b) => a.length = b.length ∧ a.length ≤ 61 ∧ (∀ p ∈ a, p < 600) ∧ ∀ p ∈ b, p < 600) fun _ d => d = .bool true
theorem ok__law_matched (T : Txt K mg) : FnOk Pg w K mg base CX0 9 T.f__law_matched T.d__law_matched ["found", "due"] (spS K (pr_mt 9)) := ok_mt T 9
theorem ok__law_pair_right (T : Txt K mg) : FnOk Pg w K mg base CX0 10 T.f__law_pair_right T.d__law_pair_right ["crate", "one", "two"] (spS K pr__law_pair_right) := by
  refine ok_of _ T.F__law_pair_right sc__law_pair_right (hlenXC (n := 2) fun _ => rfl) (fun cdv A outer s H E hr => ⟨_, (pss_cons (ps_set (i := 3) sc__law_pair_right.nd rfl (.inl rfl) (pe_lst (pa_cons (pe_call (ok__law_log_of T) (hr.mono (by decide)) (by rfl) T.g__law_log_of T.F__law_log_of.kp T.B__law_log_of .nil pass0 (pa_cons (pv 0) (pa_cons (pv 1) pa_nil))) (pa_cons (pe_call (ok__law_log_of T) (hr.mono (by decide)) (by rfl) T.g__law_log_of T.F__law_log_of.kp T.B__law_log_of .nil pass0 (pa_cons (pv 0) (pa_cons (pv 2) pa_nil))) pa_nil)))) 
    (pss_cons (ps_set (i := 4) sc__law_pair_right.nd rfl (.inl rfl) (pe_call (ok_are_alike T) (hr.mono (by decide)) (by rfl) T.g_are_alike T.F_are_alike.kp T.B_are_alike .nil pass0 (pa_cons (pe_ix ix_seq (pv 3) pe_int (fun _ _ => rfl)) (pa_cons (pe_ix ix_seq (pv 3) pe_int (fun _ _ => rfl)) pa_nil)))) 
    (pss_cons (ps_if (pt_not (pt_val (pe_call (ok__law_matched T) (hr.mono (by decide)) (by rfl) T.g__law_matched T.F__law_matched.kp T.B__law_matched .nil pass0 (pa_cons (pv 4) (pa_cons (pe_cmpR (OpR.or op_eq (op_eqD hr.units)) (pe_call (ok_fore T) (hr.mono (by decide)) (by rfl) T.g_fore T.F_fore.kp T.B_fore .nil pass0 (pa_cons (pe_ix ix_seq (pv 3) pe_int (fun _ _ => rfl)) pa_nil)) (pe_call (ok_fore T) (hr.mono (by decide)) (by rfl) T.g_fore T.F_fore.kp T.B_fore .nil pass0 (pa_cons (pe_ix ix_seq (pv 3) pe_int (fun _ _ => rfl)) pa_nil)) (nomark _)) pa_nil))))) (pss_one (ps_ret pe_bl)) pss_nil) 
    (pss_one (ps_ret (pe_call (ok__law_matched T) (hr.mono (by decide)) (by rfl) T.g__law_matched T.F__law_matched.kp T.B__law_matched .nil pass0 (pa_cons (pv 4) (pa_cons (pe_cmpR (OpR.or op_eq (op_eqD hr.units)) (pe_call (ok_near T) (hr.mono (by decide)) (by rfl) T.g_near T.F_near.kp T.B_near .nil pass0 (pa_cons (pe_ix ix_seq (pv 3) pe_int (fun _ _ => rfl)) pa_nil)) (pe_call (ok_near T) (hr.mono (by decide)) (by rfl) T.g_near T.F_near.kp T.B_near .nil pass0 (pa_cons (pe_ix ix_seq (pv 3) pe_int (fun _ _ => rfl)) pa_nil)) (nomark _)) pa_nil)))))))), ?_⟩)
  walk_at "sy0"
  try dsimp only [N__law_pair_right, List.length_cons, List.length_nil, Nat.reduceAdd, Nat.reduceSub, List.replicate, List.cons_append, List.nil_append]
  rintro as cl Φ ⟨⟨a, b⟩, n, c, rfl, rfl, hc, hn, ⟨hab, hl, ha, hb⟩, q⟩
  have q := fun c' => q _ c' rfl
  dsimp only [List.map]
  refine ws_seq ?_
  walk_at "sy"
  refine log_ok rfl hc (by omega) (by omega) ha fun rs1 c2 hR1 hc2 => ?_
  walk_at "sy"
  refine log_ok rfl hc2 (by omega) (by omega) hb fun rs2 c3 hR2 hc3 => ?_
  have hal : alikeB rs1.length rs2.length (nxt rs1) (nxt rs2) = decide (byN a.length (nxk a) = byN b.length (nxk b)) := by rw [hR1.alike hR2, decide_eq_true hab, Bool.true_and]
  have hf : decide (forP a = forP b) = decide (byN a.length (nxk a) = byN b.length (nxk b)) := decide_eq_decide.mpr (forP_same hab)
  have hne : decide (neaP a = neaP b) = decide (byN a.length (nxk a) = byN b.length (nxk b)) := decide_eq_decide.mpr (neaP_same hab)
  dsimp only [rowsD]
  refine wa_nil ⟨_, rfl, by show 2 ≤ 100000; decide, wg_name ?_⟩
  walk_at "syd"
  refine ws_seq ?_
  walk_at "sy"
  refine ⟨_, call_dat rfl ⟨rs1, rs2, rfl, hR1.rw, hR2.rw, rfl⟩ ?_⟩
  rw [hal]
  generalize hB : decide (byN a.length (nxk a) = byN b.length (nxk b)) = B at hf hne
  refine wg_name ?_
  walk_at "syd"
  refine ws_seq (ws_if ?_)
  walk_at "sy"
  refine ⟨_, call_XO rs1 rfl hR1.lg fun es hes => ?_⟩
  subst hes
  rw [hR1.for_]
  walk_at "sy"
  refine ⟨_, call_XO rs2 rfl hR2.lg fun es hes => ?_⟩
  subst hes
  rw [hR2.for_]
  refine wo_inr (wo_eqD rfl rfl (posD_ok.shaped (by decide)) (posD_ok.shaped (by decide)) ?_)
  rw [posD_eqv2, hf]
  walk_at "sy"
  refine ⟨_, call_dat rfl ⟨0, _, rfl, .bool _, by decide, by decide, rfl⟩ ?_⟩
  walk_at "sy"
  refine ⟨_, call_XO rs1 rfl hR1.lg fun es hes => ?_⟩
  subst hes
  rw [hR1.nea_]
  walk_at "sy"
  refine ⟨_, call_XO rs2 rfl hR2.lg fun es hes => ?_⟩
  subst hes
  rw [hR2.nea_]
  refine wo_inr (wo_eqD rfl rfl (posD_ok.shaped (by decide)) (posD_ok.shaped (by decide)) ?_)
  rw [posD_eqv2, hne]
  walk_at "sy"
  refine ⟨_, call_dat rfl ⟨0, _, rfl, .bool _, by decide, by decide, rfl⟩ ?_⟩
  walk_at "sy"
  exact q _ (hc3.mono (by omega))
end
end Kp
end

section
-- conditions of operations on ints
local macro_rules | `(tactic| walk_at "syc") => `(tactic| first
  | exact Sy.cpow (by decide) (by decide)
  | exact Sy.mul_l (by omega) (by omega)
  | exact Sy.mul_r (by omega) (by omega)
  | exact Sy.fdiv_ok (by omega) (by omega)
  | ((show (0 : Int) < _); first | omega | (simp only [Sy.pow12, Sy.pow18, Sy.pow29, Sy.pow38, Sy.pow39, Sy.pow40]; omega)))
-- one step of the symbolic run
local macro_rules | `(tactic| walk_at "sy1") => `(tactic| first
  | with_reducible refine' Sy.ws_seq ?_
  | (with_reducible refine' Sy.ws_setI ?_)
  | (with_reducible refine' Sy.ws_asg ?_)
  | with_reducible refine' Sy.ws_ret (Sy.wp_lstO ?_)
  | with_reducible refine' Sy.ws_ret ?_
  | with_reducible refine' Sy.ws_if ?_
  | with_reducible refine' Sy.ws_drop ?_
  | with_reducible refine' Sy.ws_next ?_
  | with_reducible refine' Sy.ws_par ?_
  | with_reducible refine' Sy.wp_app ?_
  | with_reducible refine' Sy.ws_setI ?_
  | with_reducible refine' Sy.ws_dput ?_
  | with_reducible refine' Sy.wp_dget1 ?_
  | with_reducible refine' Sy.wp_dnotin ?_
  | ((with_reducible refine' Sy.wp_var ?h1 ?h2 ?_); (case h1 => rfl); (case h2 => (intro z; cases z)))
  | ((with_reducible refine' Sy.wp_c ?h1 ?_); (case h1 => rfl))
  | with_reducible refine' Sy.isi_int ?_
  | with_reducible refine' Sy.isi_bool ?_
  | with_reducible refine' Sy.isi_str ?_
  | with_reducible refine' Sy.isi_list ?_
  | with_reducible refine' Sy.isi_tuple ?_
  | with_reducible refine' Sy.isi_seq ?_
  | with_reducible refine' Sy.wp_op ?_
  | with_reducible refine' Sy.wp_neg ?_
  | with_reducible refine' Sy.wp_test ?_
  | with_reducible refine' Sy.wp_testB ?_
  | with_reducible refine' Sy.wp_and ?_
  | with_reducible refine' Sy.wp_or ?_
  | with_reducible refine' Sy.wp_not ?_
  | with_reducible refine' Sy.wp_if ?_
  | with_reducible refine' Sy.wp_andV ?_
  | with_reducible refine' Sy.wp_orV ?_
  | with_reducible refine' Sy.wp_notV ?_
  | with_reducible refine' Sy.wp_chain ?_
  | with_reducible refine' Sy.wp_cb ?_
  | with_reducible refine' Sy.wp_callE ?_
  | with_reducible refine' Sy.wp_callX0 ?_
  | (with_reducible refine' Sy.wp_ext ?_)
  | with_reducible refine' Sy.wp_tup ?_
  | with_reducible refine' Sy.wp_lst ?_
  | with_reducible refine' Sy.wp_sl ?_
  | with_reducible refine' Sy.wp_rev ?_
  | with_reducible refine' Sy.wp_join ?_
  | with_reducible refine' Sy.wo_none ?_
  | with_reducible refine' Sy.wo_some ?_
  | with_reducible refine' Sy.wa_nil ?_
  | with_reducible refine' Sy.wa_cons ?_
  | with_reducible refine' Sy.wp_yes ?_
  | with_reducible refine' Sy.wg_name ?_
  | with_reducible refine' Sy.wgs_nil ?_
  | with_reducible refine' Sy.wgs_cons ?_
  | (refine' Sy.wg_tup rfl rfl ?_)
  | (refine' Sy.wo_inl (Sy.wo_I0 rfl rfl rfl ?_))
  | (refine' Sy.wo_I0 rfl rfl rfl ?_)
  | (refine' Sy.wo_sign rfl rfl ?_)
  | (refine' Sy.wo_inl (Sy.wo_I rfl rfl ?h1 rfl ?_); (case h1 => walk_at "syc"))
  | (refine' Sy.wo_I rfl rfl ?h1 rfl ?_; (case h1 => walk_at "syc"))
  | (refine' Sy.wo_isN ?h1 rfl ?_; (case h1 => (intro z; cases z)))
  | (refine' Sy.wo_notN ?h1 rfl ?_; (case h1 => (intro z; cases z)))
  | (refine' Sy.wo_eq rfl rfl rfl ?_)
  | (refine' Sy.wo_inl (Sy.wo_eq rfl rfl rfl ?_))
  | (refine' Sy.wo_ne rfl rfl rfl ?_)
  | (refine' Sy.wo_inl (Sy.wo_ne rfl rfl rfl ?_))
  | (refine' Sy.wo_ixL rfl rfl ?h1 ?_; (case h1 => first | rfl | assumption))
  | (refine' Sy.wo_ixT rfl rfl ?h1 ?_; (case h1 => first | rfl | assumption))
  | (refine' Sy.wc_int1 rfl ?_)
  | (refine' Sy.wc_abs rfl ?_)
  | (refine' Sy.wc_max2 rfl rfl ?_)
  | (refine' Sy.wc_min2 rfl rfl ?_)
  | (refine' Sy.wc_len rfl ?_)
  | (refine' Sy.wc_lenS rfl ?h1 ?_; (case h1 => omega))
  | (refine' Sy.wc_list rfl ?_)
  | (refine' Sy.wc_listT rfl ?_)
  | (refine' Sy.wc_tuple rfl ?_)
  | ((with_reducible refine' And.intro ?h1 ?_); (case h1 => first | (with_reducible rfl) | omega | decide | (simp only [List.length_cons, List.length_nil]; omega)))
  | ((with_reducible show @ite Prop (true = true) _ _ _); refine' Sy.iteT0 ?_)
  | ((with_reducible show @ite Prop (false = true) _ _ _); refine' Sy.iteF0 ?_)
  | ((with_reducible show @ite Prop ((!true) = true) _ _ _); refine' Sy.iteNT ?_)
  | ((with_reducible show @ite Prop (@decide _ _ = true) _ _ _); (refine' Sy.iteDT ?h1 ?_); (case h1 => first | omega | rfl | (intro z; cases z)))
  | ((with_reducible show @ite Prop (@decide _ _ = true) _ _ _); (refine' Sy.iteDF ?h1 ?_); (case h1 => first | omega | rfl | (intro z; cases z)))
  | ((with_reducible show @ite Prop ((!@decide _ _) = true) _ _ _); (refine' Sy.iteND ?h1 ?_); (case h1 => first | omega | rfl | (intro z; cases z)))
  | ((with_reducible show @ite Prop ((!@decide _ _) = true) _ _ _); (refine' Sy.iteNDF ?h1 ?_); (case h1 => first | omega | rfl | (intro z; cases z)))
  | ((with_reducible show @ite Prop ((!false) = true) _ _ _); refine' Sy.iteNF ?_)
  | (with_reducible refine' Sy.ws_try ?_)
  | (with_reducible refine' Sy.wsx_drop (Sy.wx_call (Sy.wax_of ?_)))
  | (with_reducible refine' Sy.wsx_asg (Sy.wx_call (Sy.wax_of ?_)))
  | (with_reducible refine' Sy.wsx_ret (Sy.wx_call (Sy.wax_of ?_)))
  | (with_reducible refine' Sy.wsx_of ?_)
  | (refine ⟨_, rfl, ⟨_, rfl⟩, ?_⟩)
  | (refine ⟨_, rfl, ?_⟩)
  | (refine ⟨_, _, rfl, rfl, ?_⟩)
  | (refine ⟨_, _, rfl, ?_⟩)
  | ((refine' Sy.iteNo ?h1 ?_); (case h1 => (intro z; cases z)))
  | ((refine' Sy.iteYes ?h1 ?_); (case h1 => rfl)))
-- many steps
local macro_rules | `(tactic| walk_at "syd") => `(tactic| try dsimp only [List.set, List.length_cons, List.length_nil, Nat.reduceAdd, Sy.isNon, List.cons_append, List.nil_append, List.map, Bool.not_true, Bool.not_false, Sy.Ty.isInt, Sy.Ty.isBool, Sy.Ty.isStr, Sy.Ty.isList, Sy.Ty.isTuple, Sy.Ty.isSeq])
local macro_rules | `(tactic| walk_at "sy") => `(tactic| repeat ((walk_at "sy1"); (walk_at "syd")))
-- the start of a body
local macro_rules | `(tactic| walk_at "sy0") => `(tactic| dsimp only [L2.cxOf, List.length_cons, List.length_nil, Nat.reduceAdd, Nat.reduceSub, List.replicate, List.cons_append, List.nil_append])
-- a turn's end: the slots and the cells are said by the invariant
local macro_rules | `(tactic| walk_at "wkl") => `(tactic| repeat' first | exact trivial | refine ⟨.inl rfl, ?_⟩ | refine ⟨.inr rfl, ?_⟩)
local macro_rules | `(tactic| walk_at "lowl") => `(tactic| repeat' first | exact trivial | refine ⟨by omega, ?_⟩)
local macro_rules | `(tactic| walk_at "turn") => `(tactic| refine Sy.turn_q ⟨rfl, rfl⟩ (by walk_at "wkl") (by walk_at "lowl"))

namespace Kp
open PySem PySem.Spec L2 Sy
section
variable {Pg : Program} {w : World} {K : PySem.W.Frag} {mg : Str → Option Value} {base : Heap}
def natD : PyData → Nat | .int i => i.toNat | _ => 0
def unD : PyData → List Nat | .list ds => ds.map natD | _ => []
theorem unD_pos (l : List Nat) : unD (.list (posD l)) = l := by
  show (posD l).map natD = l
  unfold posD
  rw [List.map_map]
  refine (List.map_congr_left fun x _ => ?_).trans (List.map_id l)
  show ((x : Int)).toNat = x
  omega
def keepF (k : Nat) (d : PyData) : Option PyData := if mx1 (unD d) = k then some d else none
theorem keepF_pos (k : Nat) (x : List Nat) : keepF k (.list (posD x)) = if mx1 x = k then some (.list (posD x)) else none := by
  show (if mx1 (unD (.list (posD x))) = k then _ else _) = _
  rw [unD_pos]
theorem keepF_eq {k : Nat} : ∀ xs : List (List Nat), (lstsD xs).filterMap (keepF k) = lstsD (xs.filter fun one => decide (mx1 one = k))
  | [] => rfl
  | x :: xs => by
    have e := keepF_pos k x
    show (PyData.list (posD x) :: lstsD xs).filterMap (keepF k) = _
    by_cases h : mx1 x = k
    · rw [if_pos h] at e
      rw [List.filterMap_cons_some e, keepF_eq xs, List.filter_cons, if_pos (decide_eq_true h)] <;> rfl
    · rw [if_neg h] at e
      rw [List.filterMap_cons_none e, keepF_eq xs, List.filter_cons, if_neg (by rw [decide_eq_false h]; exact Bool.false_ne_true)]
theorem mx1_maxI {one : List Nat} {m : Int} (hp : 1 ≤ mx1 one) (h1 : m ∈ one.map fun (k : Nat) => (k : Int)) (h2 : ∀ y, y ∈ (one.map fun (k : Nat) => (k : Int)) → y ≤ m) : m + 1 = (mx1 one : Int) := by
  obtain ⟨x, hx, e⟩ := mx1_in (by omega : 0 < mx1 one)
  have a := h2 (x : Int) (List.mem_map.mpr ⟨x, hx, rfl⟩)
  obtain ⟨y, hy, rfl⟩ := List.mem_map.mp h1
  have b := mx1_le hy
  omega
theorem lsts_any (acc : List (List Nat)) (x : List Nat) : ((lstsD acc).any fun z => PyData.eqv z (.list (posD x))) = decide (x ∈ acc) := by
  induction acc with
  | nil => rfl
  | cons a acc ih =>
    show (PyData.eqv (.list (posD a)) (.list (posD x)) || (lstsD acc).any fun z => PyData.eqv z (.list (posD x))) = _
    rw [ih, posD_eqv2]
    by_cases h : a = x
    · subst h
      rw [decide_eq_true rfl, decide_eq_true List.mem_cons_self] <;> rfl
    · rw [decide_eq_false h, Bool.false_or]
      exact decide_eq_decide.mpr ⟨List.mem_cons_of_mem _, fun z => (List.mem_cons.mp z).resolve_left fun w => h w.symm⟩
theorem frm_len : ∀ (l acc : List (List Nat)), (l.foldl frmF acc).length ≤ acc.length + l.length
  | [], _ => Nat.le_refl _
  | x :: l, acc => by
    have h := frm_len l (frmF acc x)
    have h2 : (frmF acc x).length ≤ acc.length + 1 := by
      unfold frmF insN
      split
      · omega
      · rw [List.length_append]; exact Nat.le_refl _
    show (l.foldl frmF (frmF acc x)).length ≤ _
    rw [List.length_cons]
    omega
theorem frm_snoc {l : List (List Nat)} {j : Nat} (h : j < l.length) : (l.take (j + 1)).foldl frmF [] = frmF ((l.take j).foldl frmF []) l[j] := by
  rw [List.take_succ_eq_append_getElem h, List.foldl_append] <;> rfl
theorem unl_ok {C : Addr} {sl : List SD} {cl : List Cell} {Φ : SD → List Cell → Prop} {Ξ : XS} (n : Nat) (hn : n ≤ 900) (q : Φ (.dat (.int ((sumU n : Nat) : Int))) cl) : ∃ sel, CallOkX (pr_unlike_count C) [.dat (.int (n : Int))] sl cl sel Φ Ξ := by
  have hf : isFromB 0 (.int (n : Int)) = true := by
    show decide ((0 : Int) ≤ (n : Int)) = true
    exact decide_eq_true (by omega)
  refine ⟨_, call_V (.int (n : Int)) rfl ⟨trivial, fun i h => by have := PyData.int.inj h; omega⟩ (fun _ r hr => ?_) fun c h => ?_⟩
  · rw [hr n rfl]; exact q
  · rw [if_pos hf] at h; cases h
end
end Kp
end

section
-- conditions of operations on ints
local macro_rules | `(tactic| walk_at "syc") => `(tactic| first
  | exact Sy.cpow (by decide) (by decide)
  | exact Sy.mul_l (by omega) (by omega)
  | exact Sy.mul_r (by omega) (by omega)
  | exact Sy.fdiv_ok (by omega) (by omega)
  | ((show (0 : Int) < _); first | omega | (simp only [Sy.pow12, Sy.pow18, Sy.pow29, Sy.pow38, Sy.pow39, Sy.pow40]; omega)))
-- one step of the symbolic run
local macro_rules | `(tactic| walk_at "sy1") => `(tactic| first
  | with_reducible refine' Sy.ws_seq ?_
  | (with_reducible refine' Sy.ws_setI ?_)
  | (with_reducible refine' Sy.ws_asg ?_)
  | with_reducible refine' Sy.ws_ret (Sy.wp_lstO ?_)
  | with_reducible refine' Sy.ws_ret ?_
  | with_reducible refine' Sy.ws_if ?_
  | with_reducible refine' Sy.ws_drop ?_
  | with_reducible refine' Sy.ws_next ?_
  | with_reducible refine' Sy.ws_par ?_
  | with_reducible refine' Sy.wp_app ?_
  | with_reducible refine' Sy.ws_setI ?_
  | with_reducible refine' Sy.ws_dput ?_
  | with_reducible refine' Sy.wp_dget1 ?_
  | with_reducible refine' Sy.wp_dnotin ?_
  | ((with_reducible refine' Sy.wp_var ?h1 ?h2 ?_); (case h1 => rfl); (case h2 => (intro z; cases z)))
  | ((with_reducible refine' Sy.wp_c ?h1 ?_); (case h1 => rfl))
  | with_reducible refine' Sy.isi_int ?_
  | with_reducible refine' Sy.isi_bool ?_
  | with_reducible refine' Sy.isi_str ?_
  | with_reducible refine' Sy.isi_list ?_
  | with_reducible refine' Sy.isi_tuple ?_
  | with_reducible refine' Sy.isi_seq ?_
  | with_reducible refine' Sy.wp_op ?_
  | with_reducible refine' Sy.wp_neg ?_
  | with_reducible refine' Sy.wp_test ?_
  | with_reducible refine' Sy.wp_testB ?_
  | with_reducible refine' Sy.wp_and ?_
  | with_reducible refine' Sy.wp_or ?_
  | with_reducible refine' Sy.wp_not ?_
  | with_reducible refine' Sy.wp_if ?_
  | with_reducible refine' Sy.wp_andV ?_
  | with_reducible refine' Sy.wp_orV ?_
  | with_reducible refine' Sy.wp_notV ?_
  | with_reducible refine' Sy.wp_chain ?_
  | with_reducible refine' Sy.wp_cb ?_
  | with_reducible refine' Sy.wp_callE ?_
  | with_reducible refine' Sy.wp_callX0 ?_
  | (with_reducible refine' Sy.wp_ext ?_)
  | with_reducible refine' Sy.wp_tup ?_
  | with_reducible refine' Sy.wp_lst ?_
  | with_reducible refine' Sy.wp_sl ?_
  | with_reducible refine' Sy.wp_rev ?_
  | with_reducible refine' Sy.wp_join ?_
  | with_reducible refine' Sy.wo_none ?_
  | with_reducible refine' Sy.wo_some ?_
  | with_reducible refine' Sy.wa_nil ?_
  | with_reducible refine' Sy.wa_cons ?_
  | with_reducible refine' Sy.wp_yes ?_
  | with_reducible refine' Sy.wg_name ?_
  | with_reducible refine' Sy.wgs_nil ?_
  | with_reducible refine' Sy.wgs_cons ?_
  | (refine' Sy.wg_tup rfl rfl ?_)
  | (refine' Sy.wo_inl (Sy.wo_I0 rfl rfl rfl ?_))
  | (refine' Sy.wo_I0 rfl rfl rfl ?_)
  | (refine' Sy.wo_sign rfl rfl ?_)
  | (refine' Sy.wo_inl (Sy.wo_I rfl rfl ?h1 rfl ?_); (case h1 => walk_at "syc"))
  | (refine' Sy.wo_I rfl rfl ?h1 rfl ?_; (case h1 => walk_at "syc"))
  | (refine' Sy.wo_isN ?h1 rfl ?_; (case h1 => (intro z; cases z)))
  | (refine' Sy.wo_notN ?h1 rfl ?_; (case h1 => (intro z; cases z)))
  | (refine' Sy.wo_eq rfl rfl rfl ?_)
  | (refine' Sy.wo_inl (Sy.wo_eq rfl rfl rfl ?_))
  | (refine' Sy.wo_ne rfl rfl rfl ?_)
  | (refine' Sy.wo_inl (Sy.wo_ne rfl rfl rfl ?_))
  | (refine' Sy.wo_ixL rfl rfl ?h1 ?_; (case h1 => first | rfl | assumption))
  | (refine' Sy.wo_ixT rfl rfl ?h1 ?_; (case h1 => first | rfl | assumption))
  | (refine' Sy.wc_int1 rfl ?_)
  | (refine' Sy.wc_abs rfl ?_)
  | (refine' Sy.wc_max2 rfl rfl ?_)
  | (refine' Sy.wc_min2 rfl rfl ?_)
  | (refine' Sy.wc_len rfl ?_)
  | (refine' Sy.wc_lenS rfl ?h1 ?_; (case h1 => omega))
  | (refine' Sy.wc_list rfl ?_)
  | (refine' Sy.wc_listT rfl ?_)
  | (refine' Sy.wc_tuple rfl ?_)
  | ((with_reducible refine' And.intro ?h1 ?_); (case h1 => first | (with_reducible rfl) | omega | decide | (simp only [List.length_cons, List.length_nil]; omega)))
  | ((with_reducible show @ite Prop (true = true) _ _ _); refine' Sy.iteT0 ?_)
  | ((with_reducible show @ite Prop (false = true) _ _ _); refine' Sy.iteF0 ?_)
  | ((with_reducible show @ite Prop ((!true) = true) _ _ _); refine' Sy.iteNT ?_)
  | ((with_reducible show @ite Prop (@decide _ _ = true) _ _ _); (refine' Sy.iteDT ?h1 ?_); (case h1 => first | omega | rfl | (intro z; cases z)))
  | ((with_reducible show @ite Prop (@decide _ _ = true) _ _ _); (refine' Sy.iteDF ?h1 ?_); (case h1 => first | omega | rfl | (intro z; cases z)))
  | ((with_reducible show @ite Prop ((!@decide _ _) = true) _ _ _); (refine' Sy.iteND ?h1 ?_); (case h1 => first | omega | rfl | (intro z; cases z)))
  | ((with_reducible show @ite Prop ((!@decide _ _) = true) _ _ _); (refine' Sy.iteNDF ?h1 ?_); (case h1 => first | omega | rfl | (intro z; cases z)))
  | ((with_reducible show @ite Prop ((!false) = true) _ _ _); refine' Sy.iteNF ?_)
  | (with_reducible refine' Sy.ws_try ?_)
  | (with_reducible refine' Sy.wsx_drop (Sy.wx_call (Sy.wax_of ?_)))
  | (with_reducible refine' Sy.wsx_asg (Sy.wx_call (Sy.wax_of ?_)))
  | (with_reducible refine' Sy.wsx_ret (Sy.wx_call (Sy.wax_of ?_)))
  | (with_reducible refine' Sy.wsx_of ?_)
  | (refine ⟨_, rfl, ⟨_, rfl⟩, ?_⟩)
  | (refine ⟨_, rfl, ?_⟩)
  | (refine ⟨_, _, rfl, rfl, ?_⟩)
  | (refine ⟨_, _, rfl, ?_⟩)
  | ((refine' Sy.iteNo ?h1 ?_); (case h1 => (intro z; cases z)))
  | ((refine' Sy.iteYes ?h1 ?_); (case h1 => rfl)))
-- many steps
local macro_rules | `(tactic| walk_at "syd") => `(tactic| try dsimp only [List.set, List.length_cons, List.length_nil, Nat.reduceAdd, Sy.isNon, List.cons_append, List.nil_append, List.map, Bool.not_true, Bool.not_false, Sy.Ty.isInt, Sy.Ty.isBool, Sy.Ty.isStr, Sy.Ty.isList, Sy.Ty.isTuple, Sy.Ty.isSeq])
local macro_rules | `(tactic| walk_at "sy") => `(tactic| repeat ((walk_at "sy1"); (walk_at "syd")))
-- the start of a body
local macro_rules | `(tactic| walk_at "sy0") => `(tactic| dsimp only [L2.cxOf, List.length_cons, List.length_nil, Nat.reduceAdd, Nat.reduceSub, List.replicate, List.cons_append, List.nil_append])
-- a turn's end: the slots and the cells are said by the invariant
local macro_rules | `(tactic| walk_at "wkl") => `(tactic| repeat' first | exact trivial | refine ⟨.inl rfl, ?_⟩ | refine ⟨.inr rfl, ?_⟩)
local macro_rules | `(tactic| walk_at "lowl") => `(tactic| repeat' first | exact trivial | refine ⟨by omega, ?_⟩)
local macro_rules | `(tactic| walk_at "turn") => `(tactic| refine Sy.turn_q ⟨rfl, rfl⟩ (by walk_at "wkl") (by walk_at "lowl"))

namespace Kp
open PySem PySem.Spec L2 Sy
section
variable {Pg : Program} {w : World} {K : PySem.W.Frag} {mg : Str → Option Value} {base : Heap}
def pr__law_small_right : Pr := prXC 160000 (ι := Nat) (fun n => [.int (n : Int)]) (fun n => n ≤ 5) fun _ d => d = .bool true
theorem ok__law_small_right (T : Txt K mg) : FnOk Pg w K mg base CX0 6 T.f__law_small_right T.d__law_small_right ["crate", "size"] (spS K pr__law_small_right) := by
  refine ok_of _ T.F__law_small_right sc__law_small_right (hlenXC (n := 1) fun _ => rfl) (fun cdv A outer s H E hr => ⟨_, (pss_cons (ps_par (i := 2) (j := 3) rfl sc__law_small_right.nd rfl rfl (by decide) rfl rfl (pa_cons (pe_call (ok__law_all_shapes T) (hr.mono (by decide)) (by rfl) T.g__law_all_shapes T.F__law_all_shapes.kp T.B__law_all_shapes .nil pass0 (pa_cons (pv 1) pa_nil)) (pa_cons (pe_lst pa_nil) pa_nil)) (by rfl)) 
    (pss_cons (ps_for PassesOwn.never rfl (pi_list (pv 2)) (pg_name (i := 4) sc__law_small_right.nd rfl (.inl rfl))
    (pss_cons (ps_set (i := 5) sc__law_small_right.nd rfl (.inl rfl) (pe_call (ok__law_forms_right T) (hr.mono (by decide)) (by rfl) T.g__law_forms_right T.F__law_forms_right.kp T.B__law_forms_right .nil pass0 (pa_cons (pv 0) (pa_cons (pv 4) pa_nil)))) 
    (pss_cons (ps_if (pt_cmpR op_isN (pv 5) pe_non (nomark _)) (pss_one (ps_ret pe_bl)) pss_nil) 
    (pss_one (ps_if (pt_cmpR (op_notInD (un65 hr)) (pv 5) (pv 3) (by rfl)) (pss_one (ps_expr (pe_bm PySem.F.plainAttrs_list PySem.F.slot_list_append PySem.F.type_list_append mt_append (pv 3) (pa_cons (pv 5) pa_nil)))) pss_nil))))) 
    (pss_cons (ps_if (pt_cmpR (OpR.or op_ne (op_neD hr.units)) (pe_callB call_len (by rfl) T.z_len (by decide +kernel) (pa_cons (pv 3) pa_nil)) (pe_callS (ok_unlike_count T) (hr.mono (by decide)) (by rfl) T.g_unlike_count T.F_unlike_count.kp T.B_unlike_count (fun σ => passAt takes0 σ) (pa_cons (pv 1) pa_nil)) (nomark _)) (pss_one (ps_ret pe_bl)) pss_nil) 
    (pss_cons (ps_for PassesOwn.never rfl (pi_range2 rfl T.z_range (pa_cons pe_int (pa_cons (pe_op (OpR.or op_add (OpR.or op_cat op_add_str)) (pv 1) pe_int) pa_nil))) (pg_name (i := 6) sc__law_small_right.nd rfl (.inr rfl))
    (pss_one (ps_if (pt_cmpR (OpR.or op_ne (op_neD hr.units)) (pe_callB call_len (by rfl) T.z_len (by decide +kernel) (pa_cons (pe_lc rfl sc__law_small_right.nd (own := [("one", 4)]) (pi_list (pv 3)) (blkOk_by (own := [("one", 4)]) (N := N__law_small_right) (sc := (defScope s__law_small_right)) (by decide +kernel)) (fun _ _ _ _ _ => (pg_name (i := 4) sc__law_small_right.nd rfl (.inl rfl))) (fun _ _ _ _ _ => (pts_one (pt_cmpR (OpR.or op_eq (op_eqDK (K := K) rfl hr.units)) (pe_op (OpR.or op_add (OpR.or op_cat op_add_str)) (pe_callB (cr_maxQ (K := K) rfl rfl) (by rfl) T.z_max (by decide +kernel) (pa_cons (pv 4) pa_nil)) pe_int) (pv 6) (nomark _)))) (fun _ _ _ _ _ => (pv 4))) pa_nil)) (pe_call (ok__law_powers T) (hr.mono (by decide)) (by rfl) T.g__law_powers T.F__law_powers.kp T.B__law_powers .nil pass0 (pa_cons (pv 1) (pa_cons (pv 6) pa_nil))) (nomark _)) (pss_one (ps_ret pe_bl)) pss_nil))) 
    (pss_one (ps_ret (pe_cmpR (OpR.or op_eq (op_eqD hr.units)) (pe_callB (cr_sum rfl) (by rfl) T.z_sum (by decide +kernel) (pa_cons (pe_lc rfl sc__law_small_right.nd (own := [("one", 4)]) (pi_list (pv 3)) (blkOk_by (own := [("one", 4)]) (N := N__law_small_right) (sc := (defScope s__law_small_right)) (by decide +kernel)) (fun _ _ _ _ _ => (pg_name (i := 4) sc__law_small_right.nd rfl (.inl rfl))) (fun _ _ _ _ _ => pts_nil) (fun _ _ _ _ _ => (pe_call (ok_alike_count T) (hr.mono (by decide)) (by rfl) T.g_alike_count T.F_alike_count.kp T.B_alike_count .nil pass0 (pa_cons (pe_call (ok__law_log_of T) (hr.mono (by decide)) (by rfl) T.g__law_log_of T.F__law_log_of.kp T.B__law_log_of .nil pass0 (pa_cons (pv 0) (pa_cons (pv 4) pa_nil))) pa_nil)))) pa_nil)) (pe_callB call_len (by rfl) T.z_len (by decide +kernel) (pa_cons (pv 2) pa_nil)) (nomark _)))))))), ?_⟩)
  walk_at "sy0"
  try dsimp only [N__law_small_right, List.length_cons, List.length_nil, Nat.reduceAdd, Nat.reduceSub, List.replicate, List.cons_append, List.nil_append]
  rintro as cl Φ ⟨n, m, c, rfl, rfl, hc, hm, hn, q⟩
  have q := fun c' => q _ c' rfl
  dsimp only [List.map]
  obtain ⟨z1, z2⟩ := shapes_small n (by omega)
  have zp := shp_pt n hn
  have z52 : (shapesL n).length ≤ 52 := (by decide +kernel : ∀ n : Fin 6, (shapesL n.val).length ≤ 52) ⟨n, by omega⟩
  obtain ⟨f1, f2, f3, f4⟩ := frm_small n hn
  have hsl := lsts_len (l := shapesL n)
  refine ws_seq (ws_par (wa_cons ?_))
  walk_at "sy"
  refine ⟨_, call_X n rfl (by omega) fun d hd => ?_⟩
  subst hd
  refine wa_cons (wp_lstO ?_)
  walk_at "sy"
  refine ws_for (wi_list ?_)
  walk_at "sy"
  refine ⟨fun (j : Nat) (sl : List SD) (cl : List Cell) => sl = [.own 0, .dat (.int (n : Int)), .dat (.list (lstsD (shapesL n))), .own 1, .unk, .unk, .unk] ∧ ∃ c, cl = [c, .lst (lstsD (((shapesL n).take j).foldl frmF []))] ∧ Crate (m + 2100 * j) c, ⟨rfl, c, rfl, hc⟩, fun j d sl' cl' hd hI hl => ?_, fun sl' cl' hI hl => ?_⟩
  · obtain ⟨rfl, c1, rfl, hc1⟩ := hI
    have hj : j < (shapesL n).length := by
      have := (List.getElem?_eq_some_iff.mp hd).1
      rwa [lsts_len] at this
    have ed : d = .list (posD (shapesL n)[j]) := by
      unfold lstsD at hd
      rw [List.getElem?_map, List.getElem?_eq_getElem hj] at hd
      exact (Option.some.inj hd).symm
    subst ed
    obtain ⟨_, z3⟩ := z2 _ (List.getElem_mem hj)
    obtain ⟨p1, p2⟩ := zp _ (List.getElem_mem hj)
    have hsn := frm_snoc hj
    have hle := frm_len ((shapesL n).take j) []
    rw [List.length_take, List.length_nil] at hle
    generalize (shapesL n)[j] = one at z3 p1 p2 hsn ⊢
    generalize ((shapesL n).take j).foldl frmF [] = acc at hsn hle ⊢
    have hal := lsts_len (l := acc)
    refine wg_name ?_
    walk_at "syd"
    refine ws_seq ?_
    walk_at "sy"
    refine ⟨_, call_XC one rfl rfl hc1 (by omega) ⟨by omega, p1⟩ fun d c2 hd hc2 => ?_⟩
    subst hd
    walk_at "sy"
    refine wo_notInDp rfl rfl (posD_ok.shaped (by decide)) ((lsts_ok acc).shaped (by decide)) ?_
    rw [lsts_any]
    refine ⟨_, rfl, Sy.iteNDD (fun h => ?_) (fun h => ?_)⟩
    · have e2 : frmF acc one = acc ++ [forP one] := if_neg h
      rw [e2] at hsn
      walk_at "sy"
      have e3 : lstsD acc ++ [PyData.list (posD (forP one))] = lstsD (acc ++ [forP one]) := by unfold lstsD; rw [List.map_append] <;> rfl
      rw [e3, ← hsn]
      exact Sy.turn_q (sl4 := [.own 0, .dat (.int (n : Int)), .dat (.list (lstsD (shapesL n))), .own 1, .unk, .unk, .unk]) ⟨rfl, c2, rfl, hc2.mono (by omega)⟩ (by walk_at "wkl") (by walk_at "lowl")
    · have e2 : frmF acc one = acc := if_pos h
      rw [e2] at hsn
      refine ws_next ?_
      dsimp only
      rw [← hsn]
      exact Sy.turn_q (sl4 := [.own 0, .dat (.int (n : Int)), .dat (.list (lstsD (shapesL n))), .own 1, .unk, .unk, .unk]) ⟨rfl, c2, rfl, hc2.mono (by omega)⟩ (by walk_at "wkl") (by walk_at "lowl")
  · obtain ⟨rfl, c1, rfl, hc1⟩ := hI
    rw [hsl, List.take_length]
    rw [hsl] at hc1
    have ef : (shapesL n).foldl frmF [] = frmL n := rfl
    rw [ef]
    have hfl := lsts_len (l := frmL n)
    have hf52 := frm_len (shapesL n) []
    rw [ef, List.length_nil] at hf52
    refine ws_frz 1 rfl ?_
    dsimp only [List.map, frzD, List.set, ↓reduceIte, Nat.zero_ne_one, if_false]
    refine ws_seq (ws_if ?_)
    walk_at "sy"
    refine unl_ok n (by omega) ?_
    rw [hfl, f1]
    walk_at "sy"
    clear hl ef
    refine ws_seq (ws_for (wi_rng2 ?_))
    walk_at "sy"
    have en : ((n : Int) + 1 - 1).toNat = n := by omega
    rw [en]
    refine ⟨fun (j : Nat) (sl : List SD) (cl : List Cell) => sl = [.own 0, .dat (.int (n : Int)), .dat (.list (lstsD (shapesL n))), .dat (.list (lstsD (frmL n))), .unk, .unk, .unk] ∧ cl = [c1, .dead], ⟨rfl, rfl⟩, fun j d sl' cl' hd hI hl => ?_, fun sl' cl' hI hl => ?_⟩
    · obtain ⟨rfl, rfl⟩ := hI
      obtain ⟨hj, rfl⟩ := rngD_get hd
      have e1 : (1 : Int) + (j : Int) = ((j + 1 : Nat) : Int) := by omega
      rw [e1]
      have f3 := f3 (j + 1) (by omega) (by omega)
      refine wg_name ?_
      walk_at "syd"
      refine ws_if ?_
      walk_at "sy"
      refine lc_map (keepF (j + 1)) (wi_list ?_)
      walk_at "sy"
      refine ⟨gk_name (by simp), fun i d hd => ?_, ?_⟩
      · obtain ⟨one, hm1, rfl⟩ := List.mem_map.mp (List.mem_of_getElem? hd)
        obtain ⟨g1, g2, g3, g4⟩ := f2 one hm1
        have g3 := g3 (by omega)
        have hol := posD_length (ps := one)
        dsimp only [wipeS]
        walk_at "sy"
        refine wc_maxI (ns := one.map fun (k : Nat) => (k : Int)) (by show some (posD one) = _; unfold posD; rw [List.map_map] <;> rfl) (by rw [List.length_map]; omega) fun m h1 h2 => ?_
        have em := mx1_maxI g3 h1 h2
        clear h1 h2
        walk_at "sy"
        rw [em, keepF_pos]
        refine iteD (fun h => ?_) (fun h => ?_)
        · rw [if_pos (by omega)]
          walk_at "sy"
        · rw [if_neg (by omega)]
      · rw [keepF_eq]
        walk_at "sy"
        rw [show (n : Int) = ((n : Nat) : Int) from rfl]
        refine ⟨_, call_X (n, j + 1) rfl ⟨by omega, by omega⟩ fun r hr => ?_⟩
        subst hr
        rw [lsts_len, f3]
        walk_at "sy"
        exact Sy.turn_q (sl4 := [.own 0, .dat (.int (n : Int)), .dat (.list (lstsD (shapesL n))), .dat (.list (lstsD (frmL n))), .unk, .unk, .unk]) ⟨rfl, rfl⟩ (by walk_at "wkl") (by walk_at "lowl")
    · obtain ⟨rfl, rfl⟩ := hI
      refine ws_next ?_
      dsimp only
      walk_at "sy"
      refine lc_raw (own := false) (wi_list ?_)
      walk_at "sy"
      refine ⟨gk_name (by simp), fun i acc cl' => ∃ c, cl' = [c, .dead] ∧ Crate (m + 2100 * 52 + 700 * i) c ∧ acc = posD (((frmL n).take i).map fun one => behF n (byN n (nxk one)) 0), ⟨c1, rfl, hc1.mono (by omega), rfl⟩, fun i d acc cl' hd hI ha hl => ?_, fun acc cl' hI ha hl => ?_⟩
      · obtain ⟨c2, rfl, hc2, rfl⟩ := hI
        have hi : i < (frmL n).length := by
          have := (List.getElem?_eq_some_iff.mp hd).1
          rwa [lsts_len] at this
        have ed : d = .list (posD (frmL n)[i]) := by
          unfold lstsD at hd
          rw [List.getElem?_map, List.getElem?_eq_getElem hi] at hd
          exact (Option.some.inj hd).symm
        subst ed
        obtain ⟨g1, g2, _, g4⟩ := f2 _ (List.getElem_mem hi)
        have hsn : ((frmL n).take (i + 1)).map (fun one => behF n (byN n (nxk one)) 0) = ((frmL n).take i).map (fun one => behF n (byN n (nxk one)) 0) ++ [behF n (byN n (nxk (frmL n)[i])) 0] := by
          rw [List.take_succ_eq_append_getElem hi, List.map_append] <;> rfl
        generalize (frmL n)[i] = one at g1 g2 g4 hsn ⊢
        dsimp only [wipeS]
        walk_at "sy"
        refine log_ok rfl hc2 (by omega) (by omega) g4 fun rs c3 hR hc3 => ?_
        walk_at "sy"
        refine ⟨_, call_X rs rfl hR.lg fun r hr => ?_⟩
        subst hr
        rw [hR.lf, hR.len, g1]
        refine ⟨_, rfl, c3, rfl, hc3.mono (by omega), ?_⟩
        rw [hsn]
        unfold posD
        rw [List.map_append] <;> rfl
      · obtain ⟨c2, rfl, hc2, rfl⟩ := hI
        rw [hfl, List.take_length]
        rw [hfl] at hc2
        walk_at "sy"
        refine wc_sumN (by rfl) ?_
        rw [f4]
        walk_at "sy"
        rw [hsl, decide_eq_true rfl]
        exact q _ (hc2.mono (by omega))
end
end Kp
end

section
-- conditions of operations on ints
local macro_rules | `(tactic| walk_at "syc") => `(tactic| first
  | exact Sy.cpow (by decide) (by decide)
  | exact Sy.mul_l (by omega) (by omega)
  | exact Sy.mul_r (by omega) (by omega)
  | exact Sy.fdiv_ok (by omega) (by omega)
  | ((show (0 : Int) < _); first | omega | (simp only [Sy.pow12, Sy.pow18, Sy.pow29, Sy.pow38, Sy.pow39, Sy.pow40]; omega)))
-- one step of the symbolic run
local macro_rules | `(tactic| walk_at "sy1") => `(tactic| first
  | with_reducible refine' Sy.ws_seq ?_
  | (with_reducible refine' Sy.ws_setI ?_)
  | (with_reducible refine' Sy.ws_asg ?_)
  | with_reducible refine' Sy.ws_ret (Sy.wp_lstO ?_)
  | with_reducible refine' Sy.ws_ret ?_
  | with_reducible refine' Sy.ws_if ?_
  | with_reducible refine' Sy.ws_drop ?_
  | with_reducible refine' Sy.ws_next ?_
  | with_reducible refine' Sy.ws_par ?_
  | with_reducible refine' Sy.wp_app ?_
  | with_reducible refine' Sy.ws_setI ?_
  | with_reducible refine' Sy.ws_dput ?_
  | with_reducible refine' Sy.wp_dget1 ?_
  | with_reducible refine' Sy.wp_dnotin ?_
  | ((with_reducible refine' Sy.wp_var ?h1 ?h2 ?_); (case h1 => rfl); (case h2 => (intro z; cases z)))
  | ((with_reducible refine' Sy.wp_c ?h1 ?_); (case h1 => rfl))
  | with_reducible refine' Sy.isi_int ?_
  | with_reducible refine' Sy.isi_bool ?_
  | with_reducible refine' Sy.isi_str ?_
  | with_reducible refine' Sy.isi_list ?_
  | with_reducible refine' Sy.isi_tuple ?_
  | with_reducible refine' Sy.isi_seq ?_
  | with_reducible refine' Sy.wp_op ?_
  | with_reducible refine' Sy.wp_neg ?_
  | with_reducible refine' Sy.wp_test ?_
  | with_reducible refine' Sy.wp_testB ?_
  | with_reducible refine' Sy.wp_and ?_
  | with_reducible refine' Sy.wp_or ?_
  | with_reducible refine' Sy.wp_not ?_
  | with_reducible refine' Sy.wp_if ?_
  | with_reducible refine' Sy.wp_andV ?_
  | with_reducible refine' Sy.wp_orV ?_
  | with_reducible refine' Sy.wp_notV ?_
  | with_reducible refine' Sy.wp_chain ?_
  | with_reducible refine' Sy.wp_cb ?_
  | with_reducible refine' Sy.wp_callE ?_
  | with_reducible refine' Sy.wp_callX0 ?_
  | (with_reducible refine' Sy.wp_ext ?_)
  | with_reducible refine' Sy.wp_tup ?_
  | with_reducible refine' Sy.wp_lst ?_
  | with_reducible refine' Sy.wp_sl ?_
  | with_reducible refine' Sy.wp_rev ?_
  | with_reducible refine' Sy.wp_join ?_
  | with_reducible refine' Sy.wo_none ?_
  | with_reducible refine' Sy.wo_some ?_
  | with_reducible refine' Sy.wa_nil ?_
  | with_reducible refine' Sy.wa_cons ?_
  | with_reducible refine' Sy.wp_yes ?_
  | with_reducible refine' Sy.wg_name ?_
  | with_reducible refine' Sy.wgs_nil ?_
  | with_reducible refine' Sy.wgs_cons ?_
  | (refine' Sy.wg_tup rfl rfl ?_)
  | (refine' Sy.wo_inl (Sy.wo_I0 rfl rfl rfl ?_))
  | (refine' Sy.wo_I0 rfl rfl rfl ?_)
  | (refine' Sy.wo_sign rfl rfl ?_)
  | (refine' Sy.wo_inl (Sy.wo_I rfl rfl ?h1 rfl ?_); (case h1 => walk_at "syc"))
  | (refine' Sy.wo_I rfl rfl ?h1 rfl ?_; (case h1 => walk_at "syc"))
  | (refine' Sy.wo_isN ?h1 rfl ?_; (case h1 => (intro z; cases z)))
  | (refine' Sy.wo_notN ?h1 rfl ?_; (case h1 => (intro z; cases z)))
  | (refine' Sy.wo_eq rfl rfl rfl ?_)
  | (refine' Sy.wo_inl (Sy.wo_eq rfl rfl rfl ?_))
  | (refine' Sy.wo_ne rfl rfl rfl ?_)
  | (refine' Sy.wo_inl (Sy.wo_ne rfl rfl rfl ?_))
  | (refine' Sy.wo_ixL rfl rfl ?h1 ?_; (case h1 => first | rfl | assumption))
  | (refine' Sy.wo_ixT rfl rfl ?h1 ?_; (case h1 => first | rfl | assumption))
  | (refine' Sy.wc_int1 rfl ?_)
  | (refine' Sy.wc_abs rfl ?_)
  | (refine' Sy.wc_max2 rfl rfl ?_)
  | (refine' Sy.wc_min2 rfl rfl ?_)
  | (refine' Sy.wc_len rfl ?_)
  | (refine' Sy.wc_lenS rfl ?h1 ?_; (case h1 => omega))
  | (refine' Sy.wc_list rfl ?_)
  | (refine' Sy.wc_listT rfl ?_)
  | (refine' Sy.wc_tuple rfl ?_)
  | ((with_reducible refine' And.intro ?h1 ?_); (case h1 => first | (with_reducible rfl) | omega | decide | (simp only [List.length_cons, List.length_nil]; omega)))
  | ((with_reducible show @ite Prop (true = true) _ _ _); refine' Sy.iteT0 ?_)
  | ((with_reducible show @ite Prop (false = true) _ _ _); refine' Sy.iteF0 ?_)
  | ((with_reducible show @ite Prop ((!true) = true) _ _ _); refine' Sy.iteNT ?_)
  | ((with_reducible show @ite Prop (@decide _ _ = true) _ _ _); (refine' Sy.iteDT ?h1 ?_); (case h1 => first | omega | rfl | (intro z; cases z)))
  | ((with_reducible show @ite Prop (@decide _ _ = true) _ _ _); (refine' Sy.iteDF ?h1 ?_); (case h1 => first | omega | rfl | (intro z; cases z)))
  | ((with_reducible show @ite Prop ((!@decide _ _) = true) _ _ _); (refine' Sy.iteND ?h1 ?_); (case h1 => first | omega | rfl | (intro z; cases z)))
  | ((with_reducible show @ite Prop ((!@decide _ _) = true) _ _ _); (refine' Sy.iteNDF ?h1 ?_); (case h1 => first | omega | rfl | (intro z; cases z)))
  | ((with_reducible show @ite Prop ((!false) = true) _ _ _); refine' Sy.iteNF ?_)
  | (with_reducible refine' Sy.ws_try ?_)
  | (with_reducible refine' Sy.wsx_drop (Sy.wx_call (Sy.wax_of ?_)))
  | (with_reducible refine' Sy.wsx_asg (Sy.wx_call (Sy.wax_of ?_)))
  | (with_reducible refine' Sy.wsx_ret (Sy.wx_call (Sy.wax_of ?_)))
  | (with_reducible refine' Sy.wsx_of ?_)
  | (refine ⟨_, rfl, ⟨_, rfl⟩, ?_⟩)
  | (refine ⟨_, rfl, ?_⟩)
  | (refine ⟨_, _, rfl, rfl, ?_⟩)
  | (refine ⟨_, _, rfl, ?_⟩)
  | ((refine' Sy.iteNo ?h1 ?_); (case h1 => (intro z; cases z)))
  | ((refine' Sy.iteYes ?h1 ?_); (case h1 => rfl)))
-- many steps
local macro_rules | `(tactic| walk_at "syd") => `(tactic| try dsimp only [List.set, List.length_cons, List.length_nil, Nat.reduceAdd, Sy.isNon, List.cons_append, List.nil_append, List.map, Bool.not_true, Bool.not_false, Sy.Ty.isInt, Sy.Ty.isBool, Sy.Ty.isStr, Sy.Ty.isList, Sy.Ty.isTuple, Sy.Ty.isSeq])
local macro_rules | `(tactic| walk_at "sy") => `(tactic| repeat ((walk_at "sy1"); (walk_at "syd")))
-- the start of a body
local macro_rules | `(tactic| walk_at "sy0") => `(tactic| dsimp only [L2.cxOf, List.length_cons, List.length_nil, Nat.reduceAdd, Nat.reduceSub, List.replicate, List.cons_append, List.nil_append])
-- a turn's end: the slots and the cells are said by the invariant
local macro_rules | `(tactic| walk_at "wkl") => `(tactic| repeat' first | exact trivial | refine ⟨.inl rfl, ?_⟩ | refine ⟨.inr rfl, ?_⟩)
local macro_rules | `(tactic| walk_at "lowl") => `(tactic| repeat' first | exact trivial | refine ⟨by omega, ?_⟩)
local macro_rules | `(tactic| walk_at "turn") => `(tactic| refine Sy.turn_q ⟨rfl, rfl⟩ (by walk_at "wkl") (by walk_at "lowl"))

namespace Kp
open PySem PySem.Spec L2 Sy
abbrev N_law : List Str := ["script", "at", "crate", "size", "shapes", "turn", "one", "two", "shape_here", "other_here"]
theorem sc_law : FnScope N_law ["script"] (defScope s_law) := ⟨rfl, rfl, rfl, by decide +kernel, rfl, by decide +kernel, by decide +kernel⟩
section
variable {Pg : Program} {w : World} {K : PySem.W.Frag} {mg : Str → Option Value} {base : Heap}
theorem turned_ok {sl : List SD} {cl : List Cell} {Φ : SD → List Cell → Prop} {k n : Nat} {c : Cell} {ps : List Nat} (hk : cl[k]? = some c) (hc : Crate n c) (hn : n + 300 ≤ 1000000) (hz : ps.length ≤ 60) (hb : ∀ p ∈ ps, p < 100)
    (q : ∀ (qs : List Nat) c', qs.length ≤ 61 → (∀ q ∈ qs, q < 100) → Crate (n + 300) c' → Φ (.own cl.length) (cl.set k c' ++ [.lst (posD qs)])) : ∃ sel, CallOk pr__law_turned_shape [.own k, .dat (.list (posD ps))] sl cl sel Φ := by
  refine ⟨[k], by simp, fun j hj => ?_, [.own 0, .dat (.list (posD ps))], ?_, n, ps, c, rfl, ?_, hc, hn, hz, hb, fun qs c' hl hp hc' => ⟨by simp, ?_⟩⟩
  · rw [List.mem_singleton.mp hj]; exact (List.getElem?_eq_some_iff.mp hk).1
  · unfold remaps
    have : remap [k] (.own k) = some (.own 0) := by
      show ([k].idxOf? k).map SD.own = _
      rw [show [k].idxOf? k = some 0 by simp [List.idxOf?]] <;> rfl
    rw [this] <;> rfl
  · show [(cl[k]?).getD .dead] = [c]
    rw [hk] <;> rfl
  · exact q qs c' hl hp hc'
theorem lst_at {l : List (List Nat)} {k : Nat} {x : List Nat} (h : l[k]? = some x) : atI (lstsD l) (k : Int) = some (.list (posD x)) := by
  refine atI_nat ?_
  unfold lstsD
  rw [List.getElem?_map, h] <;> rfl
theorem lsts_pick {l : List (List Nat)} {x m : Nat} (hm : m = l.length) (h : (x : Int) < (m : Int)) : ∃ one, one ∈ l ∧ atI (lstsD l) (x : Int) = some (.list (posD one)) := by
  have hx : x < l.length := by omega
  exact ⟨l[x], List.getElem_mem hx, lst_at (List.getElem?_eq_getElem hx)⟩
def pr_law : Pr := fun as cl Φ => ∃ ns : List Int, as = [.scr ns] ∧ cl = [] ∧ ns.length ≤ 63 ∧ Φ (.dat (.bool true)) []
theorem ok_law (T : Txt K mg) {f : Addr} {d : FuncData} (FL : Fun K "law" "law" s_law f d) : FnOk Pg w K mg base CX0 12 f d ["script"] (spS K pr_law) := by
  refine ok_of _ FL sc_law (fun as cl Φ ⟨_, h, _⟩ => by rw [h] <;> rfl) (fun cdv A outer s H E hr => ⟨_, (pss_cons (ps_for PassesOwn.never rfl (pi_range1 rfl T.z_range (pa_cons (pe_callB (call_max2 rfl) (by rfl) T.z_max (by decide +kernel) (pa_cons pe_int (pa_cons (pe_callB (call_min2 rfl) (by rfl) T.z_min (by decide +kernel) (pa_cons pe_int (pa_cons (pe_callB call_len (by rfl) T.z_len (by decide +kernel) (pa_cons (pv 0) pa_nil)) pa_nil))) pa_nil))) pa_nil)) (pg_name (i := 1) sc_law.nd rfl (.inl rfl))
    (pss_cons (ps_set (i := 2) sc_law.nd rfl (.inl rfl) (pe_call (ok__law_crate T) (hr.mono (by decide)) (by rfl) T.g__law_crate T.F__law_crate.kp T.B__law_crate .nil pass0 (pa_cons (pv 0) (pa_cons (pv 1) pa_nil)))) 
    (pss_cons (ps_set (i := 3) sc_law.nd rfl (.inl rfl) (pe_call (ok__law_grab T) (hr.mono (by decide)) (by rfl) T.g__law_grab T.F__law_grab.kp T.B__law_grab .nil pass0 (pa_cons (pv 2) (pa_cons pe_int pa_nil)))) 
    (pss_cons (ps_if (pt_not (pt_val (pe_call (ok__law_small_right T) (hr.mono (by decide)) (by rfl) T.g__law_small_right T.F__law_small_right.kp T.B__law_small_right .nil pass0 (pa_cons (pv 2) (pa_cons (pv 3) pa_nil))))) (pss_one (ps_ret pe_bl)) pss_nil) 
    (pss_cons (ps_set (i := 4) sc_law.nd rfl (.inl rfl) (pe_call (ok__law_all_shapes T) (hr.mono (by decide)) (by rfl) T.g__law_all_shapes T.F__law_all_shapes.kp T.B__law_all_shapes .nil pass0 (pa_cons (pv 3) pa_nil))) 
    (pss_cons (ps_for PassesOwn.never rfl (pi_range1 rfl T.z_range (pa_cons pe_int pa_nil)) (pg_name (i := 5) sc_law.nd rfl (.inl rfl))
    (pss_cons (ps_par (i := 6) (j := 7) rfl sc_law.nd rfl rfl (by decide) rfl rfl (pa_cons (pe_ix ix_seq (pv 4) (pe_call (ok__law_grab T) (hr.mono (by decide)) (by rfl) T.g__law_grab T.F__law_grab.kp T.B__law_grab .nil pass0 (pa_cons (pv 2) (pa_cons (pe_callB call_len (by rfl) T.z_len (by decide +kernel) (pa_cons (pv 4) pa_nil)) pa_nil))) (fun _ _ => rfl)) (pa_cons (pe_ix ix_seq (pv 4) (pe_call (ok__law_grab T) (hr.mono (by decide)) (by rfl) T.g__law_grab T.F__law_grab.kp T.B__law_grab .nil pass0 (pa_cons (pv 2) (pa_cons (pe_callB call_len (by rfl) T.z_len (by decide +kernel) (pa_cons (pv 4) pa_nil)) pa_nil))) (fun _ _ => rfl)) pa_nil)) (by rfl)) 
    (pss_one (ps_if (pt_not (pt_val (pe_call (ok__law_pair_right T) (hr.mono (by decide)) (by rfl) T.g__law_pair_right T.F__law_pair_right.kp T.B__law_pair_right .nil pass0 (pa_cons (pv 2) (pa_cons (pv 6) (pa_cons (pv 7) pa_nil)))))) (pss_one (ps_ret pe_bl)) pss_nil)))) 
    (pss_cons (ps_set (i := 8) sc_law.nd rfl (.inl rfl) (pe_call (ok__law_some_shape T) (hr.mono (by decide)) (by rfl) T.g__law_some_shape T.F__law_some_shape.kp T.B__law_some_shape .nil pass0 (pa_cons (pv 2) (pa_cons pe_int (pa_cons pe_int pa_nil))))) 
    (pss_cons (ps_if (pt_cmpR op_isN (pe_call (ok__law_forms_right T) (hr.mono (by decide)) (by rfl) T.g__law_forms_right T.F__law_forms_right.kp T.B__law_forms_right .nil pass0 (pa_cons (pv 2) (pa_cons (pv 8) pa_nil))) pe_non (nomark _)) (pss_one (ps_ret pe_bl)) pss_nil) 
    (pss_cons (ps_set (i := 9) sc_law.nd rfl (.inl rfl) (pe_call (ok__law_turned_shape T) (hr.mono (by decide)) (by rfl) T.g__law_turned_shape T.F__law_turned_shape.kp T.B__law_turned_shape .nil pass0 (pa_cons (pv 2) (pa_cons (pv 8) pa_nil)))) 
    (pss_one (ps_if (PW.pt (pw_and (pt_cmpR (OpR.or op_eq (op_eqD hr.units)) (pe_callB call_len (by rfl) T.z_len (by decide +kernel) (pa_cons (pv 9) pa_nil)) (pe_callB call_len (by rfl) T.z_len (by decide +kernel) (pa_cons (pv 8) pa_nil)) (nomark _)) (pw_and1 (pt_not (pt_val (pe_call (ok__law_pair_right T) (hr.mono (by decide)) (by rfl) T.g__law_pair_right T.F__law_pair_right.kp T.B__law_pair_right .nil pass0 (pa_cons (pv 2) (pa_cons (pv 8) (pa_cons (pv 9) pa_nil))))))))) (pss_one (ps_ret pe_bl)) pss_nil))))))))))) 
    (pss_one (ps_ret pe_bl))), ?_⟩)
  walk_at "sy0"
  try dsimp only [N_law, List.length_cons, List.length_nil, Nat.reduceAdd, Nat.reduceSub, List.replicate, List.cons_append, List.nil_append]
  rintro as cl Φ ⟨ns, rfl, rfl, hz, q⟩
  refine ws_seq (ws_for (wi_rng1 ?_))
  walk_at "sy"
  refine ⟨fun (i : Nat) (sl : List SD) (cl : List Cell) => sl = [.scr ns, .unk, .unk, .unk, .unk, .unk, .unk, .unk, .unk, .unk] ∧ cl = [], ⟨rfl, rfl⟩, fun i d sl' cl' hd hI hcl => ?_, fun sl' cl' hI hcl => ?_⟩
  · obtain ⟨hi, rfl⟩ := rngD_get hd
    obtain ⟨rfl, rfl⟩ := hI
    have hi : i < 4 := by
      rw [List.length_map] at hi
      omega
    clear hd hcl
    have e0 : (0 : Int) + (i : Int) = (i : Int) := by omega
    rw [e0]
    walk_at "sy"
    refine wp_crate hz (by omega) fun c hc => ?_
    walk_at "sy"
    refine grab_ok rfl hc (by omega) (by omega) (by omega) fun y c1 hy hc1 => ?_
    walk_at "sy"
    refine ⟨_, call_XC y rfl rfl hc1 (by omega) (by omega) fun d c2 hd hc2 => ?_⟩
    subst hd
    walk_at "sy"
    refine ⟨_, call_X y rfl (by omega) fun d hd => ?_⟩
    subst hd
    obtain ⟨z1, z2⟩ := shapes_small y (by omega)
    have zp := shp_pt y (by omega)
    have zn : 0 < (shapesL y).length := (by decide +kernel : ∀ n : Fin 6, 0 < (shapesL n.val).length) ⟨y, by omega⟩
    have hsl := lsts_len (l := shapesL y)
    walk_at "sy"
    refine ws_for (wi_rng1 ?_)
    walk_at "sy"
    have ez : (0 : Int) + 1 = 1 := rfl
    refine ⟨fun (k : Nat) (sl : List SD) (cl : List Cell) => sl = [.scr ns, .dat (.int (i : Int)), .own 0, .dat (.int (y : Int)), .dat (.list (lstsD (shapesL y))), .unk, .unk, .unk, .unk, .unk] ∧ ∃ c, cl = [c] ∧ Crate (160001 + 1500 * k) c, ⟨rfl, c2, rfl, hc2.mono (by omega)⟩, fun k d sl' cl' hd hI hl => ?_, fun sl' cl' hI hl => ?_⟩
    · obtain ⟨rfl, c3, rfl, hc3⟩ := hI
      obtain ⟨hk, rfl⟩ := rngD_get hd
      clear hd hl
      have hk : k < 20 := hk
      refine wg_name ?_
      walk_at "syd"
      refine ws_seq (ws_par ?_)
      walk_at "sy"
      refine grab_ok rfl hc3 (by omega) (by omega) (by omega) fun x1 c4 hx1 hc4 => ?_
      obtain ⟨one, ho1, hat1⟩ := lsts_pick hsl hx1
      walk_at "sy"
      refine grab_ok rfl hc4 (by omega) (by omega) (by omega) fun x2 c5 hx2 hc5 => ?_
      obtain ⟨two, ho2, hat2⟩ := lsts_pick hsl hx2
      obtain ⟨_, l1⟩ := z2 one ho1
      obtain ⟨_, l2⟩ := z2 two ho2
      walk_at "sy"
      refine ⟨_, call_XC (one, two) rfl rfl hc5 (by omega) ⟨by omega, by omega, (zp one ho1).2, (zp two ho2).2⟩ fun d c6 hd hc6 => ?_⟩
      subst hd
      walk_at "sy"
      exact Sy.turn_q (sl4 := [.scr ns, .dat (.int (i : Int)), .own 0, .dat (.int (y : Int)), .dat (.list (lstsD (shapesL y))), .unk, .unk, .unk, .unk, .unk]) ⟨rfl, c6, rfl, hc6.mono (by omega)⟩ (by walk_at "wkl") (by walk_at "lowl")
    · obtain ⟨rfl, c3, rfl, hc3⟩ := hI
      have hc3 : Crate (160001 + 1500 * 20) c3 := hc3
      refine ws_seq (ws_asg (wp_frz (wp_callE ?_)))
      walk_at "sy"
      refine ⟨_, call_drawO rfl rfl hc3 (by omega) ⟨_, 12, 60, rfl, by decide, by decide, [], rfl, Nat.zero_le _⟩ fun es c4 ⟨a, b, em, _, _, xs, hes, hxl⟩ hc4 => ⟨1, es, rfl, rfl, wg_name ?_⟩⟩
      subst hes
      have hxl2 : xs.length ≤ 60 := by
        have h1 := PyData.int.inj (List.cons.inj em).1
        have h2 := PyData.int.inj (List.cons.inj (List.cons.inj em).2).1
        omega
      have hpl : (patL xs).length ≤ 60 := by rw [patL_len]; exact hxl2
      have hpt := pt_patL xs
      have hpb : ∀ p ∈ patL xs, p < 100 := fun p h => by have := patL_lt h; omega
      clear em hxl hxl2
      generalize patL xs = ps at hpl hpb hpt ⊢
      have hpl2 := posD_length (ps := ps)
      walk_at "syd"
      refine ws_seq ?_
      walk_at "sy"
      refine ⟨_, call_XC ps rfl rfl hc4 (by omega) ⟨by omega, hpt⟩ fun d c5 hd hc5 => ?_⟩
      subst hd
      walk_at "sy"
      refine turned_ok rfl hc5 (by omega) hpl hpb fun qs c6 hql hqb hc6 => wg_name ?_
      have hql2 := posD_length (ps := qs)
      walk_at "syd"
      refine ws_frz 2 rfl ?_
      show WpS K _ [.scr ns, .dat (.int (i : Int)), .own 0, .dat (.int (y : Int)), .dat (.list (lstsD (shapesL y))), .unk, .unk, .unk, .dat (.list (posD ps)), .dat (.list (posD qs))] [c6, .dead, .dead] _
      refine ws_if (wp_and ?_)
      walk_at "sy"
      refine iteD (fun h => ?_) (fun h => ?_)
      · walk_at "sy"
        refine ⟨_, call_XC (ps, qs) rfl rfl hc6 (by omega) ⟨by omega, by omega, fun p hp => by have := hpb p hp; omega, fun p hp => by have := hqb p hp; omega⟩ fun d c7 hd hc7 => ?_⟩
        subst hd
        walk_at "sy"
        exact Sy.turn_q (sl4 := [.scr ns, .unk, .unk, .unk, .unk, .unk, .unk, .unk, .unk, .unk]) ⟨rfl, rfl⟩ (by walk_at "wkl") (by walk_at "lowl")
      · refine Sy.iteNo (by decide) (ws_next ?_)
        dsimp only
        exact Sy.turn_q (sl4 := [.scr ns, .unk, .unk, .unk, .unk, .unk, .unk, .unk, .unk, .unk]) ⟨rfl, rfl⟩ (by walk_at "wkl") (by walk_at "lowl")
  · obtain ⟨rfl, rfl⟩ := hI
    walk_at "sy"
    exact q
end
end Kp
end
namespace Kp
open PySem PySem.Spec PyProof.Rows L2 Sy
theorem fun_of {K : PySem.W.Frag} {x qual : Str} {st : Stmt} {f : Addr} {fd : FuncData} (F : FunD K x qual (defArgs st) (defBody st) (defScope st) [] [] f fd) : Fun K x qual st f fd := by
  obtain ⟨oc, od, dV, kV, doc, pm, an, cdv, ct, osl, rfl, lk, hcd, hD, hK⟩ := F.ex
  rcases hD with ⟨_, rfl⟩ | ⟨e, _⟩
  · exact ⟨⟨oc, od, kV, doc, pm, an, cdv, ct, osl, rfl, lk, hcd⟩, F.kp⟩
  · exact absurd rfl e
theorem hfacts {P : Program} {w : World} {K : PySem.W.Frag} {h : Heap} {mg : Str → Option Value} {f : Addr} (X : K.In h) (G : h.Ns mainGlobals mg) (hfa1 : mg ("law" : Str) = some (.ref f)) (c : He.SaysD hfa hfn K) :
    ∃ fd : FuncData, (∀ (s : Shared) (v : Value), BindsTo s fd ⟨[v], []⟩ [("script", v)]) ∧ ∀ base : Heap, K.In base → base.Ns mainGlobals mg → FnOk P w K mg base CX0 12 f fd ["script"] (spS K pr_law) := by
  obtain ⟨fd_is_integer, FD_is_integer⟩ := c.def_ 0 (d := dd_is_integer) rfl
  have gl_is_integer : mg "is_integer" = some (.ref (He.ga K "is_integer")) := He.glo_ok X G (c.fact 0 (f := .glo "is_integer") rfl)
  have F_is_integer : Fun K "is_integer" "is_integer" s_is_integer (He.ga K "is_integer") fd_is_integer := fun_of FD_is_integer
  obtain ⟨fd_is_integer_from, FD_is_integer_from⟩ := c.def_ 1 (d := dd_is_integer_from) rfl
  have gl_is_integer_from : mg "is_integer_from" = some (.ref (He.ga K "is_integer_from")) := He.glo_ok X G (c.fact 1 (f := .glo "is_integer_from") rfl)
  have F_is_integer_from : Fun K "is_integer_from" "is_integer_from" s_is_integer_from (He.ga K "is_integer_from") fd_is_integer_from := fun_of FD_is_integer_from
  obtain ⟨fd_is_tuple_of, FD_is_tuple_of⟩ := c.def_ 2 (d := dd_is_tuple_of) rfl
  have gl_is_tuple_of : mg "is_tuple_of" = some (.ref (He.ga K "is_tuple_of")) := He.glo_ok X G (c.fact 2 (f := .glo "is_tuple_of") rfl)
  have F_is_tuple_of : Fun K "is_tuple_of" "is_tuple_of" s_is_tuple_of (He.ga K "is_tuple_of") fd_is_tuple_of := fun_of FD_is_tuple_of
  obtain ⟨fd_is_key, FD_is_key⟩ := c.def_ 3 (d := dd_is_key) rfl
  have gl_is_key : mg "is_key" = some (.ref (He.ga K "is_key")) := He.glo_ok X G (c.fact 3 (f := .glo "is_key") rfl)
  have F_is_key : Fun K "is_key" "is_key" s_is_key (He.ga K "is_key") fd_is_key := fun_of FD_is_key
  obtain ⟨fd_is_record, FD_is_record⟩ := c.def_ 4 (d := dd_is_record) rfl
  have gl_is_record : mg "is_record" = some (.ref (He.ga K "is_record")) := He.glo_ok X G (c.fact 4 (f := .glo "is_record") rfl)
  have F_is_record : Fun K "is_record" "is_record" s_is_record (He.ga K "is_record") fd_is_record := fun_of FD_is_record
  obtain ⟨fd_next_list, FD_next_list⟩ := c.def_ 5 (d := dd_next_list) rfl
  have gl_next_list : mg "next_list" = some (.ref (He.ga K "next_list")) := He.glo_ok X G (c.fact 5 (f := .glo "next_list") rfl)
  have F_next_list : Fun K "next_list" "next_list" s_next_list (He.ga K "next_list") fd_next_list := fun_of FD_next_list
  obtain ⟨fd_check_log, FD_check_log⟩ := c.def_ 6 (d := dd_check_log) rfl
  have gl_check_log : mg "check_log" = some (.ref (He.ga K "check_log")) := He.glo_ok X G (c.fact 6 (f := .glo "check_log") rfl)
  have F_check_log : Fun K "check_log" "check_log" s_check_log (He.ga K "check_log") fd_check_log := fun_of FD_check_log
  obtain ⟨fd_befores_of, FD_befores_of⟩ := c.def_ 7 (d := dd_befores_of) rfl
  have gl_befores_of : mg "befores_of" = some (.ref (He.ga K "befores_of")) := He.glo_ok X G (c.fact 7 (f := .glo "befores_of") rfl)
  have F_befores_of : Fun K "befores_of" "befores_of" s_befores_of (He.ga K "befores_of") fd_befores_of := fun_of FD_befores_of
  obtain ⟨fd_pattern_of, FD_pattern_of⟩ := c.def_ 8 (d := dd_pattern_of) rfl
  have gl_pattern_of : mg "pattern_of" = some (.ref (He.ga K "pattern_of")) := He.glo_ok X G (c.fact 8 (f := .glo "pattern_of") rfl)
  have F_pattern_of : Fun K "pattern_of" "pattern_of" s_pattern_of (He.ga K "pattern_of") fd_pattern_of := fun_of FD_pattern_of
  obtain ⟨fd_by_next, FD_by_next⟩ := c.def_ 9 (d := dd_by_next) rfl
  have gl_by_next : mg "by_next" = some (.ref (He.ga K "by_next")) := He.glo_ok X G (c.fact 9 (f := .glo "by_next") rfl)
  have F_by_next : Fun K "by_next" "by_next" s_by_next (He.ga K "by_next") fd_by_next := fun_of FD_by_next
  obtain ⟨fd_are_alike, FD_are_alike⟩ := c.def_ 10 (d := dd_are_alike) rfl
  have gl_are_alike : mg "are_alike" = some (.ref (He.ga K "are_alike")) := He.glo_ok X G (c.fact 10 (f := .glo "are_alike") rfl)
  have F_are_alike : Fun K "are_alike" "are_alike" s_are_alike (He.ga K "are_alike") fd_are_alike := fun_of FD_are_alike
  obtain ⟨fd_pattern_with, FD_pattern_with⟩ := c.def_ 11 (d := dd_pattern_with) rfl
  have gl_pattern_with : mg "pattern_with" = some (.ref (He.ga K "pattern_with")) := He.glo_ok X G (c.fact 11 (f := .glo "pattern_with") rfl)
  have F_pattern_with : Fun K "pattern_with" "pattern_with" s_pattern_with (He.ga K "pattern_with") fd_pattern_with := fun_of FD_pattern_with
  obtain ⟨fd_near, FD_near⟩ := c.def_ 12 (d := dd_near) rfl
  have gl_near : mg "near" = some (.ref (He.ga K "near")) := He.glo_ok X G (c.fact 12 (f := .glo "near") rfl)
  have F_near : Fun K "near" "near" s_near (He.ga K "near") fd_near := fun_of FD_near
  obtain ⟨fd_fore, FD_fore⟩ := c.def_ 13 (d := dd_fore) rfl
  have gl_fore : mg "fore" = some (.ref (He.ga K "fore")) := He.glo_ok X G (c.fact 13 (f := .glo "fore") rfl)
  have F_fore : Fun K "fore" "fore" s_fore (He.ga K "fore") fd_fore := fun_of FD_fore
  obtain ⟨fd_sums_from, FD_sums_from⟩ := c.def_ 14 (d := dd_sums_from) rfl
  have gl_sums_from : mg "sums_from" = some (.ref (He.ga K "sums_from")) := He.glo_ok X G (c.fact 14 (f := .glo "sums_from") rfl)
  have F_sums_from : Fun K "sums_from" "sums_from" s_sums_from (He.ga K "sums_from") fd_sums_from := fun_of FD_sums_from
  obtain ⟨fd_ways_by_end, FD_ways_by_end⟩ := c.def_ 15 (d := dd_ways_by_end) rfl
  have gl_ways_by_end : mg "ways_by_end" = some (.ref (He.ga K "ways_by_end")) := He.glo_ok X G (c.fact 15 (f := .glo "ways_by_end") rfl)
  have F_ways_by_end : Fun K "ways_by_end" "ways_by_end" s_ways_by_end (He.ga K "ways_by_end") fd_ways_by_end := fun_of FD_ways_by_end
  obtain ⟨fd_alike_count, FD_alike_count⟩ := c.def_ 16 (d := dd_alike_count) rfl
  have gl_alike_count : mg "alike_count" = some (.ref (He.ga K "alike_count")) := He.glo_ok X G (c.fact 16 (f := .glo "alike_count") rfl)
  have F_alike_count : Fun K "alike_count" "alike_count" s_alike_count (He.ga K "alike_count") fd_alike_count := fun_of FD_alike_count
  obtain ⟨fd_power, FD_power⟩ := c.def_ 17 (d := dd_power) rfl
  have gl_power : mg "power" = some (.ref (He.ga K "power")) := He.glo_ok X G (c.fact 17 (f := .glo "power") rfl)
  have F_power : Fun K "power" "power" s_power (He.ga K "power") fd_power := fun_of FD_power
  obtain ⟨fd_unlike_count, FD_unlike_count⟩ := c.def_ 18 (d := dd_unlike_count) rfl
  have gl_unlike_count : mg "unlike_count" = some (.ref (He.ga K "unlike_count")) := He.glo_ok X G (c.fact 18 (f := .glo "unlike_count") rfl)
  have F_unlike_count : Fun K "unlike_count" "unlike_count" s_unlike_count (He.ga K "unlike_count") fd_unlike_count := fun_of FD_unlike_count
  obtain ⟨fd__law_crate, FD__law_crate⟩ := c.def_ 19 (d := dd__law_crate) rfl
  have gl__law_crate : mg "_law_crate" = some (.ref (He.ga K "_law_crate")) := He.glo_ok X G (c.fact 19 (f := .glo "_law_crate") rfl)
  have F__law_crate : Fun K "_law_crate" "_law_crate" s__law_crate (He.ga K "_law_crate") fd__law_crate := fun_of FD__law_crate
  obtain ⟨fd__law_grab, FD__law_grab⟩ := c.def_ 20 (d := dd__law_grab) rfl
  have gl__law_grab : mg "_law_grab" = some (.ref (He.ga K "_law_grab")) := He.glo_ok X G (c.fact 20 (f := .glo "_law_grab") rfl)
  have F__law_grab : Fun K "_law_grab" "_law_grab" s__law_grab (He.ga K "_law_grab") fd__law_grab := fun_of FD__law_grab
  obtain ⟨fd__law_matched, FD__law_matched⟩ := c.def_ 21 (d := dd__law_matched) rfl
  have gl__law_matched : mg "_law_matched" = some (.ref (He.ga K "_law_matched")) := He.glo_ok X G (c.fact 21 (f := .glo "_law_matched") rfl)
  have F__law_matched : Fun K "_law_matched" "_law_matched" s__law_matched (He.ga K "_law_matched") fd__law_matched := fun_of FD__law_matched
  obtain ⟨fd__law_names, FD__law_names⟩ := c.def_ 22 (d := dd__law_names) rfl
  have gl__law_names : mg "_law_names" = some (.ref (He.ga K "_law_names")) := He.glo_ok X G (c.fact 22 (f := .glo "_law_names") rfl)
  have F__law_names : Fun K "_law_names" "_law_names" s__law_names (He.ga K "_law_names") fd__law_names := fun_of FD__law_names
  obtain ⟨fd__law_any_value, FD__law_any_value⟩ := c.def_ 23 (d := dd__law_any_value) rfl
  have gl__law_any_value : mg "_law_any_value" = some (.ref (He.ga K "_law_any_value")) := He.glo_ok X G (c.fact 23 (f := .glo "_law_any_value") rfl)
  have F__law_any_value : Fun K "_law_any_value" "_law_any_value" s__law_any_value (He.ga K "_law_any_value") fd__law_any_value := fun_of FD__law_any_value
  obtain ⟨fd__law_next, FD__law_next⟩ := c.def_ 24 (d := dd__law_next) rfl
  have gl__law_next : mg "_law_next" = some (.ref (He.ga K "_law_next")) := He.glo_ok X G (c.fact 24 (f := .glo "_law_next") rfl)
  have F__law_next : Fun K "_law_next" "_law_next" s__law_next (He.ga K "_law_next") fd__law_next := fun_of FD__law_next
  obtain ⟨fd__law_nexts, FD__law_nexts⟩ := c.def_ 25 (d := dd__law_nexts) rfl
  have gl__law_nexts : mg "_law_nexts" = some (.ref (He.ga K "_law_nexts")) := He.glo_ok X G (c.fact 25 (f := .glo "_law_nexts") rfl)
  have F__law_nexts : Fun K "_law_nexts" "_law_nexts" s__law_nexts (He.ga K "_law_nexts") fd__law_nexts := fun_of FD__law_nexts
  obtain ⟨fd__law_pattern, FD__law_pattern⟩ := c.def_ 26 (d := dd__law_pattern) rfl
  have gl__law_pattern : mg "_law_pattern" = some (.ref (He.ga K "_law_pattern")) := He.glo_ok X G (c.fact 26 (f := .glo "_law_pattern") rfl)
  have F__law_pattern : Fun K "_law_pattern" "_law_pattern" s__law_pattern (He.ga K "_law_pattern") fd__law_pattern := fun_of FD__law_pattern
  obtain ⟨fd__law_lefts, FD__law_lefts⟩ := c.def_ 27 (d := dd__law_lefts) rfl
  have gl__law_lefts : mg "_law_lefts" = some (.ref (He.ga K "_law_lefts")) := He.glo_ok X G (c.fact 27 (f := .glo "_law_lefts") rfl)
  have F__law_lefts : Fun K "_law_lefts" "_law_lefts" s__law_lefts (He.ga K "_law_lefts") fd__law_lefts := fun_of FD__law_lefts
  obtain ⟨fd__law_key, FD__law_key⟩ := c.def_ 28 (d := dd__law_key) rfl
  have gl__law_key : mg "_law_key" = some (.ref (He.ga K "_law_key")) := He.glo_ok X G (c.fact 28 (f := .glo "_law_key") rfl)
  have F__law_key : Fun K "_law_key" "_law_key" s__law_key (He.ga K "_law_key") fd__law_key := fun_of FD__law_key
  obtain ⟨fd__law_keyed, FD__law_keyed⟩ := c.def_ 29 (d := dd__law_keyed) rfl
  have gl__law_keyed : mg "_law_keyed" = some (.ref (He.ga K "_law_keyed")) := He.glo_ok X G (c.fact 29 (f := .glo "_law_keyed") rfl)
  have F__law_keyed : Fun K "_law_keyed" "_law_keyed" s__law_keyed (He.ga K "_law_keyed") fd__law_keyed := fun_of FD__law_keyed
  obtain ⟨fd__law_wide_shape, FD__law_wide_shape⟩ := c.def_ 30 (d := dd__law_wide_shape) rfl
  have gl__law_wide_shape : mg "_law_wide_shape" = some (.ref (He.ga K "_law_wide_shape")) := He.glo_ok X G (c.fact 30 (f := .glo "_law_wide_shape") rfl)
  have F__law_wide_shape : Fun K "_law_wide_shape" "_law_wide_shape" s__law_wide_shape (He.ga K "_law_wide_shape") fd__law_wide_shape := fun_of FD__law_wide_shape
  obtain ⟨fd__law_some_shape, FD__law_some_shape⟩ := c.def_ 31 (d := dd__law_some_shape) rfl
  have gl__law_some_shape : mg "_law_some_shape" = some (.ref (He.ga K "_law_some_shape")) := He.glo_ok X G (c.fact 31 (f := .glo "_law_some_shape") rfl)
  have F__law_some_shape : Fun K "_law_some_shape" "_law_some_shape" s__law_some_shape (He.ga K "_law_some_shape") fd__law_some_shape := fun_of FD__law_some_shape
  obtain ⟨fd__law_shape_nexts, FD__law_shape_nexts⟩ := c.def_ 32 (d := dd__law_shape_nexts) rfl
  have gl__law_shape_nexts : mg "_law_shape_nexts" = some (.ref (He.ga K "_law_shape_nexts")) := He.glo_ok X G (c.fact 32 (f := .glo "_law_shape_nexts") rfl)
  have F__law_shape_nexts : Fun K "_law_shape_nexts" "_law_shape_nexts" s__law_shape_nexts (He.ga K "_law_shape_nexts") fd__law_shape_nexts := fun_of FD__law_shape_nexts
  obtain ⟨fd__law_other_ends, FD__law_other_ends⟩ := c.def_ 33 (d := dd__law_other_ends) rfl
  have gl__law_other_ends : mg "_law_other_ends" = some (.ref (He.ga K "_law_other_ends")) := He.glo_ok X G (c.fact 33 (f := .glo "_law_other_ends") rfl)
  have F__law_other_ends : Fun K "_law_other_ends" "_law_other_ends" s__law_other_ends (He.ga K "_law_other_ends") fd__law_other_ends := fun_of FD__law_other_ends
  obtain ⟨fd__law_shape, FD__law_shape⟩ := c.def_ 34 (d := dd__law_shape) rfl
  have gl__law_shape : mg "_law_shape" = some (.ref (He.ga K "_law_shape")) := He.glo_ok X G (c.fact 34 (f := .glo "_law_shape") rfl)
  have F__law_shape : Fun K "_law_shape" "_law_shape" s__law_shape (He.ga K "_law_shape") fd__law_shape := fun_of FD__law_shape
  obtain ⟨fd__law_alike_shape, FD__law_alike_shape⟩ := c.def_ 35 (d := dd__law_alike_shape) rfl
  have gl__law_alike_shape : mg "_law_alike_shape" = some (.ref (He.ga K "_law_alike_shape")) := He.glo_ok X G (c.fact 35 (f := .glo "_law_alike_shape") rfl)
  have F__law_alike_shape : Fun K "_law_alike_shape" "_law_alike_shape" s__law_alike_shape (He.ga K "_law_alike_shape") fd__law_alike_shape := fun_of FD__law_alike_shape
  obtain ⟨fd__law_all_shapes, FD__law_all_shapes⟩ := c.def_ 36 (d := dd__law_all_shapes) rfl
  have gl__law_all_shapes : mg "_law_all_shapes" = some (.ref (He.ga K "_law_all_shapes")) := He.glo_ok X G (c.fact 36 (f := .glo "_law_all_shapes") rfl)
  have F__law_all_shapes : Fun K "_law_all_shapes" "_law_all_shapes" s__law_all_shapes (He.ga K "_law_all_shapes") fd__law_all_shapes := fun_of FD__law_all_shapes
  obtain ⟨fd__law_turned_shape, FD__law_turned_shape⟩ := c.def_ 37 (d := dd__law_turned_shape) rfl
  have gl__law_turned_shape : mg "_law_turned_shape" = some (.ref (He.ga K "_law_turned_shape")) := He.glo_ok X G (c.fact 37 (f := .glo "_law_turned_shape") rfl)
  have F__law_turned_shape : Fun K "_law_turned_shape" "_law_turned_shape" s__law_turned_shape (He.ga K "_law_turned_shape") fd__law_turned_shape := fun_of FD__law_turned_shape
  obtain ⟨fd__law_log_of, FD__law_log_of⟩ := c.def_ 38 (d := dd__law_log_of) rfl
  have gl__law_log_of : mg "_law_log_of" = some (.ref (He.ga K "_law_log_of")) := He.glo_ok X G (c.fact 38 (f := .glo "_law_log_of") rfl)
  have F__law_log_of : Fun K "_law_log_of" "_law_log_of" s__law_log_of (He.ga K "_law_log_of") fd__law_log_of := fun_of FD__law_log_of
  obtain ⟨fd__law_forms_right, FD__law_forms_right⟩ := c.def_ 39 (d := dd__law_forms_right) rfl
  have gl__law_forms_right : mg "_law_forms_right" = some (.ref (He.ga K "_law_forms_right")) := He.glo_ok X G (c.fact 39 (f := .glo "_law_forms_right") rfl)
  have F__law_forms_right : Fun K "_law_forms_right" "_law_forms_right" s__law_forms_right (He.ga K "_law_forms_right") fd__law_forms_right := fun_of FD__law_forms_right
  obtain ⟨fd__law_powers, FD__law_powers⟩ := c.def_ 40 (d := dd__law_powers) rfl
  have gl__law_powers : mg "_law_powers" = some (.ref (He.ga K "_law_powers")) := He.glo_ok X G (c.fact 40 (f := .glo "_law_powers") rfl)
  have F__law_powers : Fun K "_law_powers" "_law_powers" s__law_powers (He.ga K "_law_powers") fd__law_powers := fun_of FD__law_powers
  obtain ⟨fd__law_small_right, FD__law_small_right⟩ := c.def_ 41 (d := dd__law_small_right) rfl
  have gl__law_small_right : mg "_law_small_right" = some (.ref (He.ga K "_law_small_right")) := He.glo_ok X G (c.fact 41 (f := .glo "_law_small_right") rfl)
  have F__law_small_right : Fun K "_law_small_right" "_law_small_right" s__law_small_right (He.ga K "_law_small_right") fd__law_small_right := fun_of FD__law_small_right
  obtain ⟨fd__law_pair_right, FD__law_pair_right⟩ := c.def_ 42 (d := dd__law_pair_right) rfl
  have gl__law_pair_right : mg "_law_pair_right" = some (.ref (He.ga K "_law_pair_right")) := He.glo_ok X G (c.fact 42 (f := .glo "_law_pair_right") rfl)
  have F__law_pair_right : Fun K "_law_pair_right" "_law_pair_right" s__law_pair_right (He.ga K "_law_pair_right") fd__law_pair_right := fun_of FD__law_pair_right
  obtain ⟨fd_law, FD_law⟩ := c.def_ 43 (d := dd_law) rfl
  have gl_law : mg "law" = some (.ref (He.ga K "law")) := He.glo_ok X G (c.fact 43 (f := .glo "law") rfl)
  have F_law : Fun K "law" "law" s_law (He.ga K "law") fd_law := fun_of FD_law
  obtain ⟨t0, c0⟩ := He.str_ok X G (c.fact 44 (f := .str "LETTERS" "abcdefghijklmnopqrstuvwxyz") rfl)
  have e := hfa1.symm.trans gl_law
  cases e
  have T : Txt K mg := {
    f_is_integer := _, d_is_integer := _, F_is_integer := F_is_integer, g_is_integer := gl_is_integer,
    B_is_integer := F_is_integer.binds (ps := ["value"]) fun _ _ _ _ _ _ us hl => match us, hl with | [_], _ => rfl,
    f_is_integer_from := _, d_is_integer_from := _, F_is_integer_from := F_is_integer_from, g_is_integer_from := gl_is_integer_from,
    B_is_integer_from := F_is_integer_from.binds (ps := ["value", "low"]) fun _ _ _ _ _ _ us hl => match us, hl with | [_, _], _ => rfl,
    f_is_tuple_of := _, d_is_tuple_of := _, F_is_tuple_of := F_is_tuple_of, g_is_tuple_of := gl_is_tuple_of,
    B_is_tuple_of := F_is_tuple_of.binds (ps := ["value", "size"]) fun _ _ _ _ _ _ us hl => match us, hl with | [_, _], _ => rfl,
    f_is_key := _, d_is_key := _, F_is_key := F_is_key, g_is_key := gl_is_key,
    B_is_key := F_is_key.binds (ps := ["value"]) fun _ _ _ _ _ _ us hl => match us, hl with | [_], _ => rfl,
    f_is_record := _, d_is_record := _, F_is_record := F_is_record, g_is_record := gl_is_record,
    B_is_record := F_is_record.binds (ps := ["value"]) fun _ _ _ _ _ _ us hl => match us, hl with | [_], _ => rfl,
    f_next_list := _, d_next_list := _, F_next_list := F_next_list, g_next_list := gl_next_list,
    B_next_list := F_next_list.binds (ps := ["log"]) fun _ _ _ _ _ _ us hl => match us, hl with | [_], _ => rfl,
    f_check_log := _, d_check_log := _, F_check_log := F_check_log, g_check_log := gl_check_log,
    B_check_log := F_check_log.binds (ps := ["log"]) fun _ _ _ _ _ _ us hl => match us, hl with | [_], _ => rfl,
    f_befores_of := _, d_befores_of := _, F_befores_of := F_befores_of, g_befores_of := gl_befores_of,
    B_befores_of := F_befores_of.binds (ps := ["nexts"]) fun _ _ _ _ _ _ us hl => match us, hl with | [_], _ => rfl,
    f_pattern_of := _, d_pattern_of := _, F_pattern_of := F_pattern_of, g_pattern_of := gl_pattern_of,
    B_pattern_of := F_pattern_of.binds (ps := ["nexts"]) fun _ _ _ _ _ _ us hl => match us, hl with | [_], _ => rfl,
    f_by_next := _, d_by_next := _, F_by_next := F_by_next, g_by_next := gl_by_next,
    B_by_next := F_by_next.binds (ps := ["log"]) fun _ _ _ _ _ _ us hl => match us, hl with | [_], _ => rfl,
    f_are_alike := _, d_are_alike := _, F_are_alike := F_are_alike, g_are_alike := gl_are_alike,
    B_are_alike := F_are_alike.binds (ps := ["log", "other"]) fun _ _ _ _ _ _ us hl => match us, hl with | [_, _], _ => rfl,
    f_pattern_with := _, d_pattern_with := _, F_pattern_with := F_pattern_with, g_pattern_with := gl_pattern_with,
    B_pattern_with := F_pattern_with.binds (ps := ["order", "right_ends", "many"]) fun _ _ _ _ _ _ us hl => match us, hl with | [_, _, _], _ => rfl,
    f_near := _, d_near := _, F_near := F_near, g_near := gl_near,
    B_near := F_near.binds (ps := ["log"]) fun _ _ _ _ _ _ us hl => match us, hl with | [_], _ => rfl,
    f_fore := _, d_fore := _, F_fore := F_fore, g_fore := gl_fore,
    B_fore := F_fore.binds (ps := ["log"]) fun _ _ _ _ _ _ us hl => match us, hl with | [_], _ => rfl,
    f_sums_from := _, d_sums_from := _, F_sums_from := F_sums_from, g_sums_from := gl_sums_from,
    B_sums_from := F_sums_from.binds (ps := ["row"]) fun _ _ _ _ _ _ us hl => match us, hl with | [_], _ => rfl,
    f_ways_by_end := _, d_ways_by_end := _, F_ways_by_end := F_ways_by_end, g_ways_by_end := gl_ways_by_end,
    B_ways_by_end := F_ways_by_end.binds (ps := ["order", "many"]) fun _ _ _ _ _ _ us hl => match us, hl with | [_, _], _ => rfl,
    f_alike_count := _, d_alike_count := _, F_alike_count := F_alike_count, g_alike_count := gl_alike_count,
    B_alike_count := F_alike_count.binds (ps := ["log"]) fun _ _ _ _ _ _ us hl => match us, hl with | [_], _ => rfl,
    f_power := _, d_power := _, F_power := F_power, g_power := gl_power,
    B_power := F_power.binds (ps := ["base", "exponent"]) fun _ _ _ _ _ _ us hl => match us, hl with | [_, _], _ => rfl,
    f_unlike_count := _, d_unlike_count := _, F_unlike_count := F_unlike_count, g_unlike_count := gl_unlike_count,
    B_unlike_count := F_unlike_count.binds (ps := ["records"]) fun _ _ _ _ _ _ us hl => match us, hl with | [_], _ => rfl,
    f__law_crate := _, d__law_crate := _, F__law_crate := F__law_crate, g__law_crate := gl__law_crate,
    B__law_crate := F__law_crate.binds (ps := ["script", "at"]) fun _ _ _ _ _ _ us hl => match us, hl with | [_, _], _ => rfl,
    f__law_grab := _, d__law_grab := _, F__law_grab := F__law_grab, g__law_grab := gl__law_grab,
    B__law_grab := F__law_grab.binds (ps := ["crate", "span"]) fun _ _ _ _ _ _ us hl => match us, hl with | [_, _], _ => rfl,
    f__law_matched := _, d__law_matched := _, F__law_matched := F__law_matched, g__law_matched := gl__law_matched,
    B__law_matched := F__law_matched.binds (ps := ["found", "due"]) fun _ _ _ _ _ _ us hl => match us, hl with | [_, _], _ => rfl,
    f__law_names := _, d__law_names := _, F__law_names := F__law_names, g__law_names := gl__law_names,
    B__law_names := F__law_names.binds (ps := ["crate", "many"]) fun _ _ _ _ _ _ us hl => match us, hl with | [_, _], _ => rfl,
    f__law_any_value := _, d__law_any_value := _, F__law_any_value := F__law_any_value, g__law_any_value := gl__law_any_value,
    B__law_any_value := F__law_any_value.binds (ps := ["crate"]) fun _ _ _ _ _ _ us hl => match us, hl with | [_], _ => rfl,
    f__law_next := _, d__law_next := _, F__law_next := F__law_next, g__law_next := gl__law_next,
    B__law_next := F__law_next.binds (ps := ["rows_here", "spot"]) fun _ _ _ _ _ _ us hl => match us, hl with | [_, _], _ => rfl,
    f__law_nexts := _, d__law_nexts := _, F__law_nexts := F__law_nexts, g__law_nexts := gl__law_nexts,
    B__law_nexts := F__law_nexts.binds (ps := ["rows_here"]) fun _ _ _ _ _ _ us hl => match us, hl with | [_], _ => rfl,
    f__law_pattern := _, d__law_pattern := _, F__law_pattern := F__law_pattern, g__law_pattern := gl__law_pattern,
    B__law_pattern := F__law_pattern.binds (ps := ["rows_here"]) fun _ _ _ _ _ _ us hl => match us, hl with | [_], _ => rfl,
    f__law_lefts := _, d__law_lefts := _, F__law_lefts := F__law_lefts, g__law_lefts := gl__law_lefts,
    B__law_lefts := F__law_lefts.binds (ps := ["nexts_here"]) fun _ _ _ _ _ _ us hl => match us, hl with | [_], _ => rfl,
    f__law_key := _, d__law_key := _, F__law_key := F__law_key, g__law_key := gl__law_key,
    B__law_key := F__law_key.binds (ps := ["number_here"]) fun _ _ _ _ _ _ us hl => match us, hl with | [_], _ => rfl,
    f__law_keyed := _, d__law_keyed := _, F__law_keyed := F__law_keyed, g__law_keyed := gl__law_keyed,
    B__law_keyed := F__law_keyed.binds (ps := ["crate", "shape_here"]) fun _ _ _ _ _ _ us hl => match us, hl with | [_, _], _ => rfl,
    f__law_wide_shape := _, d__law_wide_shape := _, F__law_wide_shape := F__law_wide_shape, g__law_wide_shape := gl__law_wide_shape,
    B__law_wide_shape := F__law_wide_shape.binds (ps := ["crate", "most_here"]) fun _ _ _ _ _ _ us hl => match us, hl with | [_, _], _ => rfl,
    f__law_some_shape := _, d__law_some_shape := _, F__law_some_shape := F__law_some_shape, g__law_some_shape := gl__law_some_shape,
    B__law_some_shape := F__law_some_shape.binds (ps := ["crate", "short_here", "most_here"]) fun _ _ _ _ _ _ us hl => match us, hl with | [_, _, _], _ => rfl,
    f__law_shape_nexts := _, d__law_shape_nexts := _, F__law_shape_nexts := F__law_shape_nexts, g__law_shape_nexts := gl__law_shape_nexts,
    B__law_shape_nexts := F__law_shape_nexts.binds (ps := ["shape_here"]) fun _ _ _ _ _ _ us hl => match us, hl with | [_], _ => rfl,
    f__law_other_ends := _, d__law_other_ends := _, F__law_other_ends := F__law_other_ends, g__law_other_ends := gl__law_other_ends,
    B__law_other_ends := F__law_other_ends.binds (ps := ["crate", "size", "lefts_here"]) fun _ _ _ _ _ _ us hl => match us, hl with | [_, _, _], _ => rfl,
    f__law_shape := _, d__law_shape := _, F__law_shape := F__law_shape, g__law_shape := gl__law_shape,
    B__law_shape := F__law_shape.binds (ps := ["size", "lefts_here", "rights_here"]) fun _ _ _ _ _ _ us hl => match us, hl with | [_, _, _], _ => rfl,
    f__law_alike_shape := _, d__law_alike_shape := _, F__law_alike_shape := F__law_alike_shape, g__law_alike_shape := gl__law_alike_shape,
    B__law_alike_shape := F__law_alike_shape.binds (ps := ["crate", "shape_here"]) fun _ _ _ _ _ _ us hl => match us, hl with | [_, _], _ => rfl,
    f__law_all_shapes := _, d__law_all_shapes := _, F__law_all_shapes := F__law_all_shapes, g__law_all_shapes := gl__law_all_shapes,
    B__law_all_shapes := F__law_all_shapes.binds (ps := ["size"]) fun _ _ _ _ _ _ us hl => match us, hl with | [_], _ => rfl,
    f__law_turned_shape := _, d__law_turned_shape := _, F__law_turned_shape := F__law_turned_shape, g__law_turned_shape := gl__law_turned_shape,
    B__law_turned_shape := F__law_turned_shape.binds (ps := ["crate", "shape_here"]) fun _ _ _ _ _ _ us hl => match us, hl with | [_, _], _ => rfl,
    f__law_log_of := _, d__law_log_of := _, F__law_log_of := F__law_log_of, g__law_log_of := gl__law_log_of,
    B__law_log_of := F__law_log_of.binds (ps := ["crate", "shape_here"]) fun _ _ _ _ _ _ us hl => match us, hl with | [_, _], _ => rfl,
    f__law_forms_right := _, d__law_forms_right := _, F__law_forms_right := F__law_forms_right, g__law_forms_right := gl__law_forms_right,
    B__law_forms_right := F__law_forms_right.binds (ps := ["crate", "shape_here"]) fun _ _ _ _ _ _ us hl => match us, hl with | [_, _], _ => rfl,
    f__law_powers := _, d__law_powers := _, F__law_powers := F__law_powers, g__law_powers := gl__law_powers,
    B__law_powers := F__law_powers.binds (ps := ["size", "keys_here"]) fun _ _ _ _ _ _ us hl => match us, hl with | [_, _], _ => rfl,
    f__law_small_right := _, d__law_small_right := _, F__law_small_right := F__law_small_right, g__law_small_right := gl__law_small_right,
    B__law_small_right := F__law_small_right.binds (ps := ["crate", "size"]) fun _ _ _ _ _ _ us hl => match us, hl with | [_, _], _ => rfl,
    f__law_pair_right := _, d__law_pair_right := _, F__law_pair_right := F__law_pair_right, g__law_pair_right := gl__law_pair_right,
    B__law_pair_right := F__law_pair_right.binds (ps := ["crate", "one", "two"]) fun _ _ _ _ _ _ us hl => match us, hl with | [_, _, _], _ => rfl,
    z_isinstance := He.free_ok X G (c.fact 45 (f := .free "isinstance") rfl),
    z_int := He.free_ok X G (c.fact 46 (f := .free "int") rfl),
    z_bool := He.free_ok X G (c.fact 47 (f := .free "bool") rfl),
    z_str := He.free_ok X G (c.fact 48 (f := .free "str") rfl),
    z_list := He.free_ok X G (c.fact 49 (f := .free "list") rfl),
    z_tuple := He.free_ok X G (c.fact 50 (f := .free "tuple") rfl),
    z_len := He.free_ok X G (c.fact 51 (f := .free "len") rfl),
    z_all := He.free_ok X G (c.fact 52 (f := .free "all") rfl),
    z_abs := He.free_ok X G (c.fact 53 (f := .free "abs") rfl),
    z_max := He.free_ok X G (c.fact 54 (f := .free "max") rfl),
    z_min := He.free_ok X G (c.fact 55 (f := .free "min") rfl),
    z_range := He.free_ok X G (c.fact 56 (f := .free "range") rfl),
    z_enumerate := He.free_ok X G (c.fact 57 (f := .free "enumerate") rfl),
    z_reversed := He.free_ok X G (c.fact 58 (f := .free "reversed") rfl),
    z_sorted := He.free_ok X G (c.fact 59 (f := .free "sorted") rfl),
    z_zip := He.free_ok X G (c.fact 60 (f := .free "zip") rfl),
    z_sum := He.free_ok X G (c.fact 61 (f := .free "sum") rfl),
    t_LETTERS := t0, c_LETTERS := c0,
    C_InvalidNumber := He.ga K "InvalidNumber", g_InvalidNumber := He.glo_ok X G (c.fact 62 (f := .glo "InvalidNumber") rfl), q_InvalidNumber := (He.exc_ok (c.fact 63 (f := .exc "InvalidNumber") rfl)).1, k_InvalidNumber := (He.exc_ok (c.fact 63 (f := .exc "InvalidNumber") rfl)).2.1, s_InvalidNumber := (He.exc_ok (c.fact 63 (f := .exc "InvalidNumber") rfl)).2.2.1, y_InvalidNumber := (He.exc_ok (c.fact 63 (f := .exc "InvalidNumber") rfl)).2.2.2 }
  have b := FunD.bindsA (ps := ["script"]) FD_law fun _ _ _ _ _ _ us hl => match us, hl with | [_], _ => rfl
  exact ⟨fd_law, fun s v => b s [v] rfl, fun base _ _ => ok_law T F_law⟩
theorem law_start {K : PySem.W.Frag} {H : Hp} {a : Addr} {ns : List Int} {Q : VK} {E : XK} (hl : ns.length ≤ 63) (hS : SqL K H a (ns.map V.int)) (q : ∀ H', Q (.bl true) H') : spS K pr_law [.ref a] H Q E := by
  have core : Core K (fun _ => none) (fun _ => none) [] [.scr ns] [] [] ([V.ref a].map some) H H := {
    exA := fun b o e => by cases e
    exG := fun b o e => e
    exB := fun b o e => by cases e
    ban := fun b o e => by cases e
    banc := fun i l c e => by simp at e
    inj := fun i j l c d e => by simp at e
    len := rfl
    cells := fun i l c e => by simp at e
    slen := rfl
    slots := fun i sd e hn => by
      match i, e with
      | 0, e =>
        cases e
        exact ⟨.ref a, rfl, a, rfl, hS⟩
      | k + 1, e => simp at e
    tmp := fun p hp => by cases hp }
  refine ⟨fun _ => none, fun _ => none, [], [.scr ns], [], fun r _ => r = .dat (.bool true), ⟨ns, rfl, rfl, hl, rfl⟩, ⟨H, core⟩, fun v H' r cl' ls' _ hr s => ?_⟩
  obtain ⟨G, c⟩ := s
  subst hr
  have ok : Rp K G v (.bool true) := c.tmp _ List.mem_cons_self
  cases ok
  exact q H'
end Kp
open PySem PySem.W PySem.Calls PyProof.Rows
theorem PySem.Challenge.cw_markthenpurge_k86_whole_forms_tell_alike_holds : PySem.Challenge.rw_markthenpurge_k86_whole_forms_tell_alike.Holds := by
  w_on; o_law
  refine HandSHeadRun.head_any (r := OpenLaw.row PySem.Challenge.rw_markthenpurge_k86_whole_forms_tell_alike) (q := view (OpenLaw.row PySem.Challenge.rw_markthenpurge_k86_whole_forms_tell_alike).prog [53]) (H := Kp.hhk) (ob := Kp.hob) (M := 6000) (loose := Kp.loose1 ++ Kp.loose2) (d := HandSHeadRun.topDef (OpenLaw.row PySem.Challenge.rw_markthenpurge_k86_whole_forms_tell_alike).prog 53) (kwd := []) Kp.hob_eq
    (by kernel_rfl) (fun s => by kernel_rfl) Kp.hrun (by kernel_rfl) (by kernel_rfl) (by kernel_rfl) (by rfl) (by first | assumption | decide +kernel) (by decide +kernel) ⟨rfl, rfl, rfl, rfl, rfl, by decide +kernel⟩ ?hw ?hc
  case hw => w_witness2
  case hc =>
    refine L2.walk_ofE (l := PySem.Challenge.rw_markthenpurge_k86_whole_forms_tell_alike) (n := 63) (k := 12) (x := "script") (CX := L2.CX0) rfl (by decide) (by kernel_rfl) ⟨rfl, by decide, by decide⟩ ?F (fun _ _ _ _ z => z)
    intro w mg fa h Y G hmg0
    obtain ⟨K, KX, c⟩ := Y
    have hmg : mg ("law" : PySem.Str) = some (.ref fa) := by
      have e : (HandSHeadRun.topDef (OpenLaw.row PySem.Challenge.rw_markthenpurge_k86_whole_forms_tell_alike).prog 53).name = ("law" : PySem.Str) := by kernel_rfl
      rw [← e]
      exact hmg0
    obtain ⟨fd, hb, hF⟩ := Kp.hfacts (P := (PySem.Challenge.rw_markthenpurge_k86_whole_forms_tell_alike).prog) (w := w) KX G hmg c
    exact ⟨K, fd, Sy.spS K Kp.pr_law, KX, hb, fun H a ns hl _ hS => Kp.law_start hl hS fun _ => rfl, hF⟩
