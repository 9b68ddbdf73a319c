import PyProof.Rows.All
import Wide.All
import OpenK.AllK
import Wide.FinOn
import HandS.ForMost
import KE.KeyNested
import HandS.Deep
import HandS.TupAny
import HandS.TupLe
import HandS.IsInst
import KE.DataCmp
import HandS.Flow
import HandS.Zip
import HandS.Words
import HandS.TupLen
import HandS.Codes
import HandS.TupSets
import KE.SortData
import PyProof.DictRoadsH
import HandS.Style
import KE.KIndexOf
import KE.KStar
import KE.KDictSum
import KE.KDictCopyH
import KE.DataMinMax
import KE.KDictPairs
import HandS.ExcValue
import KE.KDictDisplayH
import PyProof.ReprRoads
import PyProof.CallFns
import PyProof.Rows.StrRules
import HandS.Ends
import KE.KDictKeyed
import HandS.DictComp
import PySem.Challenge.RW_chosenlast_k16_coins_found
set_option Elab.async false
set_option linter.all false
set_option maxRecDepth 100000
set_option autoImplicit false
namespace Mp
open PySem PySem.Spec
      PyProof.Rows L2

inductive Val where
  | non | bl (b : Bool) | int (i : Int) | str (x : Str) | ty (n : String) | fn (f : Str)
  | tup (xs : List Val) | lst (xs : List Val) | scr (xs : List Val) | ref (n : Nat)
  /-- a tuple of which it is known that it is nothing else -/
  | ptp (xs : List Val)

inductive SO where
  | lst (xs : List Val) | dK (kvs : List (Key × Val)) | dN (kvs : List (NestedKey × Val))
  /-- a dict that is being walked -/
  | lk (o : SO)
abbrev Sto := List SO
abbrev Sl := List (Option Val)
abbrev Res (α : Type) := Option (α × Sto)
abbrev ME := Sl → Sto → Res Val
abbrev MEs := Sl → Sto → Res (List Val)

/-- what the interpreter leans on: the written part, where the defs stand -/
structure Gx where
  K : PySem.W.Frag
  fa : Str → Option Addr
  w : World
  /-- lists that are just being made -/
  z : List Addr := []
mutual
def ofK : NestedKey → Val
  | .none => .non
  | .num i => .int i
  | .text x => .str x
  | .tup ks => .tup (ofKs ks)
def ofKs : List NestedKey → List Val
  | [] => []
  | k :: ks => ofK k :: ofKs ks
end
abbrev Gx.at (g : Gx) (z : List Addr) : Gx := { g with z := z }

mutual
inductive RV (g : Gx) (r : List Addr) (H : Hp) : Val → V → Prop
  | non : RV g r H .non .non
  | bl (b : Bool) : RV g r H (.bl b) (.bl b)
  | int (i : Int) : RV g r H (.int i) (.int i)
  | str (x : Str) : RV g r H (.str x) (.str x)
  | ty (n : String) : RV g r H (.ty n) (.ty n)
  | fn {f : Str} {a : Addr} : g.fa f = some a → RV g r H (.fn f) (.ref a)
  | tup {a : Addr} {xs : List Val} {vs : List V} : SqT g.K H a vs → xs.length ≤ sizeLine → RVs g r H xs vs → RV g r H (.tup xs) (.ref a)
  | lst {a : Addr} {xs : List Val} {vs : List V} : H a = some (.lst vs) → a ∉ r → a ∉ g.z → xs.length ≤ sizeLine → RVs g r H xs vs → RV g r H (.lst xs) (.ref a)
  | scr {a : Addr} {o : Obj} {xs : List Val} {vs : List V} : H a = some (.frz o (.lst vs)) → a ∉ r → xs.length ≤ sizeLine → RVs g r H xs vs → RV g r H (.scr xs) (.ref a)
  | ref {n : Nat} {a : Addr} : r[n]? = some a → RV g r H (.ref n) (.ref a)
  | ptp {a : Addr} {o : Obj} {xs : List Val} {vs : List V} : H a = some (.frz o (.tup vs)) → o.dict = none → xs.length ≤ sizeLine → RVs g r H xs vs → RV g r H (.ptp xs) (.ref a)
inductive RVs (g : Gx) (r : List Addr) (H : Hp) : List Val → List V → Prop
  | nil : RVs g r H [] []
  | cons {x : Val} {v : V} {xs : List Val} {vs : List V} : RV g r H x v → RVs g r H xs vs → RVs g r H (x :: xs) (v :: vs)
end

/-- a dict whose keys are nested tuples -/
abbrev NRow := NestedKey × Addr × V
def entN (w : World) (x : NestedKey × Addr × Value) : DictEntry := ⟨x.1.hash w, .ref x.2.1, x.2.2⟩
abbrev RowRel (p : NRow) (q : NestedKey × Addr × Value) : Prop := p.1 = q.1 ∧ p.2.1 = q.2.1 ∧ RelV p.2.2 q.2.2
def DnAt (w : World) (a : Addr) (rows : List NRow) (h : Heap) : Prop := rows.length ≤ sizeLine ∧ (a == sysModules) = false ∧ ∃ xs : List (NestedKey × Addr × Value), Paired RowRel rows xs ∧
  ∃ o es ep, h.get? a = some o ∧ o.ExactDict ∧ o.data = .dict es ep ∧ es.toList = xs.map (entN w) ∧ (xs.map (·.1)).Nodup
abbrev DnHO (w : World) (a : Addr) (rows : List NRow) : HO := .ext (DnAt w a rows)
/-- what stands at a store's place -/
inductive RO (g : Gx) (r : List Addr) (H : Hp) (a : Addr) : SO → HO → Prop
  | lst {xs : List Val} {vs : List V} : xs.length ≤ sizeLine → RVs g r H xs vs → RO g r H a (.lst xs) (.lst vs)
  | dK {kvs : List (Key × Val)} {kws : List (Key × V)} : kvs.map (·.1) = kws.map (·.1) → kvs.length ≤ sizeLine → RVs g r H (kvs.map (·.2)) (kws.map (·.2)) → RO g r H a (.dK kvs) (.dK kws)
  | dN {kvs : List (NestedKey × Val)} {rows : List NRow} : kvs.map (·.1) = rows.map (·.1) → kvs.length ≤ sizeLine → RVs g r H (kvs.map fun p => ofK p.1) (rows.map fun p => V.ref p.2.1) → RVs g r H (kvs.map (·.2)) (rows.map fun p => p.2.2) → RO g r H a (.dN kvs) (DnHO g.w a rows)
  | lkK {kvs : List (Key × Val)} {o : Obj} {kws : List (Key × V)} : RO g r H a (.dK kvs) (.dK kws) → RO g r H a (.lk (.dK kvs)) (.frz o (.dK kws))
  | lkN {kvs : List (NestedKey × Val)} {o : Obj} {rows : List NRow} : kvs.map (·.1) = rows.map (·.1) → kvs.length ≤ sizeLine → RVs g r H (kvs.map fun p => ofK p.1) (rows.map fun p => V.ref p.2.1) → RVs g r H (kvs.map (·.2)) (rows.map fun p => p.2.2) → RO g r H a (.lk (.dN kvs)) (.frz o (DnHO g.w a rows))

structure SR (g : Gx) (r : List Addr) (H : Hp) (S : Sto) : Prop where
  len : r.length = S.length
  nd : r.Nodup
  zat : ∀ p ∈ g.z, ∃ xs, H p = some (.lst xs)
  zr : ∀ p ∈ g.z, p ∉ r
  at_ : ∀ (i : Nat) (o : SO) (a : Addr), S[i]? = some o → r[i]? = some a → ∃ u, H a = some u ∧ RO g r H a o u

/-- from one heap to a later one: what stood stands, but for the store's own objects -/
structure Step (r : List Addr) (H : Hp) (r' : List Addr) (H' : Hp) : Prop where
  ext : ∀ b o, H b = some o → b ∉ r → H' b = some o
  pre : ∃ t, r' = r ++ t
  new : ∀ b, b ∈ r' → b ∈ r ∨ H b = none
  frz : ∀ b o u, H b = some (.frz o u) → H' b = some (.frz o u)

structure SlR (g : Gx) (r : List Addr) (H : Hp) (sl : Sl) (st : L2.St) : Prop where
  len : sl.length = st.length
  at_ : ∀ (i : Nat) (v : Val), sl[i]? = some (some v) → ∃ hv, st[i]? = some (some hv) ∧ RV g r H v hv

theorem Step.refl (r : List Addr) (H : Hp) : Step r H r H := ⟨fun _ _ h _ => h, ⟨[], by simp⟩, fun _ h => .inl h, fun _ _ _ h => h⟩
theorem Step.trans {r r1 r2 : List Addr} {H H1 H2 : Hp} (a : Step r H r1 H1) (b : Step r1 H1 r2 H2) : Step r H r2 H2 := by
  refine ⟨fun c o h hn => ?_, ?_, fun c hc => ?_, fun c o u h => b.frz c o u (a.frz c o u h)⟩
  · refine b.ext c o (a.ext c o h hn) fun hc => ?_
    rcases a.new c hc with z | z
    · exact hn z
    · rw [h] at z; cases z
  · obtain ⟨t, e⟩ := a.pre
    obtain ⟨t', e'⟩ := b.pre
    exact ⟨t ++ t', by rw [e', e, List.append_assoc]⟩
  · rcases b.new c hc with z | z
    · exact a.new c z
    · by_cases hm : c ∈ r
      · exact .inl hm
      · right
        cases q : H c with
        | none => rfl
        | some o =>
          rw [a.ext c o q hm] at z
          cases z
/-- the store's objects are no tuples and not locked -/
def Own (r : List Addr) (H : Hp) : Prop := ∀ b ∈ r, ∃ u, H b = some u ∧ (∀ xs, u ≠ .tup xs) ∧ (∀ o xs, u ≠ .frz o (.tup xs))
theorem SR.own {g : Gx} {r : List Addr} {H : Hp} {S : Sto} (s : SR g r H S) : Own r H := fun b hb => by
  obtain ⟨i, hi, e⟩ := List.mem_iff_getElem.mp hb
  have e1 : r[i]? = some b := by rw [List.getElem?_eq_getElem hi, e]
  have hi' : i < S.length := by rw [← s.len]; exact hi
  obtain ⟨u, hu, ro⟩ := s.at_ i S[i] b (by rw [List.getElem?_eq_getElem hi']) e1
  generalize S[i] = so at ro
  refine ⟨u, hu, ?_, ?_⟩
  · intro xs z; subst z; cases ro
  · intro o v z; subst z; cases ro
theorem Step.seqT {g : Gx} {r r' : List Addr} {H H' : Hp} {a : Addr} {vs : List V} (s : Step r H r' H') (ow : Own r H) (h : SqT g.K H a vs) : SqT g.K H' a vs := by
  rcases h with (h |
        ⟨o, h⟩) | h
  · refine .inl (.inl (s.ext _ _ h fun z => ?_))
    obtain ⟨u, hu, h1, _⟩ := ow a z
    rw [h] at hu; cases hu; exact h1 _ rfl
  · refine .inl (.inr ⟨o, s.ext _ _ h fun z => ?_⟩)
    obtain ⟨u, hu, _, h1⟩ := ow a z
    rw [h] at hu; cases hu; exact h1 _ _ rfl
  · exact .inr h
theorem Step.nin {r r' : List Addr} {H H' : Hp} {a : Addr} {o : HO} (s : Step r H r' H') (hn : a ∉ r) (h : H a = some o) : H' a = some o ∧ a ∉ r' := by
  refine ⟨s.ext _ _ h hn, fun z => ?_⟩
  rcases s.new a z with q | q
  · exact hn q
  · rw [h] at q; cases q
theorem Step.get {r r' : List Addr} {H H' : Hp} {n : Nat} {a : Addr} (s : Step r H r' H') (h : r[n]? = some a) : r'[n]? = some a := by
  obtain ⟨t, rfl⟩ := s.pre
  have hl : n < r.length := by
    rcases Nat.lt_or_ge n r.length with q | q
    · exact q
    · rw [List.getElem?_eq_none q] at h; cases h
  rw [List.getElem?_append_left hl]; exact h
/-- what is being made later was not there before -/
def Zs (z z' : List Addr) (H : Hp) : Prop := ∀ p ∈ z', p ∈ z ∨ H p = none
theorem Zs.refl (z : List Addr) (H : Hp) : Zs z z H := fun _ h => .inl h
theorem Zs.nin {z z' : List Addr} {H : Hp} {a : Addr} {o : HO} (s : Zs z z' H) (hn : a ∉ z) (h : H a = some o) : a ∉ z' := fun q => by
  rcases s a q with e | e
  · exact hn e
  · rw [h] at e; cases e
mutual
theorem RV.monoZ {g : Gx} {r r' z' : List Addr} {H H' : Hp} (s : Step r H r' H') (ow : Own r H) (zs : Zs g.z z' H) : ∀ {x : Val} {v : V}, RV g r H x v → RV (g.at z') r' H' x v
  | _, _, .non => .non
  | _, _, .bl b => .bl b
  | _, _, .int i => .int i
  | _, _, .str i => .str i
  | _, _, .ty i => .ty i
  | _, _, .fn h => .fn h
  | _, _, .tup h hl hs => .tup (s.seqT (g := g) ow h) hl (RVs.monoZ s ow zs hs)
  | _, _, .lst h hn hz hl hs => .lst (s.nin hn h).1 (s.nin hn h).2 (zs.nin hz h) hl (RVs.monoZ s ow zs hs)
  | _, _, .scr h hn hl hs => .scr (s.nin hn h).1 (s.nin hn h).2 hl (RVs.monoZ s ow zs hs)
  | _, _, .ref h => .ref (s.get h)
  | _, _, .ptp h hd hl hs => .ptp (s.ext _ _ h fun q => by obtain ⟨u, hu, _, c⟩ := ow _ q; rw [h] at hu; exact c _ _ (Option.some.inj hu).symm) hd hl (RVs.monoZ s ow zs hs)
theorem RVs.monoZ {g : Gx} {r r' z' : List Addr} {H H' : Hp} (s : Step r H r' H') (ow : Own r H) (zs : Zs g.z z' H) : ∀ {x : List Val} {v : List V}, RVs g r H x v → RVs (g.at z') r' H' x v
  | _, _, .nil => .nil
  | _, _, .cons h hs => .cons (RV.monoZ s ow zs h) (RVs.monoZ s ow zs hs)
end
theorem RV.mono {g : Gx} {r r' : List Addr} {H H' : Hp} (s : Step r H r' H') (ow : Own r H) {x : Val} {v : V} (h : RV g r H x v) : RV g r' H' x v := RV.monoZ s ow (.refl _ _) h
theorem RVs.mono {g : Gx} {r r' : List Addr} {H H' : Hp} (s : Step r H r' H') (ow : Own r H) {x : List Val} {v : List V} (h : RVs g r H x v) : RVs g r' H' x v := RVs.monoZ s ow (.refl _ _) h
theorem SlR.mono {g : Gx} {r r' : List Addr} {H H' : Hp} {sl : Sl} {st : L2.St} (s : Step r H r' H') (ow : Own r H) (x : SlR g r H sl st) : SlR g r' H' sl st :=
  ⟨x.len, fun i v h => by obtain ⟨hv, e, q⟩ := x.at_ i v h; exact ⟨hv, e, q.mono s ow⟩⟩
theorem SlR.set {g : Gx} {r : List Addr} {H : Hp} {sl : Sl} {st : L2.St} {v : Val} {hv : V} (x : SlR g r H sl st) (q : RV g r H v hv) (i : Nat) : SlR g r H (sl.set i (some v)) (st.set i (some hv)) := by
  refine ⟨by simp [x.len], fun j w h => ?_⟩
  by_cases e : i = j
  · subst e
    by_cases hl : i < sl.length
    · rw [List.getElem?_set_self hl] at h
      cases h
      exact ⟨hv, by rw [List.getElem?_set_self (by rw [← x.len]; exact hl)], q⟩
    · rw [List.getElem?_eq_none (by simp; omega)] at h; cases h
  · rw [List.getElem?_set_ne e] at h
    obtain ⟨hw, e1, q1⟩ := x.at_ j w h
    exact ⟨hw, by rw [List.getElem?_set_ne e]; exact e1, q1⟩
theorem RVs.length {g : Gx} {r : List Addr} {H : Hp} : ∀ {xs : List Val} {vs : List V}, RVs g r H xs vs → xs.length = vs.length
  | _, _, .nil => rfl
  | _, _, .cons _ t => by simp [RVs.length t]
theorem RVs.get {g : Gx} {r : List Addr} {H : Hp} : ∀ {xs : List Val} {vs : List V} {i : Nat} {x : Val}, RVs g r H xs vs → xs[i]? = some x → ∃ v, vs[i]? = some v ∧ RV g r H x v
  | _, _, i, _, .nil, e => by simp at e
  | _, _, 0, _, .cons h _, e => by simp at e; subst e; exact ⟨_, rfl, h⟩
  | _, _, i + 1, _, .cons _ t, e => by
    obtain ⟨v, h1, h2⟩ := RVs.get (i := i) t (by simpa using e)
    exact ⟨v, by simpa using h1, h2⟩
theorem RVs.append {g : Gx} {r : List Addr} {H : Hp} : ∀ {xs ys : List Val} {vs ws : List V}, RVs g r H xs vs → RVs g r H ys ws → RVs g r H (xs ++ ys) (vs ++ ws)
  | _, _, _, _, .nil, s => s
  | _, _, _, _, .cons h t, s => .cons h (RVs.append t s)
end Mp
namespace Mp
open PySem PySem.Spec
      PyProof.Rows L2

/-! ### readings -/
structure Rep (g : Gx) (r : List Addr) (H : Hp) (S : Sto) (sl : Sl) (st : L2.St) : Prop where
  sr : SR g r H S
  sl : SlR g r H sl st
/-- an expression's -/
def tD (g : Gx) (m : ME) : TE := fun st H Q => ∃ z r S sl v S', Rep (g.at z) r H S sl st ∧ m sl S = some (v, S') ∧
  ∀ r' H' hv, Step r H r' H' → SR (g.at z) r' H' S' → RV (g.at z) r' H' v hv → Q hv H'
/-- several expressions' -/
def tDs (g : Gx) (m : MEs) : TA := fun st H Q => ∃ z r S sl v S', Rep (g.at z) r H S sl st ∧ m sl S = some (v, S') ∧
  ∀ r' H' hv, Step r H r' H' → SR (g.at z) r' H' S' → RVs (g.at z) r' H' v hv → Q hv H'
/-- a test's -/
abbrev MT := Sl → Sto → Res Bool
def tDt (g : Gx) (m : MT) : TT := fun st H Q => ∃ z r S sl b S', Rep (g.at z) r H S sl st ∧ m sl S = some (b, S') ∧
  ∀ r' H', Step r H r' H' → SR (g.at z) r' H' S' → Q b H'

theorem PE.weak {X : Cx} {e : Expr} {t t' : TE} (h : PE X e t) (w : ∀ st H Q, t' st H Q → t st H Q) : PE X e t' := ⟨fun pins s st H Q I q => h.run pins s st H Q I (w _ _ _ q)⟩
theorem PT.weak {X : Cx} {e : Expr} {t t' : TT} (h : PT X e t) (w : ∀ st H Q, t' st H Q → t st H Q) : PT X e t' := ⟨fun pins s st H Q I q => h.run pins s st H Q I (w _ _ _ q)⟩
theorem PW.weak {X : Cx} {e : Expr} {t t' : TT} (h : PW X e t) (w : ∀ st H Q, t' st H Q → t st H Q) : PW X e t' := ⟨fun wh pins s st H Q I q => h.run wh pins s st H Q I (w _ _ _ q)⟩
theorem PA.weak {X : Cx} {e : List Expr} {t t' : TA} (h : PA X e t) (w : ∀ st H Q, t' st H Q → t st H Q) : PA X e t' := ⟨fun pos pins s st H Q I q => h.run pos pins s st H Q I (w _ _ _ q)⟩
theorem PS.weak {X : Cx} {e : Stmt} {t t' : TS} (h : PS X e t) (w : ∀ D st H, t' D st H → t D st H) : PS X e t' := ⟨fun pins s st H Q I q => h.run pins s st H Q I (w _ _ _ q)⟩
theorem PSs.weak {X : Cx} {e : List Stmt} {t t' : TS} (h : PSs X e t) (w : ∀ D st H, t' D st H → t D st H) : PSs X e t' := ⟨fun pins s st H Q I q => h.run pins s st H Q I (w _ _ _ q)⟩

theorem Rep.step {g : Gx} {r r' : List Addr} {H H' : Hp} {S S' : Sto} {sl : Sl} {st : L2.St} (R : Rep g r H S sl st) (s : Step r H r' H') (sr : SR g r' H' S') : Rep g r' H' S' sl st := ⟨sr, R.sl.mono s R.sr.own⟩

/-! ### the interpreter's words -/
def eVar (i : Nat) : ME := fun sl S => match sl[i]? with
  | some (some v) => some (v, S)
  | _ => none
def eCon (v : Val) : ME := fun _ S => some (v, S)
def esNil : MEs := fun _ S => some ([], S)
def esCons (m : ME) (ms : MEs) : MEs := fun sl S => (m sl S).bind fun p => (ms sl p.2).bind fun q => some (p.1 :: q.1, q.2)
def eTup (ms : MEs) : ME := fun sl S => (ms sl S).bind fun p => some (.tup p.1, p.2)
def eLst (ms : MEs) : ME := fun sl S => (ms sl S).bind fun p => some (.lst p.1, p.2)
def eLstM (ms : MEs) : ME := fun sl S => (ms sl S).bind fun p => some (.ref p.2.length, p.2 ++ [.lst p.1])
/-- a pure operation upon two values -/
def eOp2 (f : Sto → Val → Val → Option Val) (a b : ME) : ME := fun sl S => (a sl S).bind fun p => (b sl p.2).bind fun q => (f q.2 p.1 q.1).bind fun v => some (v, q.2)
def eOp1 (f : Sto → Val → Option Val) (a : ME) : ME := fun sl S => (a sl S).bind fun p => (f p.2 p.1).bind fun v => some (v, p.2)
def eIfE (c : MT) (a b : ME) : ME := fun sl S => (c sl S).bind fun p => if p.1 then a sl p.2 else b sl p.2
/-- truth -/
def truth (S : Sto) : Val → Option Bool
  | .non => some false
  | .bl b => some b
  | .int i => some (i != 0)
  | .str x => if x.length ≤ sizeLine then some (x.length != 0) else none
  | .tup xs => some (!xs.isEmpty)
  | .ptp xs => some (!xs.isEmpty)
  | .lst xs => some (!xs.isEmpty)
  | .ref n => match S[n]? with
    | some (.lst xs) => some (!xs.isEmpty)
    | some (.dK kvs) => some (!kvs.isEmpty)
    | _ => none
  | _ => none
def tTru (a : ME) : MT := fun sl S => (a sl S).bind fun p => (truth p.2 p.1).bind fun b => some (b, p.2)
def tAndD (a b : MT) : MT := fun sl S => (a sl S).bind fun p => if p.1 then b sl p.2 else some (false, p.2)
def tOrD (a b : MT) : MT := fun sl S => (a sl S).bind fun p => if p.1 then some (true, p.2) else b sl p.2
def tNotD (a : MT) : MT := fun sl S => (a sl S).bind fun p => some (!p.1, p.2)
/-- a test's answer as a value -/
def eOfT (a : MT) : ME := fun sl S => (a sl S).bind fun p => some (.bl p.1, p.2)
/-- x and y, x or y as values -/
def eAndV (a b : ME) : ME := fun sl S => (a sl S).bind fun p => (truth p.2 p.1).bind fun k => if k then b sl p.2 else some p
def eOrV (a b : ME) : ME := fun sl S => (a sl S).bind fun p => (truth p.2 p.1).bind fun k => if k then some p else b sl p.2
def eNotV (a : ME) : ME := fun sl S => (a sl S).bind fun p => (truth p.2 p.1).bind fun k => some (.bl (!k), p.2)

section
variable {X : Cx} {g : Gx} {pos : Pos}
theorem d_var {i : Nat} {x : Str} (hN : X.N[i]? = some x := by rfl) (hv : Vis X.env.scope x := by first | exact Or.inl rfl | exact Or.inr (Or.inl rfl) | exact Or.inr (Or.inr rfl)) (hd : (x == ("__debug__" : Str)) = false := by decide)
    (hcd : (x == ("__classdict__" : Str)) = false := by decide) : PE X (.Name x pos) (tD g (eVar i)) := by
  refine PE.weak (pe_var (i := i) hN hv hd hcd) fun st H Q h => ?_
  obtain ⟨z, r, S, sl, v, S', R, e, q⟩ := h
  unfold eVar at e
  split at e
  · rename_i v' hv'
    cases e
    obtain ⟨hw, e1, q1⟩ := R.sl.at_ i v hv'
    exact ⟨hw, e1, q r H hw (.refl r H) R.sr q1⟩
  · cases e
/-- constants -/
theorem d_con {e : Expr} {v : Val} {hv : V} (h : PE X e (tC hv)) (rv : ∀ z r H, RV (g.at z) r H v hv) : PE X e (tD g (eCon v)) := by
  refine PE.weak h fun st H Q h => ?_
  obtain ⟨z, r, S, sl, v', S', R, e, q⟩ := h
  cases e
  exact q r H hv (.refl r H) R.sr (rv z r H)
theorem d_int {i : Int} {j : Nat} : PE X (.Constant (.int i) j pos) (tD g (eCon (.int i))) := d_con pe_int fun _ _ _ => .int i
theorem d_bl {b : Bool} {j : Nat} : PE X (.Constant (.bool b) j pos) (tD g (eCon (.bl b))) := d_con pe_bl fun _ _ _ => .bl b
theorem d_non {j : Nat} : PE X (.Constant .none j pos) (tD g (eCon .non)) := d_con pe_non fun _ _ _ => .non
theorem d_str {x : Str} {j : Nat} : PE X (.Constant (.str x) j pos) (tD g (eCon (.str x))) := d_con pe_str fun _ _ _ => .str x
theorem d_nil : PA X [] (tDs g esNil) := by
  refine PA.weak pa_nil fun st H Q h => ?_
  obtain ⟨z, r, S, sl, v', S', R, e, q⟩ := h
  cases e
  exact q r H [] (.refl r H) R.sr .nil
theorem d_cons {e : Expr} {es : List Expr} {m : ME} {ms : MEs} (h : PE X e (tD g m)) (hs : PA X es (tDs g ms)) (hst : starEach (e :: es) X.env = (false, eval e X.env) :: starEach es X.env := by rfl) : PA X (e :: es) (tDs g (esCons m ms)) := by
  refine PA.weak (pa_cons h hs hst) fun st H Q h => ?_
  obtain ⟨z, r, S, sl, v', S', R, e, q⟩ := h
  unfold esCons at e
  simp only [Option.bind_eq_some_iff] at e
  obtain ⟨⟨a, S1⟩, e1, ⟨b, S2⟩, e2, e3⟩ := e
  cases e3
  refine ⟨z, r, S, sl, a, S1, R, e1, fun r1 H1 x st1 sr1 rx => ⟨z, r1, S1, sl, b, S2, R.step st1 sr1, e2, fun r2 H2 y st2 sr2 ry => ?_⟩⟩
  exact q r2 H2 (x :: y) (st1.trans st2) sr2 (.cons (rx.mono st2 sr1.own) ry)
theorem Step.new1 {r : List Addr} {H : Hp} {p : Addr} {o : HO} (h : H p = none) : Step r H r (upd H p o) :=
  ⟨fun b u e _ => by rw [upd_ne (ne_of_none e h)]; exact e, ⟨[], by simp⟩, fun _ h => .inl h, fun b x u e => by rw [upd_ne (ne_of_none e h)]; exact e⟩
theorem RVs.of_none {g : Gx} {r : List Addr} {H : Hp} {p : Addr} {o : HO} {xs : List Val} {vs : List V} (ow : Own r H) (h : H p = none) (x : RVs g r H xs vs) : RVs g r (upd H p o) xs vs := x.mono (Step.new1 h) ow
theorem RO.mono {g : Gx} {r r' : List Addr} {H H' : Hp} (s : Step r H r' H') (ow : Own r H) {a : Addr} {o : SO} {u : HO} (x : RO g r H a o u) : RO g r' H' a o u := by
  cases x with
  | lst hl h => exact .lst hl (h.mono s ow)
  | dK h1 hl h2 => exact .dK h1 hl (h2.mono s ow)
  | dN h1 hl h0 h2 => exact .dN h1 hl (h0.mono s ow) (h2.mono s ow)
  | lkK h => cases h with | dK h1 hl h2 => exact .lkK (.dK h1 hl (h2.mono s ow))
  | lkN h1 hl h0 h2 => exact .lkN h1 hl (h0.mono s ow) (h2.mono s ow)
/-- a new object beside the store -/
theorem SR.beside {g : Gx} {r : List Addr} {H : Hp} {S : Sto} {p : Addr} {o : HO} (s : SR g r H S) (h : H p = none) : SR g r (upd H p o) S := by
  refine ⟨s.len, s.nd, fun q hq => ?_, s.zr, fun i so a h1 h2 => ?_⟩
  · obtain ⟨xs, e⟩ := s.zat q hq
    exact ⟨xs, by rw [upd_ne (ne_of_none e h)]; exact e⟩
  obtain ⟨u, hu, ro⟩ := s.at_ i so a h1 h2
  exact ⟨u, by rw [upd_ne (ne_of_none hu h)]; exact hu, ro.mono (Step.new1 h) s.own⟩
/-- a new object of the store -/
theorem SR.grow {g : Gx} {r : List Addr} {H : Hp} {S : Sto} {p : Addr} {o : HO} {so : SO} (s : SR g r H S) (h : H p = none) (ro : RO g r H p so o) : SR g (r ++ [p]) (upd H p o) (S ++ [so]) ∧ Step r H (r ++ [p]) (upd H p o) := by
  have hp : p ∉ r := fun z => by
    obtain ⟨u, hu, _⟩ := s.own p z
    rw [h] at hu; cases hu
  have st : Step r H (r ++ [p]) (upd H p o) := by
    refine ⟨fun b u e _ => by rw [upd_ne (ne_of_none e h)]; exact e, ⟨[p], rfl⟩, fun b hb => ?_, fun b x u e => by rw [upd_ne (ne_of_none e h)]; exact e⟩
    rcases List.mem_append.mp hb with z | z
    · exact .inl z
    · right
      have : b = p := by simpa using z
      rw [this]; exact h
  refine ⟨⟨by simp [s.len], ?_, fun q hq => ?_, fun q hq => ?_, fun i so' a h1 h2 => ?_⟩, st⟩
  · refine List.nodup_append.mpr ⟨s.nd, by simp, fun a ha b hb => ?_⟩
    have : b = p := by simpa using hb
    subst this
    intro e; subst e; exact hp ha
  · obtain ⟨xs, e⟩ := s.zat q hq
    exact ⟨xs, by rw [upd_ne (ne_of_none e h)]; exact e⟩
  · obtain ⟨xs, e⟩ := s.zat q hq
    intro z
    rcases List.mem_append.mp z with z | z
    · exact s.zr q hq z
    · have : q = p := by simpa using z
      rw [this, h] at e; cases e
  · by_cases hl : i < S.length
    · rw [List.getElem?_append_left hl] at h1
      rw [List.getElem?_append_left (by rw [s.len]; exact hl)] at h2
      obtain ⟨u, hu, ro'⟩ := s.at_ i so' a h1 h2
      exact ⟨u, by rw [upd_ne (ne_of_none hu h)]; exact hu, ro'.mono st s.own⟩
    · have hi : i = S.length := by
        have := (List.getElem?_eq_some_iff.mp h1).1
        simp at this; omega
      subst hi
      rw [List.getElem?_append_right (Nat.le_refl _)] at h1
      rw [← s.len, List.getElem?_append_right (Nat.le_refl _)] at h2
      simp at h1 h2
      subst h1 h2
      exact ⟨o, upd_same, ro.mono st s.own⟩
/-- so many values come -/
def EsN (ms : MEs) (n : Nat) : Prop := ∀ sl S p, ms sl S = some p → p.1.length = n
theorem esN_nil : EsN esNil 0 := fun sl S p h => by cases h; rfl
theorem esN_cons {m : ME} {ms : MEs} {n : Nat} (h : EsN ms n) : EsN (esCons m ms) (n + 1) := fun sl S p e => by
  unfold esCons at e
  simp only [Option.bind_eq_some_iff] at e
  obtain ⟨⟨a, S1⟩, e1, ⟨b, S2⟩, e2, e3⟩ := e
  cases e3
  simp [h _ _ _ e2]
theorem d_tup {es : List Expr} {ms : MEs} {n : Nat} {x1 : Nat} (h : PA X es (tDs g ms)) (hn : EsN ms n) (hl : n ≤ sizeLine := by decide) : PE X (.Tuple es x1 pos) (tD g (eTup ms)) := by
  refine PE.weak (pe_tup h) fun st H Q h => ?_
  obtain ⟨z, r, S, sl, v', S', R, e, q⟩ := h
  unfold eTup at e
  simp only [Option.bind_eq_some_iff] at e
  obtain ⟨⟨a, S1⟩, e1, e3⟩ := e
  cases e3
  have hz : a.length ≤ sizeLine := by rw [hn _ _ _ e1]; exact hl
  refine ⟨z, r, S, sl, a, S1, R, e1, fun r1 H1 x st1 sr1 rx => ⟨by rw [← rx.length]; exact hz, fun p hp => ?_⟩⟩
  exact q r1 _ (.ref p) (st1.trans (Step.new1 hp)) (sr1.beside hp) (.tup (.inl (.inl upd_same)) hz (rx.of_none sr1.own hp))
theorem notin_own {r : List Addr} {H : Hp} {p : Addr} (ow : Own r H) (h : H p = none) : p ∉ r := fun z => by
  obtain ⟨u, hu, _⟩ := ow p z
  rw [h] at hu; cases hu
theorem SR.notz {g : Gx} {r : List Addr} {H : Hp} {S : Sto} {p : Addr} (sr : SR g r H S) (hp : H p = none) : p ∉ g.z := fun q => by
  obtain ⟨xs, e⟩ := sr.zat p q
  rw [hp] at e; cases e
theorem RV.newL {g : Gx} {r : List Addr} {H : Hp} {S : Sto} {p : Addr} {xs : List Val} {vs : List V} (sr : SR g r H S) (hp : H p = none) (hz : xs.length ≤ sizeLine) (rx : RVs g r H xs vs) : RV g r (upd H p (.lst vs)) (.lst xs) (.ref p) :=
  .lst upd_same (notin_own sr.own hp) (sr.notz hp) hz (rx.of_none sr.own hp)
theorem RV.newT {g : Gx} {r : List Addr} {H : Hp} {S : Sto} {p : Addr} {xs : List Val} {vs : List V} (sr : SR g r H S) (hp : H p = none) (hz : xs.length ≤ sizeLine) (rx : RVs g r H xs vs) : RV g r (upd H p (.tup vs)) (.tup xs) (.ref p) :=
  .tup (.inl (.inl upd_same)) hz (rx.of_none sr.own hp)
theorem d_lst {es : List Expr} {ms : MEs} {n : Nat} (h : PA X es (tDs g ms)) (hn : EsN ms n) (hl : n ≤ sizeLine := by decide) : PE X (.List es pos) (tD g (eLst ms)) := by
  refine PE.weak (pe_lst h) fun st H Q h => ?_
  obtain ⟨z, r, S, sl, v', S', R, e, q⟩ := h
  unfold eLst at e
  simp only [Option.bind_eq_some_iff] at e
  obtain ⟨⟨a, S1⟩, e1, e3⟩ := e
  cases e3
  have hz : a.length ≤ sizeLine := by rw [hn _ _ _ e1]; exact hl
  refine ⟨z, r, S, sl, a, S1, R, e1, fun r1 H1 x st1 sr1 rx => ⟨by rw [← rx.length]; exact hz, fun p hp => ?_⟩⟩
  exact q r1 _ (.ref p) (st1.trans (Step.new1 hp)) (sr1.beside hp) (RV.newL sr1 hp hz rx)
theorem d_lstM {es : List Expr} {ms : MEs} {n : Nat} (h : PA X es (tDs g ms)) (hn : EsN ms n) (hl : n ≤ sizeLine := by decide) : PE X (.List es pos) (tD g (eLstM ms)) := by
  refine PE.weak (pe_lst h) fun st H Q h => ?_
  obtain ⟨z, r, S, sl, v', S', R, e, q⟩ := h
  unfold eLstM at e
  simp only [Option.bind_eq_some_iff] at e
  obtain ⟨⟨a, S1⟩, e1, e3⟩ := e
  cases e3
  have hz : a.length ≤ sizeLine := by rw [hn _ _ _ e1]; exact hl
  refine ⟨z, r, S, sl, a, S1, R, e1, fun r1 H1 x st1 sr1 rx => ⟨by rw [← rx.length]; exact hz, fun p hp => ?_⟩⟩
  obtain ⟨sr2, st2⟩ := sr1.grow hp (RO.lst hz rx)
  refine q _ _ (.ref p) (st1.trans st2) sr2 (.ref ?_)
  rw [← sr1.len, List.getElem?_append_right (Nat.le_refl _)]
  simp
/-- an operation upon two values, as the heap has them -/
def rG2 (g : Gx) (f : Sto → Val → Val → Option Val) : R2 := fun x y H Q => ∃ z r S a b v, SR (g.at z) r H S ∧ RV (g.at z) r H a x ∧ RV (g.at z) r H b y ∧ f S a b = some v ∧
  ∀ r' H' hv, Step r H r' H' → SR (g.at z) r' H' S → RV (g.at z) r' H' v hv → Q hv H'
def rG1 (g : Gx) (f : Sto → Val → Option Val) : V → Hp → VK → Prop := fun x H Q => ∃ z r S a v, SR (g.at z) r H S ∧ RV (g.at z) r H a x ∧ f S a = some v ∧
  ∀ r' H' hv, Step r H r' H' → SR (g.at z) r' H' S → RV (g.at z) r' H' v hv → Q hv H'
theorem op2_read {f : Sto → Val → Val → Option Val} {a b : ME} {st : L2.St} {H : Hp} {Q : VK} (h : tD g (eOp2 f a b) st H Q) : tD g a st H fun x H1 => tD g b st H1 fun y H2 => rG2 g f x y H2 Q := by
  obtain ⟨z, r, S, sl, v', S', R, e, q⟩ := h
  unfold eOp2 at e
  simp only [Option.bind_eq_some_iff] at e
  obtain ⟨⟨a, S1⟩, e1, ⟨b, S2⟩, e2, w, e3, e4⟩ := e
  cases e4
  refine ⟨z, r, S, sl, a, S1, R, e1, fun r1 H1 x st1 sr1 rx => ⟨z, r1, S1, sl, b, S2, R.step st1 sr1, e2, fun r2 H2 y st2 sr2 ry => ?_⟩⟩
  exact ⟨z, r2, S2, a, b, _, sr2, rx.mono st2 sr1.own, ry, e3, fun r3 H3 hv st3 sr3 rv => q r3 H3 hv ((st1.trans st2).trans st3) sr3 rv⟩
theorem op1_read {f : Sto → Val → Option Val} {a : ME} {st : L2.St} {H : Hp} {Q : VK} (h : tD g (eOp1 f a) st H Q) : tD g a st H fun x H1 => rG1 g f x H1 Q := by
  obtain ⟨z, r, S, sl, v', S', R, e, q⟩ := h
  unfold eOp1 at e
  simp only [Option.bind_eq_some_iff] at e
  obtain ⟨⟨a, S1⟩, e1, w, e3, e4⟩ := e
  cases e4
  refine ⟨z, r, S, sl, a, S1, R, e1, fun r1 H1 x st1 sr1 rx => ⟨z, r1, S1, a, _, sr1, rx, e3, fun r3 H3 hv st3 sr3 rv => q r3 H3 hv (st1.trans st3) sr3 rv⟩⟩
theorem d_bin {op : Operator} {f : Sto → Val → Val → Option Val} {a b : Expr} {ma mb : ME} (ho : OpR X (binaryOp op) (rG2 g f)) (ha : PE X a (tD g ma)) (hb : PE X b (tD g mb)) : PE X (.BinOp a op b pos) (tD g (eOp2 f ma mb)) :=
  PE.weak (pe_op ho ha hb) fun _ _ _ h => op2_read h
theorem d_un {op : UnaryOp} {f : Sto → Val → Option Val} {a : Expr} {ma : ME} (ho : UnR X (unaryOp op) (rG1 g f)) (ha : PE X a (tD g ma)) : PE X (.UnaryOp op a pos) (tD g (eOp1 f ma)) :=
  PE.weak (pe_un ho ha) fun _ _ _ h => op1_read h
theorem d_cmp {op : CmpOp} {f : Sto → Val → Val → Option Val} {a b : Expr} {ma mb : ME} (ho : OpR X (compareOp op) (rG2 g f)) (ha : PE X a (tD g ma)) (hb : PE X b (tD g mb)) (hm : behindInMarks op b = false) : PE X (.Compare a [op] [b] pos) (tD g (eOp2 f ma mb)) :=
  PE.weak (pe_cmpR ho ha hb hm) fun _ _ _ h => op2_read h
end
end Mp
namespace Mp
open PySem PySem.Spec
      PyProof.Rows L2

/-! ### values as data -/
mutual
def toD : Val → Option PyData
  | .non => some .none
  | .bl b => some (.bool b)
  | .int i => some (.int i)
  | .str x => some (.str x)
  | .tup xs => (toDs xs).map .tuple
  | .ptp xs => (toDs xs).map .tuple
  | .lst xs => (toDs xs).map .list
  | _ => none
def toDs : List Val → Option (List PyData)
  | [] => some []
  | x :: xs => (toD x).bind fun d => (toDs xs).map fun ds => d :: ds
end
def toDS (S : Sto) : Val → Option PyData
  | .ref n => match S[n]? with
    | some (.lst xs) => (toDs xs).map .list
    | _ => none
  | v => toD v
mutual
theorem RV.dp {g : Gx} {r : List Addr} {H : Hp} : ∀ {x : Val} {v : V} {d : PyData}, RV g r H x v → toD x = some d → Dp g.K H v d
  | _, _, _, .non, e => by cases e; exact .non
  | _, _, _, .bl b, e => by cases e; exact .bl b
  | _, _, _, .int i, e => by cases e; exact .int i
  | _, _, _, .str i, e => by cases e; exact .str i
  | _, _, _, .ty i, e => by cases e
  | _, _, _, .fn h, e => by cases e
  | _, _, _, .ref h, e => by cases e
  | _, _, _, .scr h _ _ _, e => by cases e
  | _, _, _, .tup h _ hs, e => by
    simp only [toD, Option.map_eq_some_iff] at e
    obtain ⟨ds, e1, e2⟩ := e
    subst e2
    exact .tup h (RVs.dp hs e1)
  | _, _, _, .ptp h _ _ hs, e => by
    simp only [toD, Option.map_eq_some_iff] at e
    obtain ⟨ds, e1, e2⟩ := e
    subst e2
    exact .tup (.inl (.inr ⟨_, h⟩)) (RVs.dp hs e1)
  | _, _, _, .lst h _ _ _ hs, e => by
    simp only [toD, Option.map_eq_some_iff] at e
    obtain ⟨ds, e1, e2⟩ := e
    subst e2
    exact .lst (.inl (.inl h)) (RVs.dp hs e1)
theorem RVs.dp {g : Gx} {r : List Addr} {H : Hp} : ∀ {x : List Val} {v : List V} {d : List PyData}, RVs g r H x v → toDs x = some d → DpAll g.K H v d
  | _, _, _, .nil, e => by cases e; exact .nil
  | _, _, _, .cons h hs, e => by
    simp only [toDs, Option.bind_eq_some_iff, Option.map_eq_some_iff] at e
    obtain ⟨d, e1, ds, e2, e3⟩ := e
    subst e3
    exact .cons (RV.dp h e1) (RVs.dp hs e2)
end
theorem RV.dpS {g : Gx} {r : List Addr} {H : Hp} {S : Sto} {x : Val} {v : V} {d : PyData} (sr : SR g r H S) (h : RV g r H x v) (e : toDS S x = some d) : Dp g.K H v d := by
  cases h with
  | ref q =>
    simp only [toDS] at e
    split at e
    · rename_i xs hx
      simp only [Option.map_eq_some_iff] at e
      obtain ⟨ds, e1, e2⟩ := e
      subst e2
      obtain ⟨u, hu, ro⟩ := sr.at_ _ _ _ hx q
      cases ro with
      | lst hl hs => exact .lst (.inl (.inl hu)) (hs.dp e1)
    · cases e
  | non => exact RV.dp (RV.non (g := g) (r := r) (H := H)) e
  | bl b => exact RV.dp (RV.bl (g := g) (r := r) (H := H) b) e
  | int b => exact RV.dp (RV.int (g := g) (r := r) (H := H) b) e
  | str b => exact RV.dp (RV.str (g := g) (r := r) (H := H) b) e
  | ty b => exact RV.dp (RV.ty (g := g) (r := r) (H := H) b) e
  | fn q => exact RV.dp (RV.fn (g := g) (r := r) (H := H) q) e
  | tup h1 h2 h3 => exact RV.dp (RV.tup (g := g) (r := r) (H := H) h1 h2 h3) e
  | lst h1 h2 h5 h3 h4 => exact RV.dp (RV.lst (g := g) (r := r) (H := H) h1 h2 h5 h3 h4) e
  | scr h1 h2 h3 h4 => exact RV.dp (RV.scr (g := g) (r := r) (H := H) h1 h2 h3 h4) e
  | ptp h1 h2 h3 h4 => exact RV.dp (RV.ptp (g := g) (r := r) (H := H) h1 h2 h3 h4) e
/-- two data that may be compared with == -/
def eqOk (d e : PyData) : Bool := d.canLay0 && e.canLay0 && decide (min d.depth e.depth ≤ 64)
def fEq (neg : Bool) (S : Sto) (a b : Val) : Option Val := (toDS S a).bind fun d => (toDS S b).bind fun e => if eqOk d e then some (.bl (neg ^^ PyData.eqv d e)) else none
def ordOk (d e : PyData) : Bool := PySem.W.alike d e && (match d with | .none => false | _ => true) && decide (min d.depth e.depth ≤ 64)
def ordV : CmpOp → PyData → PyData → Option Bool
  | .Lt, d, e => some (PySem.W.dataLt d e)
  | .Gt, d, e => some (PySem.W.dataLt e d)
  | .LtE, d, e => some (!PySem.W.dataLt e d)
  | .GtE, d, e => some (!PySem.W.dataLt d e)
  | _, _, _ => none
def fOrd (op : CmpOp) (S : Sto) (a b : Val) : Option Val := (toDS S a).bind fun d => (toDS S b).bind fun e => if ordOk d e then (ordV op d e).map .bl else none

section
variable {X : Cx} {g : Gx} {pos : Pos}
theorem toDS_reads {pins : List (Addr × Obj)} {st : L2.St} {H : Hp} {s : Shared} {r : List Addr} {S : Sto} {a : Val} {x : V} {u : Value} {d : PyData} (hK : g.K = X.K) (I : Inv X pins st H s) (sr : SR g r H S) (ra : RV g r H a x) (e : toDS S a = some d) (rv : RelV x u) : ∃ as, Reads s.heap u d as := by
  have q := ra.dpS sr e
  rw [hK] at q
  exact Dp.reads I d x u q rv
theorem fin_blG {pins : List (Addr × Obj)} {st : L2.St} {H : Hp} {s : Shared} {r : List Addr} {S : Sto} {Q : VK} {k : Bool} (I : Inv X pins st H s) (sr : SR g r H S) (q : ∀ r' H' hv, Step r H r' H' → SR g r' H' S → RV g r' H' (.bl k) hv → Q hv H') : EP X pins st Q (.bool k) s :=
  ⟨.bl k, H, I, rfl, q r H _ (.refl r H) sr (.bl k)⟩
theorem o_eq (hK : g.K = X.K) (hu : X.A.units + 64 < cLine) : OpR X (compareOp .Eq) (rG2 g (fEq false)) := by
  intro pins s st H x y v u Q I rx ry h
  obtain ⟨z, r, S, a, b, w, sr, ra, rb, e, q⟩ := h
  simp only [fEq, Option.bind_eq_some_iff] at e
  obtain ⟨d, e1, d', e2, e3⟩ := e
  obtain ⟨as, r1⟩ := toDS_reads (g := g.at z) hK I sr ra e1 rx
  obtain ⟨bs, r2⟩ := toDS_reads (g := g.at z) hK I sr rb e2 ry
  split at e3
  · rename_i ok
    simp only [eqOk, Bool.and_eq_true, decide_eq_true_eq] at ok
    cases e3
    refine SeqAt.compareEq_reads r1 r2 ok.1.1 ok.1.2 (by omega) ?_
    have := fin_blG I sr q
    simpa using this
  · cases e3
theorem o_ne (hK : g.K = X.K) (hu : X.A.units + 64 < cLine) : OpR X (compareOp .NotEq) (rG2 g (fEq true)) := by
  intro pins s st H x y v u Q I rx ry h
  obtain ⟨z, r, S, a, b, w, sr, ra, rb, e, q⟩ := h
  simp only [fEq, Option.bind_eq_some_iff] at e
  obtain ⟨d, e1, d', e2, e3⟩ := e
  obtain ⟨as, r1⟩ := toDS_reads (g := g.at z) hK I sr ra e1 rx
  obtain ⟨bs, r2⟩ := toDS_reads (g := g.at z) hK I sr rb e2 ry
  split at e3
  · rename_i ok
    simp only [eqOk, Bool.and_eq_true, decide_eq_true_eq] at ok
    cases e3
    refine SeqAt.compareNe_reads r1 r2 ok.1.1 ok.1.2 (by omega) ?_
    have := fin_blG I sr q
    simpa using this
  · cases e3
theorem o_ord {op : CmpOp} (hK : g.K = X.K) (hu : X.A.units + 64 < cLine) : OpR X (compareOp op) (rG2 g (fOrd op)) := by
  intro pins s st H x y v u Q I rx ry h
  obtain ⟨z, r, S, a, b, w, sr, ra, rb, e, q⟩ := h
  simp only [fOrd, Option.bind_eq_some_iff] at e
  obtain ⟨d, e1, d', e2, e3⟩ := e
  obtain ⟨as, r1⟩ := toDS_reads (g := g.at z) hK I sr ra e1 rx
  obtain ⟨bs, r2⟩ := toDS_reads (g := g.at z) hK I sr rb e2 ry
  split at e3
  · rename_i ok
    simp only [ordOk, Bool.and_eq_true, decide_eq_true_eq] at ok
    obtain ⟨⟨ok1, ok2⟩, ok3⟩ := ok
    have hn : d ≠ .none := fun z => by rw [z] at ok2; exact absurd ok2 (by simp)
    have hu' : X.A.units + min d.depth d'.depth < cLine := by omega
    cases op <;> simp only [ordV, Option.map_some, Option.map_none, Option.some.injEq, reduceCtorEq] at e3 <;> subst e3
    · exact PySem.W.lt_data r1 r2 ok1 hn hu' (fin_blG I sr q)
    · exact PySem.W.le_data r1 r2 ok1 hn hu' (fin_blG I sr q)
    · exact PySem.W.gt_data r1 r2 ok1 hn hu' (fin_blG I sr q)
    · exact PySem.W.ge_data r1 r2 ok1 hn hu' (fin_blG I sr q)
  · cases e3
/-! in, not in -/
def itemsD : PyData → Option (List PyData)
  | .list ds => some ds
  | .tuple ds => some ds
  | _ => none
def fIn (neg : Bool) (S : Sto) (a b : Val) : Option Val := match a, b with
  | .str x, .str y => some (.bl (neg ^^ (!(Builtin.Str.occurrences y x 0 y.length 1).isEmpty)))
  | a, b => (toDS S a).bind fun d => (toDS S b).bind fun e => (itemsD e).bind fun ds => if d.canLay0 && PyData.canLayAll0 ds && decide (min (PyData.depthAll ds) d.depth ≤ 64) then some (.bl (neg ^^ (ds.any fun z => PyData.eqv z d))) else none
theorem o_in {neg : Bool} (hK : g.K = X.K) (hu : X.A.units + 66 < cLine) : OpR X (compareOp (if neg then .NotIn else .In)) (rG2 g (fIn neg)) := by
  intro pins s st H x y v u Q I rx ry h
  obtain ⟨z, r, S, a, b, w, sr, ra, rb, e, q⟩ := h
  unfold fIn at e
  split at e
  · rename_i x' y'
    cases e
    cases ra
    cases rb
    cases neg
    · refine op_in_str pins s st H _ _ v u Q I rx ry ⟨_, _, rfl, rfl, ?_⟩
      exact q r H _ (.refl r H) sr (by simpa using RV.bl _)
    · refine op_notin_str pins s st H _ _ v u Q I rx ry ⟨_, _, rfl, rfl, ?_⟩
      exact q r H _ (.refl r H) sr (by simpa using RV.bl _)
  · simp only [Option.bind_eq_some_iff] at e
    obtain ⟨d, e1, d', e2, ds, e3, e4⟩ := e
    obtain ⟨as, r1⟩ := toDS_reads (g := g.at z) hK I sr ra e1 rx
    obtain ⟨bs, r2⟩ := toDS_reads (g := g.at z) hK I sr rb e2 ry
    split at e4
    · rename_i ok
      simp only [Bool.and_eq_true,
            decide_eq_true_eq] at ok
      obtain ⟨⟨ok1, ok2⟩, ok3⟩ := ok
      cases e4
      have hq := fin_blG I sr q
      cases d' with
      | list zs =>
        cases e3
        cases neg
        · exact SeqAt.in_list_reads r2 r1 ok2 ok1 (by omega) (by simpa using hq)
        · exact SeqAt.notIn_list_reads r2 r1 ok2 ok1 (by omega) (by simpa using hq)
      | tuple zs =>
        cases e3
        cases neg
        · exact SeqAt.in_tuple_reads r2 r1 ok2 ok1 (by omega) (by simpa using hq)
        · exact SeqAt.notIn_tuple_reads r2 r1 ok2 ok1 (by omega) (by simpa using hq)
      | _ => cases e3
    · cases e4
end
end Mp
namespace Mp
open PySem PySem.Spec
      PyProof.Rows L2

/-- the items of a list that is read: one that nobody changes, or one of the store -/
def lstOf (S : Sto) : Val → Option (List Val)
  | .lst xs => some xs
  | .ref n => match S[n]? with
    | some (.lst xs) => some xs
    | _ => none
  | _ => none
def fAdd (S : Sto) : Val → Val → Option Val
  | .int i, .int j => some (.int (i + j))
  | .str x, .str y => if x.length + y.length ≤ sizeLine then some (.str (x ++ y)) else none
  | .tup xs, .tup ys => if xs.length + ys.length ≤ sizeLine then some (.tup (xs ++ ys)) else none
  | a, b => (lstOf S a).bind fun xs => (lstOf S b).bind fun ys => if xs.length + ys.length ≤ sizeLine then some (.lst (xs ++ ys)) else none
def fSub (_ : Sto) : Val → Val → Option Val
  | .int i, .int j => some (.int (i - j))
  | _, _ => none
def mulOk (i j : Int) : Bool := (decide (-(2 ^ 64) < i) && decide (i < 2 ^ 64)) || (decide (-(2 ^ 64) < j) && decide (j < 2 ^ 64))
def fMul (_ : Sto) : Val → Val → Option Val
  | .int i, .int j => if mulOk i j then some (.int (i * j)) else none
  | _, _ => none
def fMod (_ : Sto) : Val → Val → Option Val
  | .int i, .int j => if 0 < j then some (.int (i % j)) else none
  | _, _ => none
def fDiv (_ : Sto) : Val → Val → Option Val
  | .int i, .int j => if 0 < j ∧ j < 1073741824 then some (.int (i / j)) else none
  | _, _ => none
def fPow (_ : Sto) : Val → Val → Option Val
  | .int i, .int j => if 0 ≤ j ∧ j ≤ 1000 ∧ i.natAbs < 1000 then some (.int (i ^ j.toNat)) else none
  | _, _ => none
def fNeg (_ : Sto) : Val → Option Val
  | .int i => some (.int (-i))
  | _ => none
theorem lstOf_at {g : Gx} {r : List Addr} {H : Hp} {S : Sto} {a : Val} {x : V} {xs : List Val} (sr : SR g r H S) (h : RV g r H a x) (e : lstOf S a = some xs) : ∃ p vs, x = .ref p ∧ H p = some (.lst vs) ∧ xs.length ≤ sizeLine ∧ RVs g r H xs vs := by
  cases h with
  | lst h1 h2 _ h3 h4 => cases e; exact ⟨_, _, rfl, h1, h3, h4⟩
  | ref q =>
    simp only [lstOf] at e
    split at e
    · rename_i ys hy
      cases e
      obtain ⟨u, hu, ro⟩ := sr.at_ _ _ _ hy q
      cases ro with
      | lst hl hs => exact ⟨_, _, rfl, hu, hl, hs⟩
    · cases e
  | _ => cases e
section
variable {X : Cx} {g : Gx} {pos : Pos}
theorem int_int {f : Value → Value → Sem Value} {C : Int → Int → Prop} {h : Int → Int → Int} {F : Sto → Val → Val → Option Val} (ho : OpR X f (rI C fun i j => .int (h i j)))
    (hF : ∀ S a b v, F S a b = some v → ∃ i j, a = .int i ∧ b = .int j ∧ C i j ∧ v = .int (h i j)) : OpR X f (rG2 g F) := by
  intro pins s st H x y v u Q I rx ry hh
  obtain ⟨z, r, S, a, b, w, sr, ra, rb, e, q⟩ := hh
  obtain ⟨i, j, rfl, rfl, c, rfl⟩ := hF _ _ _ _ e
  cases ra
  cases rb
  exact ho pins s st H _ _ v u Q I rx ry ⟨i, j, rfl, rfl, c, q r H _ (.refl r H) sr (.int _)⟩
theorem o_sub : OpR X (binaryOp .Sub) (rG2 g fSub) := by
  intro pins s st H x y v u Q I rx ry hh
  obtain ⟨z, r, S, a, b, w, sr, ra, rb, e, q⟩ := hh
  unfold fSub at e
  split at e
  · cases e
    cases ra
    cases rb
    exact op_sub pins s st H _ _ v u Q I rx ry ⟨_, _, rfl, rfl, q r H _ (.refl r H) sr (.int _)⟩
  · cases e
theorem o_mul : OpR X (binaryOp .Mult) (rG2 g fMul) := int_int op_mul fun S a b v e => by
  unfold fMul at e
  split at e
  · rename_i i j
    split at e
    · rename_i c
      cases e
      refine ⟨i, j, rfl, rfl, ?_, rfl⟩
      simp only [mulOk, Bool.or_eq_true, Bool.and_eq_true, decide_eq_true_eq] at c
      exact c
    · cases e
  · cases e
theorem o_mod : OpR X (binaryOp .Mod) (rG2 g fMod) := int_int op_mod fun S a b v e => by
  unfold fMod at e
  split at e
  · rename_i i j
    split at e
    · rename_i c
      cases e
      exact ⟨i, j, rfl, rfl, c, rfl⟩
    · cases e
  · cases e
theorem o_div : OpR X (binaryOp .FloorDiv) (rG2 g fDiv) := int_int op_fdiv fun S a b v e => by
  unfold fDiv at e
  split at e
  · rename_i i j
    split at e
    · rename_i c
      cases e
      exact ⟨i, j, rfl, rfl, c, rfl⟩
    · cases e
  · cases e
theorem o_pow : OpR X (binaryOp .Pow) (rG2 g fPow) := int_int op_pow fun S a b v e => by
  unfold fPow at e
  split at e
  · rename_i i j
    split at e
    · rename_i c
      cases e
      exact ⟨i, j, rfl, rfl, ⟨c.1, by omega, by omega⟩, rfl⟩
    · cases e
  · cases e
theorem o_neg : UnR X (unaryOp .USub) (rG1 g fNeg) := by
  intro pins s st H x v Q I rx hh
  obtain ⟨z, r, S, a, w, sr, ra, e, q⟩ := hh
  unfold fNeg at e
  split at e
  · cases e
    cases ra
    exact un_neg pins s st H _ v Q I rx ⟨_, rfl, q r H _ (.refl r H) sr (.int _)⟩
  · cases e
theorem o_add (hK : g.K = X.K) : OpR X (binaryOp .Add) (rG2 g fAdd) := by
  intro pins s st H x y v u Q I rx ry hh
  obtain ⟨z, r, S, a, b, w, sr, ra, rb, e, q⟩ := hh
  unfold fAdd at e
  split at e
  · cases e
    cases ra
    cases rb
    exact op_add pins s st H _ _ v u Q I rx ry ⟨_, _, rfl, rfl, q r H _ (.refl r H) sr (.int _)⟩
  · split at e
    · rename_i c
      cases e
      cases ra
      cases rb
      exact op_add_str pins s st H _ _ v u Q I rx ry ⟨_, _, rfl, rfl, c, q r H _ (.refl r H) sr (.str _)⟩
    · cases e
  · split at e
    · rename_i xs ys c
      cases e
      cases ra with
      | @tup a1 _ vs1 h1 l1 s1 =>
        cases rb with
        | @tup a2 _ vs2 h2 l2 s2 =>
          have h1' := h1; have h2' := h2
          rw [hK] at h1 h2
          refine op_catA pins s st H _ _ v u Q I rx ry ⟨a1, a2, vs1, vs2, rfl, rfl, h1, h2, by rw [← s1.length, ← s2.length]; exact c, fun z => ?_, fun _ z => ?_, fun _ _ p hp => ?_⟩
          · subst z
            cases s1
            exact q r H _ (.refl r H) sr (.tup h2' l2 s2)
          · subst z
            cases s2
            rw [List.append_nil] at q
            exact q r H _ (.refl r H) sr (.tup h1' l1 s1)
          · exact q r _ (.ref p) (Step.new1 hp) (sr.beside hp) (RV.newT sr hp (by simpa using c) (s1.append s2))
    · cases e
  · simp only [Option.bind_eq_some_iff] at e
    obtain ⟨xs, e1, ys, e2, e3⟩ := e
    split at e3
    · rename_i c
      cases e3
      obtain ⟨p, vs, rfl, hp, _, hs⟩ := lstOf_at sr ra e1
      obtain ⟨p', vs', rfl, hp', _, hs'⟩ := lstOf_at sr rb e2
      refine op_cat pins s st H _ _ v u Q I rx ry ⟨p, p', vs, vs', rfl, rfl, hp, hp', by rw [← hs.length, ← hs'.length]; exact c, fun l hl => ?_⟩
      exact q r _ (.ref l) (Step.new1 hl) (sr.beside hl) (RV.newL sr hl (by simpa using c) (hs.append hs'))
    · cases e3
end
end Mp
namespace Mp
open PySem PySem.Spec
      PyProof.Rows L2

/-! ### truth, tests -/
theorem truth_at {X : Cx} {g : Gx} {r : List Addr} {H : Hp} {S : Sto} {a : Val} {x : V} {k : Bool} (hK : g.K = X.K) (sr : SR g r H S) (h : RV g r H a x) (e : truth S a = some k) : TruV X.K x H k := by
  cases h with
  | non => cases e; exact rfl
  | bl b => cases e; exact rfl
  | int i => cases e; exact rfl
  | str y =>
    simp only [truth] at e
    split at e
    · rename_i c
      cases e
      refine ⟨c, ?_⟩
      rw [Bool.eq_iff_iff]
      simp
    · cases e
  | ty n => cases e
  | fn h => cases e
  | scr => cases e
  | ptp h1 h2 h3 h4 =>
    cases e
    refine .inr (.inl ⟨_, .inl (.inr ⟨_, h1⟩), ?_⟩)
    cases h4 <;> rfl
  | tup h1 h2 h3 =>
    cases e
    rw [hK] at h1
    refine .inr (.inl ⟨_, h1, ?_⟩)
    cases h3 <;> rfl
  | lst h1 h2 _ h3 h4 =>
    cases e
    refine .inl ⟨_, .inl (.inl h1), ?_⟩
    cases h4 <;> rfl
  | ref q =>
    simp only [truth] at e
    split at e
    · rename_i xs hx
      cases e
      obtain ⟨u, hu, ro⟩ := sr.at_ _ _ _ hx q
      cases ro with
      | lst hl hs =>
        refine .inl ⟨_, .inl (.inl hu), ?_⟩
        cases hs <;> rfl
    · rename_i kvs hx
      cases e
      obtain ⟨u, hu, ro⟩ := sr.at_ _ _ _ hx q
      cases ro with
      | @dK _ kws h1 hl hs =>
        refine .inr (.inr ⟨_, hu, ?_⟩)
        cases kvs with
        | nil =>
          cases kws with
          | nil => rfl
          | cons => cases h1
        | cons =>
          cases kws with
          | nil => cases h1
          | cons => rfl
    · cases e
section
variable {X : Cx} {g : Gx} {pos : Pos}
theorem d_tru {a : Expr} {m : ME} (hK : g.K = X.K) (ha : PE X a (tD g m)) (he : ∀ whole, isTrue a X.env whole = (do let v ← whole; standAt a.pos; holding [v] (truthy v)) := by intro _; rfl) : PT X a (tDt g (tTru m)) := by
  refine PT.weak (pt_truth ha he) fun st H Q h => ?_
  obtain ⟨z, r, S, sl, b, S', R, e, q⟩ := h
  simp only [tTru, Option.bind_eq_some_iff] at e
  obtain ⟨⟨a, S1⟩, e1, k, e2, e3⟩ := e
  cases e3
  exact ⟨z, r, S, sl, a, S1, R, e1, fun r1 H1 x st1 sr1 rx => ⟨_, truth_at (g := g.at z) hK sr1 rx e2, q r1 H1 st1 sr1⟩⟩
theorem d_and {a b : Expr} {rest : List Expr} {ta tb : MT} (ha : PT X a (tDt g ta)) (hb : PW X (.BoolOp .And (b :: rest) pos) (tDt g tb)) : PW X (.BoolOp .And (a :: b :: rest) pos) (tDt g (tAndD ta tb)) := by
  refine PW.weak (pw_and ha hb) fun st H Q h => ?_
  obtain ⟨z, r, S, sl, v, S', R, e, q⟩ := h
  simp only [tAndD, Option.bind_eq_some_iff] at e
  obtain ⟨⟨k, S1⟩, e1, e3⟩ := e
  refine ⟨z, r, S, sl, k, S1, R, e1, fun r1 H1 st1 sr1 => ?_⟩
  cases k with
  | true =>
    rw [if_pos rfl] at e3 ⊢
    exact ⟨z, r1, S1, sl, v, S', R.step st1 sr1, e3, fun r2 H2 st2 sr2 => q r2 H2 (st1.trans st2) sr2⟩
  | false =>
    rw [if_neg Bool.false_ne_true] at e3 ⊢
    cases e3
    exact q r1 H1 st1 sr1
theorem d_and1 {a : Expr} {ta : MT} (ha : PT X a (tDt g ta)) : PW X (.BoolOp .And [a] pos) (tDt g ta) := pw_and1 ha
theorem d_or {a b : Expr} {rest : List Expr} {ta tb : MT} (ha : PT X a (tDt g ta)) (hb : PW X (.BoolOp .Or (b :: rest) pos) (tDt g tb)) : PW X (.BoolOp .Or (a :: b :: rest) pos) (tDt g (tOrD ta tb)) := by
  refine PW.weak (pw_or ha hb) fun st H Q h => ?_
  obtain ⟨z, r, S, sl, v, S', R, e, q⟩ := h
  simp only [tOrD, Option.bind_eq_some_iff] at e
  obtain ⟨⟨k, S1⟩, e1, e3⟩ := e
  refine ⟨z, r, S, sl, k, S1, R, e1, fun r1 H1 st1 sr1 => ?_⟩
  cases k with
  | false =>
    rw [if_neg Bool.false_ne_true] at e3 ⊢
    exact ⟨z, r1, S1, sl, v, S', R.step st1 sr1, e3, fun r2 H2 st2 sr2 => q r2 H2 (st1.trans st2) sr2⟩
  | true =>
    rw [if_pos rfl] at e3 ⊢
    cases e3
    exact q r1 H1 st1 sr1
theorem d_or1 {a : Expr} {ta : MT} (ha : PT X a (tDt g ta)) : PW X (.BoolOp .Or [a] pos) (tDt g ta) := pw_or1 ha
theorem d_not {a : Expr} {ta : MT} (ha : PT X a (tDt g ta)) : PT X (.UnaryOp .Not a pos) (tDt g (tNotD ta)) := by
  refine PT.weak (pt_not ha) fun st H Q h => ?_
  obtain ⟨z, r, S, sl, v, S', R, e, q⟩ := h
  simp only [tNotD, Option.bind_eq_some_iff] at e
  obtain ⟨⟨k, S1⟩, e1, e3⟩ := e
  cases e3
  exact ⟨z, r, S, sl, k, S1, R, e1, fun r1 H1 st1 sr1 => q r1 H1 st1 sr1⟩
/-- a comparison's test -/
theorem d_tcmp {op : CmpOp} {f : Sto → Val → Val → Option Val} {a b : Expr} {ma mb : ME} (hK : g.K = X.K) (ho : OpR X (compareOp op) (rG2 g f)) (ha : PE X a (tD g ma)) (hb : PE X b (tD g mb)) (hm : behindInMarks op b = false)
    (hf : ∀ S x y v, f S x y = some v → ∃ k, v = .bl k) : PT X (.Compare a [op] [b] pos) (tDt g (tTru (eOp2 f ma mb))) := by
  refine PT.weak (pt_cmpR ho ha hb hm) fun st H Q h => ?_
  obtain ⟨z, r, S, sl, b, S', R, e, q⟩ := h
  simp only [tTru, eOp2, Option.bind_eq_some_iff] at e
  obtain ⟨⟨a, S1⟩, ⟨⟨x1, T1⟩, e1, ⟨x2, T2⟩, e2, w, e3, e4⟩, k, e5, e6⟩ := e
  cases e4
  cases e6
  obtain ⟨k', rfl⟩ := hf _ _ _ _ e3
  cases e5
  refine ⟨z, r, S, sl, x1, T1, R, e1, fun r1 H1 x st1 sr1 rx => ⟨z, r1, T1, sl, x2, _, R.step st1 sr1, e2, fun r2 H2 y st2 sr2 ry => ?_⟩⟩
  refine ⟨z, r2, _, x1, x2, _, sr2, rx.mono st2 sr1.own, ry, e3, fun r3 H3 hv st3 sr3 rv => ?_⟩
  cases rv
  exact ⟨_, rfl, q r3 H3 ((st1.trans st2).trans st3) sr3⟩
theorem fEq_bl {neg : Bool} : ∀ S x y v, fEq neg S x y = some v → ∃ k, v = .bl k := fun S x y v e => by
  simp only [fEq, Option.bind_eq_some_iff] at e
  obtain ⟨d, e1, d', e2, e3⟩ := e
  split at e3
  · cases e3; exact ⟨_, rfl⟩
  · cases e3
theorem fOrd_bl {op : CmpOp} : ∀ S x y v, fOrd op S x y = some v → ∃ k, v = .bl k := fun S x y v e => by
  simp only [fOrd, Option.bind_eq_some_iff] at e
  obtain ⟨d, e1, d', e2, e3⟩ := e
  split at e3
  · simp only [Option.map_eq_some_iff] at e3
    obtain ⟨k, _, rfl⟩ := e3
    exact ⟨k, rfl⟩
  · cases e3
theorem fIn_bl {neg : Bool} : ∀ S x y v, fIn neg S x y = some v → ∃ k, v = .bl k := fun S x y v e => by
  unfold fIn at e
  split at e
  · cases e; exact ⟨_, rfl⟩
  · simp only [Option.bind_eq_some_iff] at e
    obtain ⟨d, e1, d', e2, ds, e3, e4⟩ := e
    split at e4
    · cases e4; exact ⟨_, rfl⟩
    · cases e4
/-- and, or, not as values -/
theorem d_one {op : BoolOp} {a : Expr} {m : ME} (h : PE X a (tD g m)) : PE X (.BoolOp op [a] pos) (tD g m) := pe_one h
end
end Mp
namespace Mp
open PySem PySem.Spec
      PyProof.Rows L2

inductive Fl where
  | nxt | ret (v : Val) | brk | cnt
abbrev MS := Sl → Sto → Option (Fl × Sl × Sto)
/-- how a statement's end is read -/
def FlD (g : Gx) (D : Ends) (r : List Addr) (H : Hp) (f : Fl) (sl : Sl) (S : Sto) : Prop := ∀ r' H' st', Step r H r' H' → Rep g r' H' S sl st' → match f with
  | .nxt => D.nx st' H'
  | .brk => D.bk st' H'
  | .cnt => D.ct st' H'
  | .ret v => ∀ hv, RV g r' H' v hv → D.rt hv H'
def tDS (g : Gx) (m : MS) : TS := fun D st H => ∃ z r S sl f sl' S', Rep (g.at z) r H S sl st ∧ m sl S = some (f, sl', S') ∧ FlD (g.at z) D r H f sl' S'

def sSkip : MS := fun sl S => some (.nxt, sl, S)
def sSeq (a b : MS) : MS := fun sl S => (a sl S).bind fun p => match p.1 with
  | .nxt => b p.2.1 p.2.2
  | _ => some p
def sSet (i : Nat) (m : ME) : MS := fun sl S => (m sl S).bind fun p => some (.nxt, sl.set i (some p.1), p.2)
def sExp (m : ME) : MS := fun sl S => (m sl S).bind fun p => some (.nxt, sl, p.2)
def sRet (m : ME) : MS := fun sl S => (m sl S).bind fun p => some (.ret p.1, sl, p.2)
def sRetN : MS := fun sl S => some (.ret .non, sl, S)
def sIf (c : MT) (a b : MS) : MS := fun sl S => (c sl S).bind fun p => if p.1 then a sl p.2 else b sl p.2
def sBrk : MS := fun sl S => some (.brk, sl, S)
def sCnt : MS := fun sl S => some (.cnt, sl, S)
def sStuck : MS := fun _ _ => none
/-- a target: a name, or names for a tuple's items -/
abbrev MG := Sl → Sto → Val → Option Sl
def gNm (i : Nat) : MG := fun sl _ v => some (sl.set i (some v))
def setAll : List Nat → List Val → Sl → Sl
  | i :: is, v :: vs, sl => setAll is vs (sl.set i (some v))
  | _, _, sl => sl
def gTp (is : List Nat) : MG := fun sl _ v => match v with
  | .tup xs => if xs.length = is.length then some (setAll is xs sl) else none
  | _ => none
def tDG (g : Gx) (m : MG) : TG := fun v st H Q => ∃ z r S sl x sl', Rep (g.at z) r H S sl st ∧ RV (g.at z) r H x v ∧ m sl S x = some sl' ∧ ∀ st', Rep (g.at z) r H S sl' st' → Q st' H
def sAsg (tg : MG) (m : ME) : MS := fun sl S => (m sl S).bind fun p => (tg sl p.2 p.1).bind fun sl' => some (.nxt, sl', p.2)
/-- a, b = x, y -/
def sPar (i j : Nat) (a b : ME) : MS := fun sl S => (a sl S).bind fun p => (b sl p.2).bind fun q => some (.nxt, (sl.set i (some p.1)).set j (some q.1), q.2)

section
variable {X : Cx} {g : Gx} {pos : Pos}
theorem FlD.weak {D : Ends} {r r1 : List Addr} {H H1 : Hp} {f : Fl} {sl : Sl} {S : Sto} (st : Step r H r1 H1) (q : FlD g D r H f sl S) : FlD g D r1 H1 f sl S := fun r' H' st' s R => q r' H' st' (st.trans s) R
theorem ds_nil : PSs X [] (tDS g sSkip) := by
  refine PSs.weak pss_nil fun D st H h => ?_
  obtain ⟨z, r, S, sl, f, sl', S', R, e, q⟩ := h
  cases e
  exact q r H st (.refl r H) R
theorem ds_cons {s : Stmt} {ss : List Stmt} {a b : MS} (h1 : PS X s (tDS g a)) (h2 : PSs X ss (tDS g b)) : PSs X (s :: ss) (tDS g (sSeq a b)) := by
  refine PSs.weak (pss_cons h1 h2) fun D st H h => ?_
  obtain ⟨z, r, S, sl, f, sl', S', R, e, q⟩ := h
  simp only [sSeq, Option.bind_eq_some_iff] at e
  obtain ⟨⟨f1, sl1, S1⟩, e1, e2⟩ := e
  refine ⟨z, r, S, sl, f1, sl1, S1, R, e1, fun r1 H1 st1 s1 R1 => ?_⟩
  cases f1 with
  | nxt => exact ⟨z, r1, S1, sl1, f, sl', S', R1, e2, q.weak s1⟩
  | ret v => cases e2; exact q r1 H1 st1 s1 R1
  | brk => cases e2; exact q r1 H1 st1 s1 R1
  | cnt => cases e2; exact q r1 H1 st1 s1 R1
theorem ds_one {s : Stmt} {a : MS} (h1 : PS X s (tDS g a)) : PSs X [s] (tDS g a) := pss_one h1
theorem ds_pass : PS X (.Pass pos) (tDS g sSkip) := by
  refine PS.weak ps_pass fun D st H h => ?_
  obtain ⟨z, r, S, sl, f, sl', S', R, e, q⟩ := h
  cases e
  exact q r H st (.refl r H) R
theorem ds_brk : PS X (.Break pos) (tDS g sBrk) := by
  refine PS.weak ps_break fun D st H h => ?_
  obtain ⟨z, r, S, sl, f, sl', S', R, e, q⟩ := h
  cases e
  exact q r H st (.refl r H) R
theorem ds_cnt : PS X (.Continue pos) (tDS g sCnt) := by
  refine PS.weak ps_continue fun D st H h => ?_
  obtain ⟨z, r, S, sl, f, sl', S', R, e, q⟩ := h
  cases e
  exact q r H st (.refl r H) R
theorem ds_stuck {s : Stmt} : PS X s (tDS g sStuck) := by
  refine PS.weak ps_never fun D st H h => ?_
  obtain ⟨z, r, S, sl, f, sl', S', R, e, q⟩ := h
  cases e
theorem ds_exp {e : Expr} {m : ME} (he : PE X e (tD g m)) (hs : swapsWith e none pos.line X.env = pure false := by rfl) : PS X (.Expr e pos) (tDS g (sExp m)) := by
  refine PS.weak (ps_expr he hs) fun D st H h => ?_
  obtain ⟨z, r, S, sl, f, sl', S', R, e, q⟩ := h
  simp only [sExp, Option.bind_eq_some_iff] at e
  obtain ⟨⟨a, S1⟩, e1, e2⟩ := e
  cases e2
  exact ⟨z, r, S, sl, a, S1, R, e1, fun r1 H1 x st1 sr1 rx => q r1 H1 st st1 (R.step st1 sr1)⟩
theorem ds_ret {e : Expr} {m : ME} (he : PE X e (tD g m)) : PS X (.Return (some e) pos) (tDS g (sRet m)) := by
  refine PS.weak (ps_ret he) fun D st H h => ?_
  obtain ⟨z, r, S, sl, f, sl', S', R, e, q⟩ := h
  simp only [sRet, Option.bind_eq_some_iff] at e
  obtain ⟨⟨a, S1⟩, e1, e2⟩ := e
  cases e2
  exact ⟨z, r, S, sl, a, S1, R, e1, fun r1 H1 x st1 sr1 rx => q r1 H1 st st1 (R.step st1 sr1) x rx⟩
theorem ds_retN : PS X (.Return none pos) (tDS g sRetN) := by
  refine PS.weak ps_retN fun D st H h => ?_
  obtain ⟨z, r, S, sl, f, sl', S', R, e, q⟩ := h
  cases e
  exact q r H st (.refl r H) R _ .non
theorem ds_if {c : Expr} {a b : List Stmt} {t : MT} {ma mb : MS} (hc : PT X c (tDt g t)) (ha : PSs X a (tDS g ma)) (hb : PSs X b (tDS g mb)) : PS X (.If c a b pos) (tDS g (sIf t ma mb)) := by
  refine PS.weak (ps_if hc ha hb) fun D st H h => ?_
  obtain ⟨z, r, S, sl, f, sl', S', R, e, q⟩ := h
  simp only [sIf, Option.bind_eq_some_iff] at e
  obtain ⟨⟨k, S1⟩, e1, e2⟩ := e
  refine ⟨z, r, S, sl, k, S1, R, e1, fun r1 H1 st1 sr1 => ?_⟩
  cases k with
  | true =>
    rw [if_pos rfl] at e2 ⊢
    exact ⟨z, r1, S1, sl, f, sl', S', R.step st1 sr1, e2, q.weak st1⟩
  | false =>
    rw [if_neg Bool.false_ne_true] at e2 ⊢
    exact ⟨z, r1, S1, sl, f, sl', S', R.step st1 sr1, e2, q.weak st1⟩
theorem d_ifE {c a b : Expr} {t : MT} {ma mb : ME} (hc : PT X c (tDt g t)) (ha : PE X a (tD g ma)) (hb : PE X b (tD g mb)) : PE X (.IfExp c a b pos) (tD g (eIfE t ma mb)) := by
  refine PE.weak (pe_ifExp hc ha hb) fun st H Q h => ?_
  obtain ⟨z, r, S, sl, v, S', R, e, q⟩ := h
  simp only [eIfE, Option.bind_eq_some_iff] at e
  obtain ⟨⟨k, S1⟩, e1, e2⟩ := e
  refine ⟨z, r, S, sl, k, S1, R, e1, fun r1 H1 st1 sr1 => ?_⟩
  cases k with
  | true =>
    rw [if_pos rfl] at e2 ⊢
    exact ⟨z, r1, S1, sl, v, S', R.step st1 sr1, e2, fun r2 H2 hv st2 sr2 => q r2 H2 hv (st1.trans st2) sr2⟩
  | false =>
    rw [if_neg Bool.false_ne_true] at e2 ⊢
    exact ⟨z, r1, S1, sl, v, S', R.step st1 sr1, e2, fun r2 H2 hv st2 sr2 => q r2 H2 hv (st1.trans st2) sr2⟩
/-! ### targets -/
theorem dg_nm {i : Nat} {x : Str} (hN : X.N.Nodup) (hi : X.N[i]? = some x) (hx : Loc X.env.scope x) (hf : X.fn x = true ∨ X.env.scope.names.lookup x = some .local := by first | exact .inl rfl | exact .inr rfl | assumption) : PG X (.Name x pos) (tDG g (gNm i)) := by
  refine ⟨fun pins s st H v u Q I rv h => ?_⟩
  obtain ⟨z, r, S, sl, x', sl', R, rx, e, q⟩ := h
  cases e
  exact (pg_name hN hi hx hf).run pins s st H v u Q I rv (q _ ⟨R.sr, R.sl.set rx i⟩)
/-- the names of a tuple target -/
def gsNames : List Nat → TGs
  | [] => gNil
  | i :: is => gCons (gName i) (gsNames is)
theorem dgs_nil : PGs X [] (gsNames []) := pgs_nil
theorem dgs_cons {i : Nat} {is : List Nat} {x : Str} {p : Pos} {es : List Expr} (hN : X.N.Nodup) (hi : X.N[i]? = some x) (hx : Loc X.env.scope x) (h : PGs X es (gsNames is)) (hf : X.fn x = true ∨ X.env.scope.names.lookup x = some .local := by first | exact .inl rfl | exact .inr rfl | assumption)
    (hs : (assignEach (.Name x p :: es) X.env).map (·.2) = assign (.Name x p) X.env :: (assignEach es X.env).map (·.2) := by rfl) : PGs X (.Name x p :: es) (gsNames (i :: is)) := pgs_cons (pg_name hN hi hx hf) h hs
theorem gsNames_read {r : List Addr} {H : Hp} {S : Sto} {Q : L2.St → Hp → Prop} : ∀ (is : List Nat) (xs : List Val) (vs : List V) (sl : Sl) (st : L2.St), xs.length = is.length → RVs g r H xs vs → Rep g r H S sl st → (∀ st', Rep g r H S (setAll is xs sl) st' → Q st' H) → gsNames is vs st H Q
  | [], [], _, sl, st, _, .nil, R, q => ⟨rfl, q st R⟩
  | i :: is, x :: xs, _, sl, st, hl, .cons h hs, R, q => ⟨_, _, rfl, gsNames_read is xs _ (sl.set i (some x)) _ (by simpa using hl) hs ⟨R.sr, R.sl.set h i⟩ q⟩
theorem dg_tp {es : List Expr} {is : List Nat} {k : Nat} (hK : g.K = X.K) (hc : X.calm = true) (h : PGs X es (gsNames is)) (hn : (assignEach es X.env).length = is.length := by rfl) (hst : (assignEach es X.env).findIdx? (·.1) = none := by rfl) : PG X (.Tuple es k pos) (tDG g (gTp is)) := by
  refine ⟨fun pins s st H v u Q I rv hh => ?_⟩
  obtain ⟨z, r, S, sl, x', sl', R, rx, e, q⟩ := hh
  refine (pg_tup hc h hn hst).run pins s st H v u Q I rv ?_
  unfold gTp at e
  split at e
  · rename_i xs
    split at e
    · rename_i hl
      cases e
      cases rx with
      | tup h1 h2 h3 =>
        rw [hK] at h1
        exact ⟨_, _, rfl, h1, by rw [← h3.length]; exact hl, gsNames_read is xs _ sl st hl h3 R q⟩
    · cases e
  · cases e
theorem ds_asg {t e : Expr} {m : ME} {tg : MG} (he : PE X e (tD g m)) (hg : PG X t (tDG g tg)) (hs : swapsWithSole [t] e pos.line X.env = pure false := by rfl) (hw : swappedStores [t] e X.env = pure none := by rfl)
    (h1 : (assignEach [t] X.env).map (·.2) = [assign t X.env] := by rfl) : PS X (.Assign [t] e pos) (tDS g (sAsg tg m)) := by
  refine PS.weak (ps_asg he hg hs hw h1) fun D st H h => ?_
  obtain ⟨z, r, S, sl, f, sl', S', R, e, q⟩ := h
  simp only [sAsg, Option.bind_eq_some_iff] at e
  obtain ⟨⟨a, S1⟩, e1, sl1, e2, e3⟩ := e
  cases e3
  exact ⟨z, r, S, sl, a, S1, R, e1, fun r1 H1 x st1 sr1 rx => ⟨z, r1, _, sl, a, _, R.step st1 sr1, rx, e2, fun st' R' => q r1 H1 st' st1 R'⟩⟩
theorem ds_set {i : Nat} {x : Str} {e : Expr} {m : ME} {pos' : Pos} (hN : X.N.Nodup) (hi : X.N[i]? = some x) (hx : Loc X.env.scope x) (he : PE X e (tD g m)) (hs : swapsWith e (some (.Name x pos')) pos.line X.env = pure false := by rfl) (hf : X.fn x = true ∨ X.env.scope.names.lookup x = some .local := by first | exact .inl rfl | exact .inr rfl | assumption) :
    PS X (.Assign [.Name x pos'] e pos) (tDS g (sSet i m)) := by
  refine PS.weak (ps_set hN hi hx he hs hf) fun D st H h => ?_
  obtain ⟨z, r, S, sl, f, sl', S', R, e, q⟩ := h
  simp only [sSet, Option.bind_eq_some_iff] at e
  obtain ⟨⟨a, S1⟩, e1, e3⟩ := e
  cases e3
  exact ⟨z, r, S, sl, a, S1, R, e1, fun r1 H1 x st1 sr1 rx => q r1 H1 _ st1 ⟨sr1, (R.sl.mono st1 R.sr.own).set rx i⟩⟩
theorem ds_par {i j : Nat} {x y : Str} {a b : Expr} {ma mb : ME} {px py pt : Pos} {kt k2 : Nat} {pt2 : Pos} (hc : X.calm = true) (hN : X.N.Nodup) (hi : X.N[i]? = some x) (hj : X.N[j]? = some y) (hij : i ≠ j)
    (hx : X.env.scope.names.lookup x = some .local) (hy : X.env.scope.names.lookup y = some .local) (ha : PE X a (tD g ma)) (hb : PE X b (tD g mb))
    (hw : swappedStores [.Tuple [.Name x px, .Name y py] kt pt]
          (.Tuple [a, b] k2 pt2) X.env = pure (some [x, y]))
    (hs : swapsWithSole [.Tuple [.Name x px, .Name y py] kt pt] (.Tuple [a, b] k2 pt2) pos.line X.env = pure false := by rfl) (hst : starEach [a, b] X.env = (false, eval a X.env) :: starEach [b] X.env := by rfl) (hst2 : starEach [b] X.env = (false, eval b X.env) :: starEach [] X.env := by rfl) :
    PS X (.Assign [.Tuple [.Name x px, .Name y py] kt pt] (.Tuple [a, b] k2 pt2) pos) (tDS g (sPar i j ma mb)) := by
  refine PS.weak (ps_par (i := i) (j := j) hc hN hi hj hij hx hy (pa_cons ha (pa_cons hb pa_nil hst2) hst) hw hs) fun D st H h => ?_
  obtain ⟨z, r, S, sl, f, sl', S', R, e, q⟩ := h
  simp only [sPar, Option.bind_eq_some_iff] at e
  obtain ⟨⟨a, S1⟩, e1, ⟨b, S2⟩, e2, e3⟩ := e
  cases e3
  refine ⟨z, r, S, sl, a, S1, R, e1, fun r1 H1 x st1 sr1 rx => ⟨z, r1, S1, sl, b, S2, R.step st1 sr1, e2, fun r2 H2 y st2 sr2 ry => ?_⟩⟩
  exact ⟨x, y, rfl, q r2 H2 _ (st1.trans st2) ⟨sr2, (((R.sl.mono st1 R.sr.own).mono st2 sr1.own).set (rx.mono st2 sr1.own) i).set ry j⟩⟩
end
end Mp
namespace Mp
open PySem PySem.Spec
      PyProof.Rows L2

mutual
def Val.same : Val → Val → Bool
  | .non, .non => true
  | .bl a, .bl b => a == b
  | .int a, .int b => a == b
  | .str a, .str b => decide (a = b)
  | .ty a, .ty b => a == b
  | .fn a, .fn b => decide (a = b)
  | .tup a, .tup b => Val.sames a b
  | .ptp a, .ptp b => Val.sames a b
  | .lst a, .lst b => Val.sames a b
  | .scr a, .scr b => Val.sames a b
  | .ref a, .ref b => a == b
  | _, _ => false
def Val.sames : List Val → List Val → Bool
  | [], [] => true
  | a :: as, b :: bs => Val.same a b && Val.sames as bs
  | _, _ => false
end
mutual
theorem Val.same_eq : ∀ (a b : Val), Val.same a b = true → a = b
  | .non, b, h => by cases b <;> simp_all [Val.same]
  | .bl a, b, h => by cases b <;> simp_all [Val.same]
  | .int a, b, h => by cases b <;> simp_all [Val.same]
  | .str a, b, h => by cases b <;> simp_all [Val.same]
  | .ty a, b, h => by cases b <;> simp_all [Val.same]
  | .fn a, b, h => by cases b <;> simp_all [Val.same]
  | .ref a, b, h => by cases b <;> simp_all [Val.same]
  | .tup a, b, h => by
    cases b with
    | tup b => rw [Val.sames_eq a b (by simpa [Val.same] using h)]
    | _ => simp [Val.same] at h
  | .ptp a, b, h => by
    cases b with
    | ptp b => rw [Val.sames_eq a b (by simpa [Val.same] using h)]
    | _ => simp [Val.same] at h
  | .lst a, b, h => by
    cases b with
    | lst b => rw [Val.sames_eq a b (by simpa [Val.same] using h)]
    | _ => simp [Val.same] at h
  | .scr a, b, h => by
    cases b with
    | scr b => rw [Val.sames_eq a b (by simpa [Val.same] using h)]
    | _ => simp [Val.same] at h
theorem Val.sames_eq : ∀ (a b : List Val), Val.sames a b = true → a = b
  | [], b, h => by cases b <;> simp_all [Val.sames]
  | a :: as, [], h => by simp [Val.sames] at h
  | a :: as, b :: bs, h => by
    simp only [Val.sames, Bool.and_eq_true] at h
    rw [Val.same_eq a b h.1, Val.sames_eq as bs h.2]
end
mutual
theorem Val.same_self : ∀ (a : Val), Val.same a a = true
  | .non => by simp [Val.same]
  | .bl a => by simp [Val.same]
  | .int a => by simp [Val.same]
  | .str a => by simp [Val.same]
  | .ty a => by simp [Val.same]
  | .fn a => by simp [Val.same]
  | .ref a => by simp [Val.same]
  | .tup a => by rw [Val.same]; exact Val.sames_self a
  | .ptp a => by rw [Val.same]; exact Val.sames_self a
  | .lst a => by rw [Val.same]; exact Val.sames_self a
  | .scr a => by rw [Val.same]; exact Val.sames_self a
theorem Val.sames_self : ∀ (a : List Val), Val.sames a a = true
  | [] => by simp [Val.sames]
  | a :: as => by rw [Val.sames, Val.same_self a, Val.sames_self as]; rfl
end

/-! ### what is walked -/
/-- the items; the place in the store of a list that is walked as it stands there -/
structure Src where
  l : List Val
  n : Option Nat := none
def Src.ok (s : Src) (S : Sto) : Bool := match s.n with
  | none => true
  | some n => match S[n]? with
    | some (.lst xs) => Val.sames xs s.l
    | _ => false
abbrev MI := Sl → Sto → Option (Src × Sto)
/-- the heap has grown by what nobody had -/
def More (H H' : Hp) : Prop := ∀ b o, H b = some o → H' b = some o
theorem More.step {r : List Addr} {H H' : Hp} (m : More H H') : Step r H r H' := ⟨fun b o h _ => m b o h, ⟨[], by simp⟩, fun _ h => .inl h, fun b o u h => m b _ h⟩
theorem SR.more {g : Gx} {r : List Addr} {H H' : Hp} {S : Sto} (sr : SR g r H S) (m : More H H') : SR g r H' S := by
  refine ⟨sr.len, sr.nd, fun p hp => ?_, sr.zr, fun i so a h1 h2 => ?_⟩
  · obtain ⟨xs, e⟩ := sr.zat p hp
    exact ⟨xs, m _ _ e⟩
  · obtain ⟨u, hu, ro⟩ := sr.at_ i so a h1 h2
    exact ⟨u, m _ _ hu, ro.mono m.step sr.own⟩
theorem Rep.more {g : Gx} {r : List Addr} {H H' : Hp} {S : Sto} {sl : Sl} {st : L2.St} (R : Rep g r H S sl st) (m : More H H') : Rep g r H' S sl st := R.step m.step (R.sr.more m)
/-- a later heap, the lists that are just being made aside -/
structure StepZ (z r : List Addr) (H : Hp) (r' : List Addr) (H' : Hp) : Prop where
  ext : ∀ b o, H b = some o → b ∉ r → b ∉ z → H' b = some o
  pre : ∃ t, r' = r ++ t
  new : ∀ b, b ∈ r' → b ∈ r ∨ H b = none
  frz : ∀ b o u, H b = some (.frz o u) → H' b = some (.frz o u)
theorem Step.z {z r r' : List Addr} {H H' : Hp} (s : Step r H r' H') : StepZ z r H r' H' := ⟨fun b o h hn _ => s.ext b o h hn, s.pre, s.new, s.frz⟩
theorem StepZ.get {z r r' : List Addr} {H H' : Hp} {n : Nat} {a : Addr} (s : StepZ z r H r' H') (h : r[n]? = some a) : r'[n]? = some a := by
  obtain ⟨t, rfl⟩ := s.pre
  have hl : n < r.length := (List.getElem?_eq_some_iff.mp h).1
  rw [List.getElem?_append_left hl]; exact h
theorem StepZ.nin {z r r' : List Addr} {H H' : Hp} {a : Addr} {o : HO} (s : StepZ z r H r' H') (hn : a ∉ r) (h : H a = some o) : a ∉ r' := fun q => by
  rcases s.new a q with y | y
  · exact hn y
  · rw [h] at y; cases y
theorem StepZ.seqT {g : Gx} {r r' : List Addr} {H H' : Hp} {S : Sto} {a : Addr} {vs : List V} (s : StepZ g.z r H r' H') (sr : SR g r H S) (h : SqT g.K H a vs) : SqT g.K H' a vs := by
  rcases h with (h |
        ⟨o, h⟩) | h
  · refine .inl (.inl (s.ext _ _ h (fun z => ?_) fun z => ?_))
    · obtain ⟨u, hu, h1, _⟩ := sr.own a z
      rw [h] at hu; cases hu; exact h1 _ rfl
    · obtain ⟨xs, e⟩ := sr.zat a z
      rw [h] at e; cases e
  · exact .inl (.inr ⟨o, s.frz _ _ _ h⟩)
  · exact .inr h
mutual
theorem RV.monoS {g : Gx} {r r' z' : List Addr} {H H' : Hp} {S : Sto} (s : StepZ g.z r H r' H') (sr : SR g r H S) (zs : Zs g.z z' H) : ∀ {x : Val} {v : V}, RV g r H x v → RV (g.at z') r' H' x v
  | _, _, .non => .non
  | _, _, .bl b => .bl b
  | _, _, .int i => .int i
  | _, _, .str i => .str i
  | _, _, .ty i => .ty i
  | _, _, .fn h => .fn h
  | _, _, .tup h hl hs => .tup (s.seqT (g := g) sr h) hl (RVs.monoS s sr zs hs)
  | _, _, .lst h hn hz hl hs => .lst (s.ext _ _ h hn hz) (s.nin hn h) (zs.nin hz h) hl (RVs.monoS s sr zs hs)
  | _, _, .scr h hn hl hs => .scr (s.frz _ _ _ h) (s.nin hn h) hl (RVs.monoS s sr zs hs)
  | _, _, .ref h => .ref (s.get h)
  | _, _, .ptp h hd hl hs => .ptp (s.frz _ _ _ h) hd hl (RVs.monoS s sr zs hs)
theorem RVs.monoS {g : Gx} {r r' z' : List Addr} {H H' : Hp} {S : Sto} (s : StepZ g.z r H r' H') (sr : SR g r H S) (zs : Zs g.z z' H) : ∀ {x : List Val} {v : List V}, RVs g r H x v → RVs (g.at z') r' H' x v
  | _, _, .nil => .nil
  | _, _, .cons h hs => .cons (RV.monoS s sr zs h) (RVs.monoS s sr zs hs)
end
/-- J yields these items -/
def ItOk (g : Gx) (r : List Addr) (H : Hp) (J : It) (s : Src) : Prop := s.l.length ≤ sizeLine ∧ ∀ z' r2 H2 S2, StepZ g.z r H r2 H2 → Zs g.z z' H → SR (g.at z') r2 H2 S2 → s.ok S2 = true →
  (∀ i x, s.l[i]? = some x → J.go i H2 ∧ ∀ hx H3, J.yld i H2 hx H3 → More H2 H3 ∧ RV (g.at z') r2 H3 x hx) ∧ (∀ i, s.l.length ≤ i → J.stop i H2)
def iD (g : Gx) (m : MI) : TI := fun st H R => ∃ z r S sl src S', Rep (g.at z) r H S sl st ∧ m sl S = some (src, S') ∧
  ∀ r' H' J, Step r H r' H' → SR (g.at z) r' H' S' → ItOk (g.at z) r' H' J src → R J H'

/-! for -/
def forX (tg : MG) (body : MS) (s : Src) : List Val → Sl → Sto → Option (Fl × Sl × Sto)
  | [], sl, S => if s.ok S then some (.nxt, sl, S) else none
  | x :: xs, sl, S => if s.ok S then (tg sl S x).bind fun sl1 => (body sl1 S).bind fun p => match p.1 with
    | .nxt => forX tg body s xs p.2.1 p.2.2
    | .cnt => forX tg body s xs p.2.1 p.2.2
    | .brk => some (.nxt, p.2.1, p.2.2)
    | .ret v => some (.ret v, p.2.1, p.2.2)
    else none
def sFor (tg : MG) (it : MI) (body : MS) : MS := fun sl S => (it sl S).bind fun p => forX tg body p.1 p.1.l sl p.2

section
variable {X : Cx} {g : Gx} {pos : Pos}
theorem ds_for {t iter : Expr} {body : List Stmt} {tg : MG} {it : MI} {m : MS} (hp : PassesOwn (model X.prog X.w) X.A X.env X.xe) (hc : X.calm = true) (hi : PI X t iter (iD g it)) (hg : PG X t (tDG g tg)) (hb : PSs X body (tDS g m))
    (hs : ∀ x, foldedSetIterable iter X.env x = pure x := by intro _; rfl) : PS X (.For t iter body [] pos) (tDS g (sFor tg it m)) := by
  refine PS.weak (ps_for hp hc hi hg hb hs) fun D st H h => ?_
  obtain ⟨z, r, S, sl, f, sl', S', R, e, q⟩ := h
  simp only [sFor, Option.bind_eq_some_iff] at e
  obtain ⟨⟨src, S1⟩, e1, e2⟩ := e
  refine ⟨z, r, S, sl, src, S1, R, e1, fun r1 H1 J st1 sr1 ok => ?_⟩
  refine ⟨fun i n st2 H2 => n = src.l.length - i ∧ i ≤ src.l.length ∧ ∃ r2 S2 sl2, Step r1 H1 r2 H2 ∧ Rep (g.at z) r2 H2 S2 sl2 st2 ∧ forX tg m src (src.l.drop i) sl2 S2 = some (f, sl', S'),
    ⟨_, rfl, Nat.zero_le _, r1, S1, sl, .refl _ _, R.step st1 sr1, by simpa using e2⟩, ?_⟩
  rintro i n st2 H2 ⟨rfl, hle, r2, S2, sl2, s2, R2, e3⟩
  have oks : src.ok S2 = true := by
    cases hd : src.l.drop i with
    | nil =>
      rw [hd] at e3
      simp only [forX] at e3
      split at e3
      · assumption
      · cases e3
    | cons x xs =>
      rw [hd] at e3
      simp only [forX] at e3
      split at e3
      · assumption
      · cases e3
  obtain ⟨hgo, hstop⟩ := ok.2 z r2 H2 S2 s2.z (.refl _ _) R2.sr oks
  by_cases hlt : i < src.l.length
  · right
    have hd : src.l.drop i = src.l[i] :: src.l.drop (i + 1) := List.drop_eq_getElem_cons hlt
    rw [hd] at e3
    simp only [forX, oks, if_true, Option.bind_eq_some_iff] at e3
    obtain ⟨sl3, e4, ⟨f3, sl4, S4⟩, e5, e6⟩ := e3
    obtain ⟨go, yl⟩ := hgo i src.l[i] (List.getElem?_eq_getElem hlt)
    refine ⟨go, fun st5 H5 => ∃ r5 S5 sl5, Step r1 H1 r5 H5 ∧ Rep (g.at z) r5 H5 S5 sl5 st5 ∧ forX tg m src (src.l.drop (i + 1)) sl5 S5 = some (f, sl', S'), fun st5 H5 ⟨r5, S5, sl5, a1, a2, a3⟩ => ⟨src.l.length - (i + 1), by omega, rfl, hlt, r5, S5, sl5, a1, a2, a3⟩, fun hx H3 hy => ?_⟩
    obtain ⟨mo, rx⟩ := yl hx H3 hy
    refine ⟨z, r2, S2, sl2, _, sl3, R2.more mo, rx, e4, fun st6 R6 => ?_⟩
    refine ⟨z, r2, S2, sl3, f3, sl4, S4, R6, e5, fun r7 H7 st7 s7 R7 => ?_⟩
    have s17 := (s2.trans mo.step).trans s7
    cases f3 with
    | nxt => exact ⟨r7, S4, sl4, s17, R7, e6⟩
    | cnt => exact ⟨r7, S4, sl4, s17, R7, e6⟩
    | brk =>
      cases e6
      exact q r7 H7 st7 (st1.trans s17) R7
    | ret v =>
      cases e6
      exact q r7 H7 st7 (st1.trans s17) R7
  · left
    have hd : src.l.drop i = [] := List.drop_eq_nil_of_le (by omega)
    rw [hd] at e3
    simp only [forX, oks, if_true] at e3
    cases e3
    exact ⟨hstop i (by omega), q r2 H2 st2 (st1.trans s2) R2⟩

/-! ### list comprehensions -/
inductive Tn where
  | nm (i : Nat) | tp (is : List Nat)
def Tn.m : Tn → MG
  | .nm i => gNm i
  | .tp is => gTp is
def Tn.t (K : PySem.W.Frag) : Tn → TG
  | .nm i => gName i
  | .tp is => gTup K is.length (gsNames is)
def Tn.all : Tn → List Nat
  | .nm i => [i]
  | .tp is => is
def wipeS (sl : Sl) : List Nat → Sl
  | [] => sl
  | v :: vs => (wipeS sl vs).set v none
theorem wipe_set {st : L2.St} {x : Option V} : ∀ {vs : List Nat} {i : Nat}, i ∈ vs → wipe (st.set i x) vs = wipe st vs
  | v :: vs, i, h => by
    unfold wipe
    by_cases hi : i ∈ vs
    · rw [wipe_set hi]
    · have e : i = v := by simpa [hi] using h
      subst e
      have key : ∀ (vs : List Nat), i ∉ vs → (wipe (st.set i x) vs) = (wipe st vs).set i x := by
        intro vs
        induction vs with
        | nil => intro _; rfl
        | cons w ws ih =>
          intro hn
          simp only [List.mem_cons, not_or] at hn
          unfold wipe
          rw [ih hn.2, List.set_comm _ _ hn.1]
      rw [key vs hi, List.set_set]
theorem wipe_none {st : L2.St} : ∀ {vs : List Nat} {i : Nat}, i ∈ vs → (wipe st vs).set i none = wipe st vs
  | v :: vs, i, h => by
    unfold wipe
    by_cases hi : i = v
    · subst hi; rw [List.set_set]
    · rw [List.set_comm _ _ (Ne.symm hi), wipe_none (by simpa [hi] using h)]
theorem wipe_sub {st : L2.St} {vs : List Nat} : ∀ {ws : List Nat}, (∀ i ∈ ws, i ∈ vs) → wipe (wipe st vs) ws = wipe st vs
  | [], _ => rfl
  | w :: ws, h => by
    show (wipe (wipe st vs) ws).set w none = wipe st vs
    rw [wipe_sub fun i hi => h i (List.mem_cons_of_mem _ hi), wipe_none (h w List.mem_cons_self)]
theorem SlR.wipe {g : Gx} {r : List Addr} {H : Hp} {sl : Sl} {st : L2.St} (x : SlR g r H sl st) : ∀ vs : List Nat, SlR g r H (wipeS sl vs) (L2.wipe st vs)
  | [] => x
  | v :: vs => by
    have ih := SlR.wipe x vs
    unfold wipeS L2.wipe
    refine ⟨by simp [ih.len], fun i w h => ?_⟩
    by_cases e : v = i
    · subst e
      by_cases hl : v < (wipeS sl vs).length
      · rw [List.getElem?_set_self hl] at h; cases h
      · rw [List.getElem?_eq_none (by simp; omega)] at h; cases h
    · rw [List.getElem?_set_ne e] at h
      obtain ⟨hw, e1, q1⟩ := ih.at_ i w h
      exact ⟨hw, by rw [List.getElem?_set_ne e]; exact e1, q1⟩
theorem gsNames_readW {r : List Addr} {H : Hp} {S : Sto} {Q : L2.St → Hp → Prop} {ws : List Nat} : ∀ (is : List Nat) (xs : List Val) (vs : List V) (sl : Sl) (st : L2.St), (∀ i ∈ is, i ∈ ws) → xs.length = is.length → RVs g r H xs vs → Rep g r H S sl st →
    (∀ st', Rep g r H S (setAll is xs sl) st' → wipe st' ws = wipe st ws → Q st' H) → gsNames is vs st H Q
  | [], [], _, sl, st, _, _, .nil, R, q => ⟨rfl, q st R rfl⟩
  | i :: is, x :: xs, _, sl, st, hm, hl, .cons h hs, R, q => ⟨_, _, rfl, gsNames_readW is xs _ (sl.set i (some x)) _ (fun j hj => hm j (List.mem_cons_of_mem _ hj)) (by simpa using hl) hs ⟨R.sr, R.sl.set h i⟩ fun st' R' e => q st' R' (by rw [e, wipe_set (hm i List.mem_cons_self)])⟩
theorem Tn.read {K : PySem.W.Frag} {r : List Addr} {H : Hp} {S : Sto} {Q : L2.St → Hp → Prop} {ws : List Nat} {t : Tn} {x : Val} {hx : V} {sl sl' : Sl} {st : L2.St} (hK : g.K = K) (hm : ∀ i ∈ t.all, i ∈ ws) (R : Rep g r H S sl st) (rx : RV g r H x hx) (e : t.m sl S x = some sl')
    (q : ∀ st', Rep g r H S sl' st' → wipe st' ws = wipe st ws → Q st' H) : t.t K hx st H Q := by
  cases t with
  | nm i =>
    cases e
    exact q _ ⟨R.sr, R.sl.set rx i⟩ (wipe_set (hm i (by simp [Tn.all])))
  | tp is =>
    simp only [Tn.m, gTp] at e
    split at e
    · rename_i xs
      split at e
      · rename_i hl
        cases e
        cases rx with
        | tup h1 h2 h3 =>
          rw [hK] at h1
          exact ⟨_, _, rfl, h1, by rw [← h3.length]; exact hl, gsNames_readW is xs _ sl st hm hl h3 R q⟩
      · cases e
    · cases e
def tYesD : MT := fun _ S => some (true, S)
def lcX (t : Tn) (tt : MT) (m : ME) (s : Src) (sl : Sl) : List Val → Sto → Option (List Val × Sto)
  | [], S => if s.ok S then some ([], S) else none
  | x :: xs, S => if s.ok S then (t.m sl S x).bind fun sl1 => (tt sl1 S).bind fun p => if p.1 then (m sl1 p.2).bind fun q => (lcX t tt m s sl xs q.2).bind fun w => some (q.1 :: w.1, w.2) else lcX t tt m s sl xs p.2
    else none
def eLc (t : Tn) (it : MI) (tt : MT) (m : ME) (vs : List Nat) : ME := fun sl S => (it sl S).bind fun p => (lcX t tt m p.1 (wipeS sl vs) p.1.l p.2).bind fun w => some (.lst w.1, w.2)
def eLcM (t : Tn) (it : MI) (tt : MT) (m : ME) (vs : List Nat) : ME := fun sl S => (it sl S).bind fun p => (lcX t tt m p.1 (wipeS sl vs) p.1.l p.2).bind fun w => some (.ref w.2.length, w.2 ++ [.lst w.1])
/-- the list that is being made goes on -/
theorem RVs.updz {r : List Addr} {H : Hp} {D : Addr} {u : List V} {o : HO} (hz : D ∈ g.z) (hD : H D = some (.lst u)) : ∀ {x : List Val} {v : List V}, RVs g r H x v → RVs g r (upd H D o) x v := by
  have seqT : ∀ {a : Addr} {vs : List V}, SqT g.K H a vs → SqT g.K (upd H D o) a vs := fun {a vs} h => by
    rcases h with (h | ⟨ob, h⟩) | h
    · exact .inl (.inl (by rw [upd_ne (fun e => by rw [e, hD] at h; cases h)]; exact h))
    · exact .inl (.inr ⟨ob, by rw [upd_ne (fun e => by rw [e, hD] at h; cases h)]; exact h⟩)
    · exact .inr h
  intro x v h
  exact RVs.rec (g := g) (r := r) (H := H) (motive_1 := fun x v _ => RV g r (upd H D o) x v) (motive_2 := fun x v _ => RVs g r (upd H D o) x v)
    .non .bl .int .str .ty (fun h => .fn h) (fun h hl _ ih => .tup (seqT h) hl ih) (fun {a _ _} h hn hz' hl _ ih => .lst (by rw [upd_ne (fun e => hz' (by rw [e]; exact hz))]; exact h) hn hz' hl ih)
    (fun {a ob _ _} h hn hl _ ih => .scr (o := ob) (by rw [upd_ne (fun e => by rw [e, hD] at h; cases h)]; exact h) hn hl ih) (fun h => .ref h) (fun {a ob _ _} h hd hl _ ih => .ptp (o := ob) (by rw [upd_ne (fun e => by rw [e, hD] at h; cases h)]; exact h) hd hl ih) .nil (fun _ _ a b => .cons a b) h
theorem RV.updz {r : List Addr} {H : Hp} {D : Addr} {u : List V} {o : HO} (hz : D ∈ g.z) (hD : H D = some (.lst u)) {x : Val} {v : V} (h : RV g r H x v) : RV g r (upd H D o) x v := by
  cases RVs.updz hz hD (.cons h .nil) with
  | cons a _ => exact a
theorem RO.updz {r : List Addr} {H : Hp} {D : Addr} {u : List V} {o : HO} (hz : D ∈ g.z) (hD : H D = some (.lst u)) {a : Addr} {x : SO} {v : HO} (h : RO g r H a x v) : RO g r (upd H D o) a x v := by
  cases h with
  | lst hl h => exact .lst hl (h.updz hz hD)
  | dK h1 hl h2 => exact .dK h1 hl (h2.updz hz hD)
  | dN h1 hl h0 h2 => exact .dN h1 hl (h0.updz hz hD) (h2.updz hz hD)
  | lkK h => cases h with | dK h1 hl h2 => exact .lkK (.dK h1 hl (h2.updz hz hD))
  | lkN h1 hl h0 h2 => exact .lkN h1 hl (h0.updz hz hD) (h2.updz hz hD)
theorem SR.updz {r : List Addr} {H : Hp} {S : Sto} {D : Addr} {u w : List V} (hz : D ∈ g.z) (hD : H D = some (.lst u)) (sr : SR g r H S) : SR g r (upd H D (.lst w)) S := by
  refine ⟨sr.len, sr.nd, fun p hp => ?_, sr.zr, fun i so a h1 h2 => ?_⟩
  · by_cases e : p = D
    · exact ⟨w, by rw [e]; exact upd_same⟩
    · obtain ⟨xs, e'⟩ := sr.zat p hp
      exact ⟨xs, by rw [upd_ne e]; exact e'⟩
  · obtain ⟨o, ho, ro⟩ := sr.at_ i so a h1 h2
    refine ⟨o, ?_, ro.updz hz hD⟩
    have hne : a ≠ D := fun e => sr.zr D hz (by
      rw [← e]
      exact List.mem_of_getElem? h2)
    rw [upd_ne hne]; exact ho
/-- fewer lists are being made -/
theorem RVs.fewz {r z : List Addr} {H : Hp} (hz : ∀ p ∈ z, p ∈ g.z) {x : List Val} {v : List V} (h : RVs g r H x v) : RVs (g.at z) r H x v :=
  RVs.rec (g := g) (r := r) (H := H) (motive_1 := fun x v _ => RV (g.at z) r H x v) (motive_2 := fun x v _ => RVs (g.at z) r H x v)
    .non .bl .int .str .ty (fun h => .fn h) (fun h hl _ ih => .tup h hl ih) (fun h hn hz' hl _ ih => .lst h hn (fun q => hz' (hz _ q)) hl ih) (fun h hn hl _ ih => .scr h hn hl ih) (fun h => .ref h) (fun h hd hl _ ih => .ptp h hd hl ih) .nil (fun _ _ a b => .cons a b) h
theorem RO.fewz {r z : List Addr} {H : Hp} (hz : ∀ p ∈ z, p ∈ g.z) {a : Addr} {x : SO} {v : HO} (h : RO g r H a x v) : RO (g.at z) r H a x v := by
  cases h with
  | lst hl h => exact .lst hl (h.fewz hz)
  | dK h1 hl h2 => exact .dK h1 hl (h2.fewz hz)
  | dN h1 hl h0 h2 => exact .dN h1 hl (h0.fewz hz) (h2.fewz hz)
  | lkK h => cases h with | dK h1 hl h2 => exact .lkK (.dK h1 hl (h2.fewz hz))
  | lkN h1 hl h0 h2 => exact .lkN h1 hl (h0.fewz hz) (h2.fewz hz)
theorem SR.fewz {r z : List Addr} {H : Hp} {S : Sto} (hz : ∀ p ∈ z, p ∈ g.z) (sr : SR g r H S) : SR (g.at z) r H S :=
  ⟨sr.len, sr.nd, fun p hp => sr.zat p (hz p hp), fun p hp => sr.zr p (hz p hp), fun i so a h1 h2 => by obtain ⟨u, hu, ro⟩ := sr.at_ i so a h1 h2; exact ⟨u, hu, ro.fewz hz⟩⟩
theorem SlR.monoZ {r r' z' : List Addr} {H H' : Hp} {sl : Sl} {st : L2.St} (s : Step r H r' H') (ow : Own r H) (zs : Zs g.z z' H) (x : SlR g r H sl st) : SlR (g.at z') r' H' sl st :=
  ⟨x.len, fun i v h => by obtain ⟨hv, e, q⟩ := x.at_ i v h; exact ⟨hv, e, q.monoZ s ow zs⟩⟩
theorem RO.monoZ {r r' z' : List Addr} {H H' : Hp} (s : Step r H r' H') (ow : Own r H) (zs : Zs g.z z' H) {a : Addr} {o : SO} {u : HO} (x : RO g r H a o u) : RO (g.at z') r' H' a o u := by
  cases x with
  | lst hl h => exact .lst hl (h.monoZ s ow zs)
  | dK h1 hl h2 => exact .dK h1 hl (h2.monoZ s ow zs)
  | dN h1 hl h0 h2 => exact .dN h1 hl (h0.monoZ s ow zs) (h2.monoZ s ow zs)
  | lkK h => cases h with | dK h1 hl h2 => exact .lkK (.dK h1 hl (h2.monoZ s ow zs))
  | lkN h1 hl h0 h2 => exact .lkN h1 hl (h0.monoZ s ow zs) (h2.monoZ s ow zs)
/-- a list begins to be made -/
theorem SR.addz {r : List Addr} {H : Hp} {S : Sto} {D : Addr} (sr : SR g r H S) (hD : H D = none) : SR (g.at (D :: g.z)) r (upd H D (.lst [])) S := by
  have zs : Zs g.z (D :: g.z) H := fun p hp => by
    rcases List.mem_cons.mp hp
          with e | e
    · right; rw [e]; exact hD
    · exact .inl e
  refine ⟨sr.len, sr.nd, fun p hp => ?_, fun p hp => ?_, fun i so a h1 h2 => ?_⟩
  · rcases List.mem_cons.mp hp with e | e
    · exact ⟨[], by rw [e]; exact upd_same⟩
    · obtain ⟨xs, e'⟩ := sr.zat p e
      exact ⟨xs, by rw [upd_ne (ne_of_none e' hD)]; exact e'⟩
  · rcases List.mem_cons.mp hp with e | e
    · rw [e]; exact notin_own sr.own hD
    · exact sr.zr p e
  · obtain ⟨o, ho, ro⟩ := sr.at_ i so a h1 h2
    exact ⟨o, by rw [upd_ne (ne_of_none ho hD)]; exact ho, ro.monoZ (Step.new1 hD) sr.own zs⟩
/-- what a comprehension comes to -/
theorem lc_read {st : L2.St} {H : Hp} {t : Tn} {it : MI} {tt : MT} {m : ME} {vs : List Nat} (hK : g.K = X.K) (hm : ∀ i ∈ t.all, i ∈ vs) {z r : List Addr} {S S' : Sto} {sl : Sl} {res : List Val} (R : Rep (g.at z) r H S sl st)
    (e : ((it sl S).bind fun p => lcX t tt m p.1 (wipeS sl vs) p.1.l p.2) = some (res, S')) {Q : VK}
    (q : ∀ r' H' D ys, Step r H r' H' → SR (g.at z) r' H' S' → H' D = some (.lst ys) → D ∉ r' → D ∉ z → H D = none → res.length ≤ sizeLine → RVs (g.at (D :: z)) r' H' res ys → (SR (g.at (D :: z)) r' H' S') → Q (.ref D) H') :
    tLc (iD g it) (t.t X.K) (tDt g tt) (tD g m) vs st H Q := by
  simp only [Option.bind_eq_some_iff] at e
  obtain ⟨⟨src, S1⟩, e1, e2⟩ := e
  refine ⟨z, r, S, sl, src, S1, R, e1, fun r1 H1 J st1 sr1 ok D hD => ?_⟩
  have sD : Step r1 H1 r1 (upd H1 D (.lst [])) := Step.new1 hD
  have zs : Zs z (D :: z) H1 := fun p hp => by
    rcases List.mem_cons.mp hp
          with e | e
    · right; rw [e]; exact hD
    · exact .inl e
  have sl1 : SlR (g.at z) r1 H1 (wipeS sl vs) (wipe st vs) := (R.sl.mono st1 R.sr.own).wipe vs
  have hm0 : ∀ p ∈ z, p ∈ D :: z := fun p hp => List.mem_cons_of_mem _ hp
  refine ⟨fun i n H2 => n = src.l.length - i ∧ i ≤ src.l.length ∧ ∃ r2 S2 acc ys rest, Step r1 H1 r2 H2 ∧ Rep (g.at (D :: z)) r2 H2 S2 (wipeS sl vs) (wipe st vs) ∧ H2 D = some (.lst ys) ∧ RVs (g.at (D :: z)) r2 H2 acc ys ∧ acc.length ≤ i ∧ res = acc ++ rest ∧
      lcX t tt m src (wipeS sl vs) (src.l.drop i) S2 = some (rest, S'),
    ⟨_, rfl, Nat.zero_le _, r1, S1, [], [], res, sD, ⟨SR.addz (g := g.at z) sr1 hD, SlR.monoZ (g := g.at z) sD sr1.own zs sl1⟩, upd_same, .nil, Nat.le_refl _, rfl, by simpa using e2⟩, ?_⟩
  rintro i n H2 ⟨rfl, hle, r2, S2, acc, ys, rest, s2, R2, hDy, rys, hal, hres, e3⟩
  have oks : src.ok S2 = true := by
    cases hd : src.l.drop i with
    | nil =>
      rw [hd] at e3
      simp only [lcX] at e3
      split at e3
      · assumption
      · cases e3
    | cons x xs =>
      rw [hd] at e3
      simp only [lcX] at e3
      split at e3
      · assumption
      · cases e3
  obtain ⟨hgo, hstop⟩ := ok.2 (D :: z) r2 H2 S2 s2.z zs R2.sr oks
  by_cases hlt : i < src.l.length
  · right
    have hd : src.l.drop i = src.l[i] :: src.l.drop (i + 1) := List.drop_eq_getElem_cons hlt
    rw [hd] at e3
    simp only [lcX, oks, if_true, Option.bind_eq_some_iff] at e3
    obtain ⟨sl3, e4, ⟨k, S3⟩, e5, e6⟩ := e3
    obtain ⟨go, yl⟩ := hgo i src.l[i] (List.getElem?_eq_getElem hlt)
    refine ⟨go, fun H5 => ∃ r5 S5 acc5 ys5 rest5, Step r1 H1 r5 H5 ∧ Rep (g.at (D :: z)) r5 H5 S5 (wipeS sl vs) (wipe st vs) ∧ H5 D = some (.lst ys5) ∧ RVs (g.at (D :: z)) r5 H5 acc5 ys5 ∧ acc5.length ≤ i + 1 ∧ res = acc5 ++ rest5 ∧
        lcX t tt m src (wipeS sl vs) (src.l.drop (i + 1)) S5 = some (rest5, S'),
      fun H5 ⟨r5, S5, acc5, ys5, rest5, a1, a2, a3, a4, a5, a6, a7⟩ => ⟨src.l.length - (i + 1), by omega, rfl, hlt, r5, S5, acc5, ys5, rest5, a1, a2, a3, a4, a5, a6, a7⟩, fun hx H3 hy => ?_⟩
    obtain ⟨mo, rx⟩ := yl hx H3 hy
    refine Tn.read (g := g.at (D :: z)) (ws := vs) (hK : g.K = X.K) hm (R2.more mo) rx e4 fun st6 R6 hw => ⟨by rw [hw, wipe_sub fun _ h => h], ?_⟩
    refine ⟨D :: z, r2, S2, sl3, k, S3, R6, e5, fun r7 H7 st7 sr7 => ?_⟩
    have hD7 : H7 D = some (.lst ys) := st7.ext _ _ (mo _ _ hDy) (R2.sr.zr D List.mem_cons_self)
    have s27 : Step r2 H2 r7 H7 := mo.step.trans st7
    cases k with
    | false =>
      simp only [Bool.false_eq_true, if_false] at e6
      refine iteF ?_
      exact ⟨r7, S3, acc, ys, rest, s2.trans s27, R2.step s27 sr7, hD7, rys.mono s27 R2.sr.own, by omega, hres, e6⟩
    | true =>
      simp only [if_true, Option.bind_eq_some_iff] at e6
      refine iteT ?_
      obtain ⟨⟨y, S8⟩, e7, ⟨rest8, S9⟩, e8, e9⟩ := e6
      cases e9
      refine ⟨D :: z, r7, S3, sl3, y, S8, R6.step st7 sr7, e7, fun r8 H8 hv st8 sr8 rv => ?_⟩
      have hD8 : H8 D = some (.lst ys) := st8.ext _ _ hD7 (sr7.zr D List.mem_cons_self)
      have s28 : Step r2 H2 r8 H8 := s27.trans st8
      have ra8 := rys.mono s28 R2.sr.own
      have hlen : ys.length < sizeLine := by
        rw [← ra8.length]
        have := ok.1
        omega
      have s18 := s2.trans s28
      have sU : Step r1 H1 r8 (upd H8 D (.lst (ys ++ [hv]))) := ⟨fun b o hb hn => by rw [upd_ne (ne_of_none hb hD)]; exact s18.ext b o hb hn, s18.pre, s18.new, fun b o u hb => by rw [upd_ne (ne_of_none hb hD)]; exact s18.frz b o u hb⟩
      refine ⟨ys, hD8, hlen, r8, S8, acc ++ [y], ys ++ [hv], rest8, sU, ⟨SR.updz (g := g.at (D :: z)) List.mem_cons_self hD8 sr8, ?_⟩, upd_same, ?_, by simp; omega, by rw [hres]; simp, e8⟩
      · refine ⟨R2.sl.len, fun j w hj => ?_⟩
        obtain ⟨hw', e', q'⟩ := (R2.sl.mono s28 R2.sr.own).at_ j w hj
        exact ⟨hw', e', RV.updz (g := g.at (D :: z)) List.mem_cons_self hD8 q'⟩
      · exact (RVs.updz (g := g.at (D :: z)) List.mem_cons_self hD8 ra8).append (.cons (RV.updz (g := g.at (D :: z)) List.mem_cons_self hD8 rv) .nil)
  · left
    have hd : src.l.drop i = [] := List.drop_eq_nil_of_le (by omega)
    rw [hd] at e3
    simp only [lcX, oks, if_true] at e3
    cases e3
    rw [List.append_nil] at hres
    subst hres
    have hDH : H D = none := by
      cases hh : H D with
      | none => rfl
      | some o =>
        have : D ∈ r := by
          by_cases hr : D ∈ r
          · exact hr
          · have := st1.ext D o hh hr
            rw [hD] at this; cases this
        obtain ⟨t', rfl⟩ := st1.pre
        obtain ⟨u, hu, _⟩ := sr1.own D (List.mem_append_left _ this)
        rw [hD] at hu; cases hu
    exact ⟨hstop i (by omega), q r2 H2 D ys (st1.trans s2) (SR.fewz (g := g.at (D :: z)) hm0 R2.sr) hDy (R2.sr.zr D List.mem_cons_self) (fun hz => by
      obtain ⟨xs, e'⟩ := sr1.zat D hz
      rw [hD] at e'; cases e') hDH (by have := ok.1; omega) rys R2.sr⟩
end
end Mp
namespace Mp
open PySem PySem.Spec
      PyProof.Rows L2

/-! ### sources -/
def tupOf : Val → Option (List Val)
  | .tup xs => some xs
  | .ptp xs => some xs
  | _ => none
theorem tupOf_at {g : Gx} {r : List Addr} {H : Hp} {a : Val} {x : V} {xs : List Val} (h : RV g r H a x) (e : tupOf a = some xs) : ∃ p vs, x = .ref p ∧ SqT g.K H p vs ∧ xs.length ≤ sizeLine ∧ RVs g r H xs vs := by
  cases h with
  | tup h1 h2 h3 => cases e; exact ⟨_, _, rfl, h1, h2, h3⟩
  | ptp h0 h1 h2 h3 => cases e; exact ⟨_, _, rfl, .inl (.inr ⟨_, h0⟩), h2, h3⟩
  | _ => cases e
/-- the items of a list or tuple that is walked -/
def iSeq (m : ME) : MI := fun sl S => (m sl S).bind fun p => match p.1 with
  | .tup xs => some (⟨xs, none⟩, p.2)
  | .ptp xs => some (⟨xs, none⟩, p.2)
  | .lst xs => some (⟨xs, none⟩, p.2)
  | .scr xs => some (⟨xs, none⟩, p.2)
  | .str x => if x.cps.size ≤ sizeLine then some (⟨x.cps.toList.map fun c => .str ⟨#[c]⟩, none⟩, p.2) else none
  | .ref n => match p.2[n]? with
    | some (.lst xs) => some (⟨xs, some n⟩, p.2)
    | _ => none
  | _ => none
def rngL (lo : Int) (n : Nat) : List Val := (List.range n).map fun (i : Nat) => .int (lo + i)
def iRng1M (m : ME) : MI := fun sl S => (m sl S).bind fun p => match p.1 with
  | .int j => if -(2 ^ 62) ≤ j ∧ j ≤ 16000000 then some (⟨rngL 0 j.toNat, none⟩, p.2) else none
  | _ => none
def iRng2M (a b : ME) : MI := fun sl S => (a sl S).bind fun p => (b sl p.2).bind fun q => match p.1, q.1 with
  | .int i, .int j => if -16000 ≤ i ∧ i ≤ 16000 ∧ -(2 ^ 62) ≤ j ∧ j ≤ 16000000 then some (⟨rngL i (j - i).toNat, none⟩, q.2) else none
  | _, _ => none
def zipL : List Val → List Val → List Val
  | x :: xs, y :: ys => .tup [x, y] :: zipL xs ys
  | _, _ => []
def iZipT (a b : ME) : MI := fun sl S => (a sl S).bind fun p => (b sl p.2).bind fun q => (tupOf p.1).bind fun xs => (tupOf q.1).map fun ys => (⟨zipL xs ys, none⟩, q.2)
section
variable {X : Cx} {g : Gx} {pos : Pos}
theorem it_tup {r : List Addr} {H : Hp} {S : Sto} {a : Addr} {xs : List Val} {vs : List V} (hK : g.K = X.K) (sr : SR g r H S) (h1 : SqT g.K H a vs) (h2 : xs.length ≤ sizeLine) (h3 : RVs g r H xs vs) : ItOk g r H (Itt X.K a) ⟨xs, none⟩ := by
  refine ⟨h2, fun z' r2 H2 S2 s zs sr2 _ => ⟨fun i x hx => ?_, fun i hi => ?_⟩⟩
  · have h1' := s.seqT (g := g) sr h1
    rw [hK] at h1'
    obtain ⟨v, hv, rv⟩ := h3.get hx
    refine ⟨⟨vs, v, h1', hv⟩, fun hw H3 y => ?_⟩
    obtain ⟨e, y⟩ := y
    subst e
    have := y vs h1'
    rw [hv] at this
    cases this
    exact ⟨fun _ _ q => q, rv.monoS s sr zs⟩
  · have h1' := s.seqT (g := g) sr h1
    rw [hK] at h1'
    exact ⟨vs, h1', by rw [← h3.length]; exact hi⟩
theorem it_at {r : List Addr} {H : Hp} {S : Sto} {a : Addr} {xs : List Val} {n : Option Nat} (sz : xs.length ≤ sizeLine) (K : PySem.W.Frag)
    (at_ : ∀ z' r2 H2 S2, StepZ g.z r H r2 H2 → Zs g.z z' H → SR (g.at z') r2 H2 S2 → Src.ok ⟨xs, n⟩ S2 = true → ∃ vs, SqL K H2 a vs ∧ RVs (g.at z') r2 H2 xs vs) : ItOk g r H (Itl K a) ⟨xs, n⟩ := by
  refine ⟨sz, fun z' r2 H2 S2 s zs sr2 ok => ?_⟩
  obtain ⟨vs, h1, h3⟩ := at_ z' r2 H2 S2 s zs sr2 ok
  refine ⟨fun i x hx => ?_, fun i hi => ⟨vs, h1, by rw [← h3.length]; exact hi⟩⟩
  obtain ⟨v, hv, rv⟩ := h3.get hx
  refine ⟨⟨vs, v, h1, hv⟩, fun hw H3 y => ?_⟩
  obtain ⟨e, y⟩ := y
  subst e
  have := y vs h1
  rw [hv] at this
  cases this
  exact ⟨fun _ _ q => q, rv⟩
theorem PI.weak {t e : Expr} {w w' : TI} (h : PI X t e w) (k : ∀ st H R, w' st H R → w st H R) : PI X t e w' := ⟨fun pins s st H R I q => h.run pins s st H R I (k _ _ _ q)⟩
theorem PI.or {t e : Expr} {w w' : TI} (h : PI X t e w) (h' : PI X t e w') : PI X t e (fun st H R => w st H R ∨ w' st H R) := ⟨fun pins s st H R I q => q.elim (h.run pins s st H R I) (h'.run pins s st H R I)⟩
/-- the reading of an expression whose value is of this kind -/
def tDk (g : Gx) (k : Val → Prop) (m : ME) : TE := fun st H Q => ∃ z r S sl v S', Rep (g.at z) r H S sl st ∧ m sl S = some (v, S') ∧ k v ∧
  ∀ r' H' hv, Step r H r' H' → SR (g.at z) r' H' S' → RV (g.at z) r' H' v hv → Q hv H'
theorem d_kind {e : Expr} {m : ME} {k : Val → Prop} (h : PE X e (tD g m)) : PE X e (tDk g k m) := PE.weak h fun st H Q ⟨z, r, S, sl, v, S', R, e, _, q⟩ => ⟨z, r, S, sl, v, S', R, e, q⟩
theorem it_str {r : List Addr} {H : Hp} {x : Str} (h : x.cps.size ≤ sizeLine) : ItOk g r H (Its x) ⟨x.cps.toList.map fun c => .str ⟨#[c]⟩, none⟩ := by
  refine ⟨by simpa using h, fun z' r2 H2 S2 s zs sr2 _ => ⟨fun i y hy => ?_, fun i hi => (by simpa using hi : x.cps.size ≤ i)⟩⟩
  rw [List.getElem?_map, Option.map_eq_some_iff] at hy
  obtain ⟨c, hc, rfl⟩ := hy
  have hl : i < x.cps.size := by simpa using (List.getElem?_eq_some_iff.mp hc).1
  refine ⟨hl, fun hw H3 q => ?_⟩
  obtain ⟨rfl, c', hc', rfl⟩ := q
  have e : c' = c := by
    rw [Array.getElem?_toList] at hc
    rw [hc] at hc'
    exact (Option.some.inj hc').symm
  subst e
  exact ⟨fun _ _ q => q, .str _⟩
theorem it_rng {r : List Addr} {H : Hp} {lo : Int} {n : Nat} (h : n ≤ sizeLine) : ItOk g r H (Itr lo n) ⟨rngL lo n, none⟩ := by
  refine ⟨by simpa [rngL] using h, fun z' r2 H2 S2 s zs sr2 _ => ⟨fun i y hy => ?_, fun i hi => (by simpa [rngL] using hi : n ≤ i)⟩⟩
  simp only [rngL, List.getElem?_map, Option.map_eq_some_iff] at hy
  obtain ⟨j, hj, rfl⟩ := hy
  obtain ⟨hl, hj⟩ := List.getElem?_eq_some_iff.mp hj
  simp only [List.getElem_range] at hj
  subst hj
  simp only [List.length_range] at hl
  refine ⟨hl, fun hw H3 q => ?_⟩
  obtain ⟨rfl, rfl⟩ := q
  exact ⟨fun _ _ q => q, .int _⟩
theorem di_seq {t e : Expr} {m : ME} (hK : g.K = X.K) (he : PE X e (tD g m)) : PI X t e (iD g (iSeq m)) := by
  refine PI.weak (PI.or (pi_tup (d_kind (k := fun v => ∃ xs, tupOf v = some xs) he)) (PI.or (pi_list (d_kind (k := fun v => (∃ xs, v = .lst xs) ∨ (∃ xs, v = .scr xs) ∨ ∃ n, v = .ref n) he)) (pi_str (d_kind (k := fun v => ∃ x, v = .str x) he)))) fun st H R h => ?_
  obtain ⟨z, r, S, sl, src, S', R0, e, q⟩ := h
  simp only [iSeq, Option.bind_eq_some_iff] at e
  obtain ⟨⟨v, S1⟩, e1, e2⟩ := e
  cases v with
  | tup xs =>
    cases e2
    left
    refine ⟨z, r, S, sl, _, _, R0, e1, ⟨_, rfl⟩, fun r1 H1 hv s1 sr1 rv => ?_⟩
    obtain ⟨p, vs, rfl, h1, h2, h3⟩ := tupOf_at rv rfl
    have h1' := h1
    rw [show (g.at z).K = X.K from hK] at h1'
    exact ⟨_, rfl, ⟨_, h1'⟩, q r1 H1 _ s1 sr1 (it_tup (g := g.at z) hK sr1 h1 h2 h3)⟩
  | ptp xs =>
    cases e2
    left
    refine ⟨z, r, S, sl, _, _, R0, e1, ⟨_, rfl⟩, fun r1 H1 hv s1 sr1 rv => ?_⟩
    obtain ⟨p, vs, rfl, h1, h2, h3⟩ := tupOf_at rv rfl
    have h1' := h1
    rw [show (g.at z).K = X.K from hK] at h1'
    exact ⟨_, rfl, ⟨_, h1'⟩, q r1 H1 _ s1 sr1 (it_tup (g := g.at z) hK sr1 h1 h2 h3)⟩
  | lst xs =>
    cases e2
    right; left
    refine ⟨z, r, S, sl, _, _, R0, e1, .inl ⟨_, rfl⟩, fun r1 H1 hv s1 sr1 rv => ?_⟩
    cases rv with
    | lst h1 h2 h3 h4 h5 =>
      refine ⟨_, rfl, ⟨_, .inl (.inl h1)⟩, q r1 H1 _ s1 sr1 (it_at (g := g.at z) (S := S1) h4 X.K fun z' r2 H2 S2 s zs sr2 _ => ?_)⟩
      exact ⟨_, .inl (.inl (s.ext _ _ h1 h2 h3)), h5.monoS s sr1 zs⟩
  | scr xs =>
    cases e2
    right; left
    refine ⟨z, r, S, sl, _, _, R0, e1, .inr (.inl ⟨_, rfl⟩), fun r1 H1 hv s1 sr1 rv => ?_⟩
    cases rv with
    | scr h1 h2 h4 h5 =>
      refine ⟨_, rfl, ⟨_, .inl (.inr ⟨_, h1⟩)⟩, q r1 H1 _ s1 sr1 (it_at (g := g.at z) (S := S1) h4 X.K fun z' r2 H2 S2 s zs sr2 _ => ?_)⟩
      exact ⟨_, .inl (.inr ⟨_, s.frz _ _ _ h1⟩), h5.monoS s sr1 zs⟩
  | str x =>
    dsimp only at e2
    split at e2
    · rename_i hx
      cases e2
      right; right
      refine ⟨z, r, S, sl, _, _, R0, e1, ⟨_, rfl⟩, fun r1 H1 hv s1 sr1 rv => ?_⟩
      cases rv
      exact ⟨_, rfl, q r1 H1 _ s1 sr1 (it_str hx)⟩
    · cases e2
  | ref n =>
    dsimp only at e2
    split at e2
    · rename_i xs hx
      cases e2
      right; left
      refine ⟨z, r, S, sl, _, _, R0, e1, .inr (.inr ⟨_, rfl⟩), fun r1 H1 hv s1 sr1 rv => ?_⟩
      cases rv with
      | @ref _ a ha =>
        obtain ⟨u, hu, ro⟩ := sr1.at_ _ _ _ hx ha
        cases ro with
        | lst hl hs =>
          refine ⟨_, rfl, ⟨_, .inl (.inl hu)⟩, q r1 H1 _ s1 sr1 (it_at (g := g.at z) (S := S) hl X.K fun z' r2 H2 S2 s zs sr2 ok => ?_)⟩
          simp only [Src.ok] at ok
          split at ok
          · rename_i ys hy
            have e' := Val.sames_eq _ _ ok
            subst e'
            obtain ⟨u2, hu2, ro2⟩ := sr2.at_ _ _ _ hy (s.get ha)
            cases ro2 with
            | lst hl2 hs2 => exact ⟨_, .inl (.inl hu2), hs2⟩
          · cases ok
    · cases e2
  | _ => cases e2
theorem di_rng1 {t a : Expr} {p : Pos} {m : ME} (hg : Gl X "range") (hm : X.mg "range" = none) (ha : PE X a (tD g m)) (hs : starEach [a] X.env = [(false, eval a X.env)] := by rfl) : PI X t (.Call (.Name "range" p) [a] [] pos) (iD g (iRng1M m)) := by
  refine PI.weak (pi_range1 hg hm (d_cons ha d_nil hs) hs) fun st H R h => ?_
  obtain ⟨z, r, S, sl, src, S', R0, e, q⟩ := h
  simp only [iRng1M, Option.bind_eq_some_iff] at e
  obtain ⟨⟨v, S1⟩, e1, e2⟩ := e
  dsimp only at e2
  split at e2
  · rename_i j
    split at e2
    · rename_i hj
      cases e2
      refine ⟨z, r, S, sl, [.int j], _, R0, by simp [esCons, esNil, e1]; rfl, fun r1 H1 hv s1 sr1 rv => ?_⟩
      cases rv with
      | cons a b =>
        cases a
        cases b
        exact ⟨j, rfl, hj.1, by omega, q r1 H1 _ s1 sr1 (it_rng (by rw [sizeLine_eq]; omega))⟩
    · cases e2
  · cases e2
theorem di_rng2 {t a b : Expr} {p : Pos} {m m2 : ME} (hg : Gl X "range") (hm : X.mg "range" = none) (ha : PE X a (tD g m)) (hb : PE X b (tD g m2)) (hs : starEach [a, b] X.env = [(false, eval a X.env), (false, eval b X.env)] := by rfl) (hs2 : starEach [b] X.env = [(false, eval b X.env)] := by rfl) : PI X t (.Call (.Name "range" p) [a, b] [] pos) (iD g (iRng2M m m2)) := by
  refine PI.weak (pi_range2 hg hm (d_cons ha (d_cons hb d_nil hs2) (by rw [hs, hs2])) hs hs2) fun st H R h => ?_
  obtain ⟨z, r, S, sl, src, S', R0, e, q⟩ := h
  simp only [iRng2M, Option.bind_eq_some_iff] at e
  obtain ⟨⟨v, S1⟩, e1, ⟨w, S2⟩, e3, e2⟩ := e
  dsimp only at e2
  split at e2
  · rename_i i j
    split at e2
    · rename_i hj
      cases e2
      refine ⟨z, r, S, sl, [.int i, .int j], _, R0, by simp [esCons, esNil, e1, e3]; rfl, fun r1 H1 hv s1 sr1 rv => ?_⟩
      cases rv with
      | cons a b =>
        cases a
        cases b with
        | cons a b =>
          cases a
          cases b
          exact ⟨i, j, rfl, ⟨by omega, by omega, hj.2.2.1, by omega⟩, q r1 H1 _ s1 sr1 (it_rng (by rw [sizeLine_eq]; omega))⟩
    · cases e2
  · cases e2
theorem zipL_get : ∀ (xs ys : List Val) (i : Nat) (v : Val), (zipL xs ys)[i]? = some v → ∃ x y, xs[i]? = some x ∧ ys[i]? = some y ∧ v = .tup [x, y]
  | [], _, _, _, h => by simp [zipL] at h
  | _ :: _, [], _, _, h => by simp [zipL] at h
  | x :: xs, y :: ys, 0, v, h => by simp [zipL] at h; exact ⟨x, y, rfl, rfl, h.symm⟩
  | x :: xs, y :: ys, i + 1, v, h => by
    obtain ⟨a, b, h1, h2, h3⟩ := zipL_get xs ys i v (by simpa [zipL] using h)
    exact ⟨a, b, by simpa using h1, by simpa using h2, h3⟩
theorem zipL_len : ∀ (xs ys : List Val), (zipL xs ys).length = min xs.length ys.length
  | [], _ => by simp [zipL]
  | _ :: _, [] => by simp [zipL]
  | x :: xs, y :: ys => by simp [zipL, zipL_len xs ys, Nat.succ_min_succ]
theorem it_zip {r : List Addr} {H : Hp} {S : Sto} {a b : Addr} {xs ys : List Val} {vs ws : List V} (hK : g.K = X.K) (sr : SR g r H S) (h1 : SqT g.K H a vs) (h2 : xs.length ≤ sizeLine) (h3 : RVs g r H xs vs) (k1 : SqT g.K H b ws) (k3 : RVs g r H ys ws) : ItOk g r H (RZ.ItzT X.K a b) ⟨zipL xs ys, none⟩ := by
  refine ⟨by rw [zipL_len]; omega, fun z' r2 H2 S2 s zs sr2 _ => ?_⟩
  have h1' := s.seqT (g := g) sr h1
  have k1' := s.seqT (g := g) sr k1
  rw [hK] at h1' k1'
  refine ⟨fun i v hv => ?_, fun i hi => ?_⟩
  · obtain ⟨x, y, hx, hy, rfl⟩ := zipL_get _ _ _ _ hv
    obtain ⟨v, hv', rv⟩ := h3.get hx
    obtain ⟨w, hw, rw'⟩ := k3.get hy
    refine ⟨⟨vs, ws, v, w, h1', k1', hv', hw⟩, fun hq H3 q => ?_⟩
    obtain ⟨T, x', y', rfl, hT, rfl, g1, g2⟩ := q
    have e1 := g1 vs h1'
    have e2 := g2 ws k1'
    rw [hv'] at e1
    rw [hw] at e2
    cases e1
    cases e2
    refine ⟨fun c o hc => by rw [upd_ne (ne_of_none hc hT)]; exact hc, ?_⟩
    exact RV.newT sr2 hT (by show 2 ≤ sizeLine; decide) (.cons (rv.monoS s sr zs) (.cons (rw'.monoS s sr zs) .nil))
  · rw [zipL_len] at hi
    refine ⟨vs, ws, h1', k1', ?_⟩
    rw [← h3.length, ← k3.length]
    rcases Nat.le_total xs.length ys.length with q | q
    · left; omega
    · right; omega
/-- the reading of zip over two tuples -/
theorem di_zipT {e e2 : Expr} {m m2 : ME} {p tpos : Pos} {elts : List Expr} {kk : Nat} (hK : g.K = X.K) (hg : Gl X "zip") (hm : X.mg "zip" = none) (ha : PE X e (tD g m)) (hb : PE X e2 (tD g m2))
    (hs : starEach [e, e2] X.env = (false, eval e X.env) :: starEach [e2] X.env := by rfl) (hs2 : starEach [e2] X.env = (false, eval e2 X.env) :: starEach [] X.env := by rfl) (hpl : (backTo pos (starEach [e2] X.env)).any (·.1) = false := by rfl) :
    PI X (.Tuple elts kk tpos) (.Call (.Name "zip" p) [e, e2] [] pos) (iD g (iZipT m m2)) := by
  refine PI.weak (RZ.pi_zipA hg hm (d_cons ha (d_cons hb d_nil hs2) hs) hs hpl) fun st H R h => ?_
  obtain ⟨z, r, S, sl, src, S', R0, e, q⟩ := h
  simp only [iZipT, Option.bind_eq_some_iff, Option.map_eq_some_iff] at e
  obtain ⟨⟨v, S1⟩, e1, ⟨w, S2⟩, e3, xs, f1, ys, f2, f3⟩ := e
  cases f3
  dsimp only at e3 f1 f2 q
  refine ⟨z, r, S, sl, [v, w], S2, R0, by simp [esCons, esNil, e1, e3], fun r1 H1 hv s1 sr1 rv => ?_⟩
  cases rv with
  | cons a b =>
    cases b with
    | cons b c =>
      cases c
      obtain ⟨p, vs, rfl, h1, h2, h3⟩ := tupOf_at a f1
      obtain ⟨p', ws, rfl, k1, k2, k3⟩ := tupOf_at b f2
      have h1' := h1
      have k1' := k1
      rw [show (g.at z).K = X.K from hK] at h1' k1'
      exact ⟨_, _, _, _, rfl, .inr ⟨h1', k1', q r1 H1 _ s1 sr1 (it_zip (g := g.at z) hK sr1 h1 h2 h3 k1 k3)⟩⟩
end
end Mp
namespace Mp
open PySem PySem.Spec
      PyProof.Rows L2

/-! ### what a def leaves behind: its own lists are frozen, the store is as long as before -/
mutual
def fzV (S : Sto) (n : Nat) : Nat → Val → Option Val
  | 0, _ => none
  | k + 1, .ref i => if i < n then some (.ref i) else match S[i]? with
    | some (.lst xs) => (fzVs S n k xs).map .lst
    | _ => none
  | k + 1, .tup xs => (fzVs S n k xs).map .tup
  | k + 1, .ptp xs => (fzVs S n k xs).map .ptp
  | k + 1, .lst xs => (fzVs S n k xs).map .lst
  | _ + 1, .non => some .non
  | _ + 1, .bl b => some (.bl b)
  | _ + 1, .int b => some (.int b)
  | _ + 1, .str b => some (.str b)
  | _ + 1, .ty b => some (.ty b)
  | _ + 1, .fn b => some (.fn b)
  | _ + 1, .scr _ => none
def fzVs (S : Sto) (n : Nat) : Nat → List Val → Option (List Val)
  | 0, _ => none
  | _ + 1, [] => some []
  | k + 1, x :: xs => (fzV S n k x).bind fun y => (fzVs S n k xs).map fun ys => y :: ys
end
mutual
def Val.inB (n : Nat) : Val → Bool
  | .ref i => decide (i < n)
  | .tup xs => Val.inBs n xs
  | .ptp xs => Val.inBs n xs
  | .lst xs => Val.inBs n xs
  | .scr xs => Val.inBs n xs
  | _ => true
def Val.inBs (n : Nat) : List Val → Bool
  | [] => true
  | x :: xs => Val.inB n x && Val.inBs n xs
end
def SO.inB (n : Nat) : SO → Bool
  | .lst xs => Val.inBs n xs
  | .dK kvs => Val.inBs n (kvs.map (·.2))
  | .dN kvs => Val.inBs n (kvs.map fun p => ofK p.1) && Val.inBs n (kvs.map (·.2))
  | .lk _ => false
def leaveS (n : Nat) (v : Val) (S : Sto) : Res Val := if S.length = n then some (v, S) else if (S.take n).all (SO.inB n) then (fzV S n 4000 v).map fun w => (w, S.take n) else none
abbrev MF := List Val → Sto → Res Val
def defM (keep : Bool) (body : MS) (n np : Nat) : MF := fun xs S => if xs.length = np then (body (xs.map some ++ List.replicate (n - np) none) S).bind fun p => match p.1 with
    | .ret v => if keep then some (v, p.2.2) else leaveS S.length v p.2.2
    | .nxt => if keep then some (.non, p.2.2) else leaveS S.length .non p.2.2
    | _ => none
  else none
def eCall (m : MF) (ms : MEs) : ME := fun sl S => (ms sl S).bind fun p => m p.1 p.2
/-- a def's promise: what the interpreter says -/
def spD (g : Gx) (m : MF) : Sp := fun vs H Q _ => ∃ z r S xs v S', SR (g.at z) r H S ∧ RVs (g.at z) r H xs vs ∧ m xs S = some (v, S') ∧
  ∀ r' H' hv, Step r H r' H' → SR (g.at z) r' H' S' → RV (g.at z) r' H' v hv → Q hv H'

section
variable {g : Gx}
mutual
theorem below_rv {r t : List Addr} {H : Hp} : ∀ {x : Val} {v : V}, RV g (r ++ t) H x v → Val.inB r.length x = true → RV g r H x v
  | _, _, .non, _ => .non
  | _, _, .bl b, _ => .bl b
  | _, _, .int i, _ => .int i
  | _, _, .str i, _ => .str i
  | _, _, .ty i, _ => .ty i
  | _, _, .fn h, _ => .fn h
  | _, _, .tup h hl hs, e => .tup h hl (below_rvs hs (by simpa [Val.inB] using e))
  | _, _, .ptp h hd hl hs, e => .ptp h hd hl (below_rvs hs (by simpa [Val.inB] using e))
  | _, _, .lst h hn hz hl hs, e => .lst h (fun q => hn (List.mem_append_left _ q)) hz hl (below_rvs hs (by simpa [Val.inB] using e))
  | _, _, .scr h hn hl hs, e => .scr h (fun q => hn (List.mem_append_left _ q)) hl (below_rvs hs (by simpa [Val.inB] using e))
  | _, _, .ref (n := n) h, e => .ref (by
      have hl : n < r.length := by simpa [Val.inB] using e
      rwa [List.getElem?_append_left hl] at h)
theorem below_rvs {r t : List Addr} {H : Hp} : ∀ {x : List Val} {v : List V}, RVs g (r ++ t) H x v → Val.inBs r.length x = true → RVs g r H x v
  | _, _, .nil, _ => .nil
  | _, _, .cons h hs, e => by
    simp only [Val.inBs, Bool.and_eq_true] at e
    exact .cons (below_rv h e.1) (below_rvs hs e.2)
end
theorem below_ro {r t : List Addr} {H : Hp} {a : Addr} {o : SO} {u : HO} (h : RO g (r ++ t) H a o u) (e : o.inB r.length = true) : RO g r H a o u := by
  cases h with
  | lst hl h => exact .lst hl (below_rvs h e)
  | dK h1 hl h2 => exact .dK h1 hl (below_rvs h2 e)
  | dN h1 hl h0 h2 =>
    simp only [SO.inB, Bool.and_eq_true] at e
    exact .dN h1 hl (below_rvs h0 e.1) (below_rvs h2 e.2)
  | lkK h => cases e
  | lkN => cases e
theorem fz_rv {r t : List Addr} {H : Hp} {S : Sto} (sr : SR g (r ++ t) H S) : ∀ (k : Nat), (∀ (x y : Val) (v : V), RV g (r ++ t) H x v → fzV S r.length k x = some y → RV g r H y v) ∧ (∀ (x y : List Val) (v : List V), RVs g (r ++ t) H x v → fzVs S r.length k x = some y → RVs g r H y v ∧ y.length = x.length)
  | 0 => ⟨fun x y v _ e => by simp [fzV] at e, fun x y v _ e => by simp [fzVs] at e⟩
  | k + 1 => by
    obtain ⟨ih1, ih2⟩ := fz_rv sr k
    constructor
    · intro x y v h e
      cases h with
      | non => simp [fzV] at e; subst e; exact .non
      | bl b => simp [fzV] at e; subst e; exact .bl b
      | int b => simp [fzV] at e; subst e; exact .int b
      | str b => simp [fzV] at e; subst e; exact .str b
      | ty b => simp [fzV] at e; subst e; exact .ty b
      | fn q => simp [fzV] at e; subst e; exact .fn q
      | scr => simp [fzV] at e
      | tup h1 h2 h3 =>
        simp only [fzV, Option.map_eq_some_iff] at e
        obtain ⟨ys, e1, rfl⟩ := e
        obtain ⟨q1, q2⟩ := ih2 _ _ _ h3 e1
        exact .tup h1 (by rw [q2]; exact h2) q1
      | ptp h0 h1 h2 h3 =>
        simp only [fzV, Option.map_eq_some_iff] at e
        obtain ⟨ys, e1, rfl⟩ := e
        obtain ⟨q1, q2⟩ := ih2 _ _ _ h3 e1
        exact .ptp h0 h1 (by rw [q2]; exact h2) q1
      | lst h1 h2 h3 h4 h5 =>
        simp only [fzV, Option.map_eq_some_iff] at e
        obtain ⟨ys, e1, rfl⟩ := e
        obtain ⟨q1, q2⟩ := ih2 _ _ _ h5 e1
        exact .lst h1 (fun q => h2 (List.mem_append_left _ q)) h3 (by rw [q2]; exact h4) q1
      | @ref n a h =>
        simp only [fzV] at e
        split at e
        · rename_i hl
          cases e
          rw [List.getElem?_append_left hl] at h
          exact .ref h
        · rename_i hl
          split at e
          · rename_i xs hx
            simp only [Option.map_eq_some_iff] at e
            obtain ⟨ys, e1, rfl⟩ := e
            obtain ⟨u, hu, ro⟩ := sr.at_ _ _ _ hx h
            cases ro with
            | lst hz hs =>
              obtain ⟨q1, q2⟩ := ih2 _ _ _ hs e1
              have hnr : a ∉ r := fun q => by
                have hd := (List.nodup_append.mp sr.nd).2.2
                rw [List.getElem?_append_right (by omega)] at h
                exact hd a q a (List.mem_of_getElem? h) rfl
              exact .lst hu hnr (fun q => sr.zr a q (List.mem_of_getElem? h)) (by rw [q2]; exact hz) q1
          · cases e
    · intro x y v h e
      cases h with
      | nil => simp [fzVs] at e; subst e; exact ⟨.nil, rfl⟩
      | cons h hs =>
        simp only [fzVs, Option.bind_eq_some_iff, Option.map_eq_some_iff] at e
        obtain ⟨z, e1, zs, e2, rfl⟩ := e
        obtain ⟨q1, q2⟩ := ih2 _ _ _ hs e2
        exact ⟨.cons (ih1 _ _ _ h e1) q1, by simp [q2]⟩
/-- behind a def -/
theorem leave_ok {r r' : List Addr} {H H' : Hp} {S S' S2 : Sto} {v w : Val} {hv : V} (sr0 : SR g r H S) (st : Step r H r' H') (sr : SR g r' H' S') (rv : RV g r' H' v hv) (e : leaveS S.length v S' = some (w, S2)) : ∃ r2, Step r H r2 H' ∧ SR g r2 H' S2 ∧ RV g r2 H' w hv := by
  unfold leaveS at e
  split at e
  · cases e
    exact ⟨r', st, sr, rv⟩
  · split at e
    · rename_i hb
      simp only [Option.map_eq_some_iff] at e
      obtain ⟨w', e1, e2⟩ := e
      cases e2
      obtain ⟨t, rfl⟩ := st.pre
      rw [← sr0.len] at e1 hb ⊢
      refine ⟨r, ⟨st.ext, ⟨[], by simp⟩, fun _ h => .inl h, st.frz⟩, ⟨?_, (List.nodup_append.mp sr.nd).1, sr.zat, fun p hp q => sr.zr p hp (List.mem_append_left _ q), fun i so a h1 h2 => ?_⟩, (fz_rv sr 4000).1 _ _ _ rv e1⟩
      · have := sr.len
        simp at this ⊢
        omega
      · have hl : i < r.length := (List.getElem?_eq_some_iff.mp h2).1
        rw [List.getElem?_take_of_lt hl] at h1
        obtain ⟨u, hu, ro⟩ := sr.at_ i so a h1 (by rw [List.getElem?_append_left hl]; exact h2)
        refine ⟨u, hu, below_ro ro ?_⟩
        rw [List.all_eq_true] at hb
        exact hb so (List.mem_of_getElem? (i := i) (by rw [List.getElem?_take_of_lt hl]; exact h1))
    · cases e
theorem start_rep {N : List Str} {r : List Addr} {H : Hp} {S : Sto} {xs : List Val} {vs : List V} (sr : SR g r H S) (h : RVs g r H xs vs) : Rep g r H S (xs.map some ++ List.replicate (N.length - xs.length) none) (L2.start N vs) := by
  refine ⟨sr, ⟨by simp [L2.start, h.length], fun i v e => ?_⟩⟩
  by_cases hl : i < xs.length
  · rw [List.getElem?_append_left (by simpa using hl), List.getElem?_map] at e
    simp only [Option.map_eq_some_iff] at e
    obtain ⟨x, e1, e2⟩ := e
    cases e2
    obtain ⟨hv, q1, q2⟩ := h.get e1
    refine ⟨hv, ?_, q2⟩
    unfold L2.start
    rw [List.getElem?_append_left (by rw [List.length_map, ← h.length]; exact hl), List.getElem?_map, q1]
    rfl
  · rw [List.getElem?_append_right (by simpa using hl)] at e
    have := (List.getElem?_eq_some_iff.mp e).2
    simp at this
variable {P : Program} {w : World} {K : PySem.W.Frag}
      {mg : Str → Option Value} {base : Heap}
/-- THE RULE for a def -/
theorem ok_def {x : Str} {st : Stmt} {f : Addr} {fd : FuncData} {N ps : List Str} {k : Nat} {keep : Bool} {body : MS} {m : MF} (F : Fun K x x st f fd) (S : FnScope N ps (defScope st)) (hm : m = defM keep body N.length ps.length)
    (hbody : ∀ (cdv : Value) (A : Around) (outer : List Env) (s : Shared) (H : Hp) (E : XK), Room k (A.deeper (envOfC x (defScope st) s.heap.objs.size f cdv)) → PSs (cxOf CX0 P w K mg base N x (defScope st) f cdv A outer s H E).nox (defBody st) (tDS g body)) : FnOk P w K mg base CX0 (k + 1) f fd ps (spD g m) := by
  refine F.ok S (fun vs H Q E h => ?_) (fun cdv A outer s H vs Q E hr h => ⟨_, hbody cdv A outer s H E hr, ?_⟩)
  · obtain ⟨z, r, S, xs, v, S', sr, rx, e, q⟩ := h
    subst hm
    unfold defM at e
    split at e
    · rename_i hl
      rw [← rx.length]; exact hl
    · cases e
  · obtain ⟨z, r, S, xs, v, S', sr, rx, e, q⟩ := h
    subst hm
    unfold defM at e
    split at e
    · rename_i hl
      simp only [Option.bind_eq_some_iff] at e
      obtain ⟨⟨fl, sl', S1⟩, e1, e2⟩ := e
      rw [← hl] at e1
      refine ⟨z, r, S, _, fl, sl', S1, start_rep sr rx, e1, fun r1 H1 st1 s1 R1 => ?_⟩
      cases fl with
      | nxt =>
        dsimp only at e2
        cases keep with
        | true => cases e2; exact q r1 H1 _ s1 R1.sr .non
        | false =>
          obtain ⟨r2, a1, a2, a3⟩ := leave_ok sr s1 R1.sr (.non) e2
          exact q r2 H1 _ a1 a2 a3
      | ret v =>
        intro hv rv
        dsimp only at e2
        cases keep with
        | true => cases e2; exact q r1 H1 _ s1 R1.sr rv
        | false =>
          obtain ⟨r2, a1, a2, a3⟩ := leave_ok sr s1 R1.sr rv e2
          exact q r2 H1 _ a1 a2 a3
      | brk => cases e2
      | cnt => cases e2
    · cases e
end
section
variable {X : Cx} {g : Gx} {pos : Pos}
theorem d_call {x : Str} {e : Expr} {es : List Expr} {ms : MEs} {m : MF} {k j : Nat} {f : Addr} {fd : FuncData} {ps : List Str} {p : Pos} (F : FnOk X.prog X.w X.K X.mg X.base CX0 k f fd ps (spD g m)) (hr : Room j X.A) (hk : k ≤ j) (hg : Gl X x) (hm : X.mg x = some (.ref f)) (kp : PySem.W.keepIn X.K (.ref f) = true) (hb : Binds X.K fd ps [])
    (ha : PA X (e :: es) (tDs g ms)) (hdb : (x == ("__debug__" : Str)) = false := by decide) (he : starEach (e :: es) X.env = (false, eval e X.env) :: starEach es X.env := by rfl) (hpl : (backTo pos (starEach es X.env)).any (·.1) = false := by rfl) :
    PE X (.Call (.Name x p) (e :: es) [] pos) (tD g (eCall m ms)) := by
  refine PE.weak (pe_call F (hr.mono hk) hg hm kp hb .nil pass0 ha hdb he hpl) fun st H Q h => ?_
  obtain ⟨z, r, S, sl, v, S', R, e, q⟩ := h
  simp only [eCall, Option.bind_eq_some_iff] at e
  obtain ⟨⟨xs, S1⟩, e1, e2⟩ := e
  refine ⟨z, r, S, sl, xs, S1, R, e1, fun r1 H1 hv s1 sr1 rx => ?_⟩
  refine ⟨z, r1, S1, xs, v, S', sr1, by rw [List.append_nil]; exact rx, e2, fun r2 H2 hw s2 sr2 rv => q r2 H2 hw (s1.trans s2) sr2 rv⟩
theorem d_call0 {x : Str} {m : MF} {k j : Nat} {f : Addr} {fd : FuncData} {ps : List Str} {p : Pos} (F : FnOk X.prog X.w X.K X.mg X.base CX0 k f fd ps (spD g m)) (hr : Room j X.A) (hk : k ≤ j) (hg : Gl X x) (hm : X.mg x = some (.ref f)) (kp : PySem.W.keepIn X.K (.ref f) = true) (hb : Binds X.K fd ps [])
    (hdb : (x == ("__debug__" : Str)) = false := by decide) : PE X (.Call (.Name x p) [] [] pos) (tD g (eCall m esNil)) := by
  refine PE.weak (pe_call0 F (hr.mono hk) hg hm kp hb .nil pass0 hdb) fun st H Q h => ?_
  obtain ⟨z, r, S, sl, v, S', R, e, q⟩ := h
  simp only [eCall, esNil, Option.bind_eq_some_iff] at e
  obtain ⟨⟨xs, S1⟩, e1, e2⟩ := e
  cases e1
  exact ⟨z, r, S, [], v, S', R.sr, .nil, e2, fun r2 H2 hw s2 sr2 rv => q r2 H2 hw s2 sr2 rv⟩
end
end Mp
namespace Mp
open PySem PySem.Spec
      PyProof.Rows L2

theorem PE.or {X : Cx} {e : Expr} {t t' : TE} (h : PE X e t) (h' : PE X e t') : PE X e (fun st H Q => t st H Q ∨ t' st H Q) := ⟨fun pins s st H Q I q => q.elim (h.run pins s st H Q I) (h'.run pins s st H Q I)⟩
theorem PS.or {X : Cx} {e : Stmt} {t t' : TS} (h : PS X e t) (h' : PS X e t') : PS X e (fun D st H => t D st H ∨ t' D st H) := ⟨fun pins s st H D I q => q.elim (h.run pins s st H D I) (h'.run pins s st H D I)⟩

/-! ### index -/
def strAt (x : Str) (i : Int) : Option Val := if x.length ≤ sizeLine then (atI x.cps.toList i).map fun c => .str ⟨#[c]⟩ else none
def fIx (S : Sto) (a b : Val) : Option Val := match b with
  | .int i => match a with
    | .tup xs => atI xs i
    | .ptp xs => atI xs i
    | .scr xs => atI xs i
    | .str x => strAt x i
    | a => (lstOf S a).bind fun xs => atI xs i
  | _ => none
theorem RVs.atI {g : Gx} {r : List Addr} {H : Hp} {xs : List Val} {vs : List V} {i : Int} {x : Val} (h : RVs g r H xs vs) (e : atI xs i = some x) : ∃ v, L2.atI vs i = some v ∧ RV g r H x v := by
  unfold L2.atI at e ⊢
  rw [← h.length]
  simp only [Option.bind_eq_some_iff] at e
  obtain ⟨j, e1, e2⟩ := e
  obtain ⟨v, h1, h2⟩ := h.get e2
  exact ⟨v, by rw [e1]; exact h1, h2⟩
section
variable {X : Cx} {g : Gx} {pos : Pos}
theorem o_ix (hK : g.K = X.K) : IxR X (rG2 g fIx) := by
  intro value slice pins s st H x y v u Q I rx ry h hs
  obtain ⟨z, r, S, a, b, w, sr, ra, rb, e, q⟩ := h
  unfold fIx at e
  split at e
  · rename_i i
    cases rb
    have fin : ∀ (hv : V), RV (g.at z) r H w hv → Q hv H := fun hv rv => q r H hv (.refl r H) sr rv
    split at e
    · cases ra with
      | tup h1 h2 h3 =>
        obtain ⟨hv, e1, rv⟩ := h3.atI e
        rw [show (g.at z).K = X.K from hK] at h1
        exact ix_tup value slice pins s st H _ _ v u Q I rx ry ⟨_, _, _, _, rfl, rfl, h1, e1, fin _ rv⟩ hs
    · cases ra with
      | ptp h0 h1 h2 h3 =>
        obtain ⟨hv, e1, rv⟩ := h3.atI e
        exact ix_tup value slice pins s st H _ _ v u Q I rx ry ⟨_, _, _, _, rfl, rfl, .inl (.inr ⟨_, h0⟩), e1, fin _ rv⟩ hs
    · cases ra with
      | scr h1 h2 h3 h4 =>
        obtain ⟨hv, e1, rv⟩ := h4.atI e
        exact ix_list value slice pins s st H _ _ v u Q I rx ry ⟨_, _, _, _, rfl, rfl, .inl (.inr ⟨_, h1⟩), e1, fin _ rv⟩ hs
    · cases ra with
      | str x =>
        unfold strAt at e
        split at e
        · rename_i hz
          simp only [Option.map_eq_some_iff] at e
          obtain ⟨c, e1, rfl⟩ := e
          exact ix_str value slice pins s st H _ _ v u Q I rx ry ⟨_, _, _, rfl, rfl, hz, e1, fin _ (.str _)⟩ hs
        · cases e
    · simp only [Option.bind_eq_some_iff] at e
      obtain ⟨xs, e1, e2⟩ := e
      obtain ⟨p, vs, rfl, hp, _, hs'⟩ := lstOf_at sr ra e1
      obtain ⟨hv, e3, rv⟩ := hs'.atI e2
      exact ix_list value slice pins s st H _ _ v u Q I rx ry ⟨_, _, _, _, rfl, rfl, .inl (.inl hp), e3, fin _ rv⟩ hs
  · cases e
theorem d_ix {a b : Expr} {ma mb : ME} (hK : g.K = X.K) (ha : PE X a (tD g ma)) (hb : PE X b (tD g mb)) (hs : PlainIx b := by intro _ _; rfl) : PE X (.Subscript a b pos) (tD g (eOp2 fIx ma mb)) :=
  PE.weak (pe_ix (o_ix hK) ha hb hs) fun _ _ _ h => op2_read h

/-! ### slices -/
def cutG (xs : List Val) (lo hi : Option Int) : List Val := (xs.drop (HT.sIx xs.length 0 lo)).take (HT.sIx xs.length xs.length hi - HT.sIx xs.length 0 lo)
theorem RVs.drop {r : List Addr} {H : Hp} : ∀ {xs : List Val} {vs : List V} (k : Nat), RVs g r H xs vs → RVs g r H (xs.drop k) (vs.drop k)
  | _, _, 0, h => h
  | _, _, _ + 1, .nil => .nil
  | _, _, k + 1, .cons _ t => RVs.drop k t
theorem RVs.take {r : List Addr} {H : Hp} : ∀ {xs : List Val} {vs : List V} (k : Nat), RVs g r H xs vs → RVs g r H (xs.take k) (vs.take k)
  | _, _, 0, _ => .nil
  | _, _, _ + 1, .nil => .nil
  | _, _, k + 1, .cons h t => .cons h (RVs.take k t)
theorem RVs.cut {r : List Addr} {H : Hp} {xs : List Val} {vs : List V} (h : RVs g r H xs vs) (lo hi : Option Int) : RVs g r H (cutG xs lo hi) (cutV vs lo hi) := by
  unfold cutG cutV
  rw [h.length]
  exact (h.drop _).take _
theorem cutG_le (xs : List Val) (lo hi : Option Int) : (cutG xs lo hi).length ≤ xs.length := by
  unfold cutG
  rw [List.length_take,
        List.length_drop]
  omega
def sIx_all (n : Nat) (lo hi : Option Int) : Bool := decide (HT.sIx n 0 lo = 0 ∧ HT.sIx n n hi = n)
theorem cutG_all {xs : List Val} {lo hi : Option Int} (h : HT.sIx xs.length 0 lo = 0 ∧ HT.sIx xs.length xs.length hi = xs.length) : cutG xs lo hi = xs := by
  unfold cutG
  rw [h.1, h.2]
  simp
def fSl (S : Sto) (lo hi : Option Int) : Val → Option Val
  | .tup xs => some (.tup (cutG xs lo hi))
  | .scr xs => some (.lst (cutG xs lo hi))
  | .str x => if x.length ≤ sizeLine then some (.str (cutS x lo hi)) else none
  | a => (lstOf S a).map fun xs => .lst (cutG xs lo hi)
/-- a slice's part -/
abbrev MO := Sl → Sto → Option (Option Int × Sto)
def oNo : MO := fun _ S => some (none, S)
def oSo (m : ME) : MO := fun sl S => (m sl S).bind fun p => match p.1 with
  | .int i => some (some i, p.2)
  | _ => none
def tDo (g : Gx) (m : MO) : TO := fun st H Q => ∃ z r S sl o S', Rep (g.at z) r H S sl st ∧ m sl S = some (o, S') ∧ ∀ r' H', Step r H r' H' → SR (g.at z) r' H' S' → Q o H'
theorem PO.weak {e : Option Expr} {t t' : TO} (h : PO X e t) (w : ∀ st H Q, t' st H Q → t st H Q) : PO X e t' := ⟨fun pins s st H Q I q => h.run pins s st H Q I (w _ _ _ q)⟩
theorem do_no : PO X none (tDo g oNo) := PO.weak po_none fun st H Q ⟨z, r, S, sl, o, S', R, e, q⟩ => by
  cases e
  exact q r H (.refl r H) R.sr
theorem do_so {e : Expr} {m : ME} (h : PE X e (tD g m)) : PO X (some e) (tDo g (oSo m)) := PO.weak (po_some h) fun st H Q ⟨z, r, S, sl, o, S', R, e, q⟩ => by
  simp only [oSo, Option.bind_eq_some_iff] at e
  obtain ⟨⟨v, S1⟩, e1, e2⟩ := e
  refine ⟨z, r, S, sl, v, S1, R, e1, fun r1 H1 x st1 sr1 rx => ?_⟩
  dsimp only at e2
  split at e2
  · cases e2
    cases rx
    exact ⟨_, rfl, q r1 H1 st1 sr1⟩
  · cases e2
def eSl (m : ME) (a b : MO) : ME := fun sl S => (m sl S).bind fun p => (a sl p.2).bind fun l => (b sl l.2).bind fun h => (fSl h.2 l.1 h.1 p.1).map fun v => (v, h.2)
def rSlG (g : Gx) : V → Option Int → Option Int → Hp → VK → Prop := fun x lo hi H Q => ∃ z r S a v, SR (g.at z) r H S ∧ RV (g.at z) r H a x ∧ fSl S lo hi a = some v ∧
  ∀ r' H' hv, Step r H r' H' → SR (g.at z) r' H' S → RV (g.at z) r' H' v hv → Q hv H'
theorem o_sl (hK : g.K = X.K) : L2.SlR X (rSlG g) := by
  intro pins s st H x v vl vu lo hi sl Q I rx hs pl pu h
  obtain ⟨z, r, S, a, w, sr, ra, e, q⟩ := h
  have newL : ∀ (xs : List Val) (vs : List V), xs.length ≤ sizeLine → RVs (g.at z) r H xs vs → ∀ p, H p = none → (∀ r' H' hv, Step r H r' H' → SR (g.at z) r' H' S → RV (g.at z) r' H' (.lst (cutG xs lo hi)) hv → Q hv H') → Q (.ref p) (upd H p (.lst (cutV vs lo hi))) :=
    fun xs vs hz rv p hp q => q r _ (.ref p) (Step.new1 hp) (sr.beside hp) (RV.newL sr hp (Nat.le_trans (cutG_le _ _ _) hz) (rv.cut lo hi))
  unfold fSl at e
  split at e
  · cases e
    cases ra with
    | tup h1 h2 h3 =>
      have h1' := h1
      rw [show (g.at z).K = X.K from hK] at h1'
      refine sl_tupA pins s st H _ v vl vu lo hi sl Q I rx hs pl pu ⟨_, _, rfl, h1', fun hw => ?_, fun hw p hp => ?_⟩
      · rw [← h3.length] at hw
        rw [cutG_all hw] at q
        exact q r H _ (.refl r H) sr (.tup h1 h2 h3)
      · exact q r _ (.ref p) (Step.new1 hp) (sr.beside hp) (RV.newT sr hp (Nat.le_trans (cutG_le _ _ _) h2) (h3.cut lo hi))
  · cases e
    cases ra with
    | scr h1 h2 h3 h4 =>
      exact sl_list pins s st H _ v vl vu lo hi sl Q I rx hs pl pu ⟨_, _, rfl, .inl (.inr ⟨_, h1⟩), fun p hp => newL _ _ h3 h4 p hp q⟩
  · split at e
    · rename_i hz
      cases e
      cases ra
      exact sl_str pins s st H _ v vl vu lo hi sl Q I rx hs pl pu ⟨_, rfl, hz, q r H _ (.refl r H) sr (.str _)⟩
    · cases e
  · simp only [Option.map_eq_some_iff] at e
    obtain ⟨xs, e1, rfl⟩ := e
    obtain ⟨p, vs, rfl, hp, hz, hs'⟩ := lstOf_at sr ra e1
    exact sl_list pins s st H _ v vl vu lo hi sl Q I rx hs pl pu ⟨_, _, rfl, .inl (.inl hp), fun p hp => newL _ _ hz hs' p hp q⟩
theorem d_sl {e : Expr} {lo hi : Option Expr} {m : ME} {a b : MO} {p2 : Pos} (hK : g.K = X.K) (he : PE X e (tD g m)) (hl : PO X lo (tDo g a)) (hh : PO X hi (tDo g b)) : PE X (.Subscript e (.Slice lo hi none p2) pos) (tD g (eSl m a b)) := by
  refine PE.weak (pe_slice (o_sl hK) he hl hh) fun st H Q h => ?_
  obtain ⟨z, r, S, sl, v, S', R, e, q⟩ := h
  simp only [eSl, Option.bind_eq_some_iff, Option.map_eq_some_iff] at e
  obtain ⟨⟨x, S1⟩, e1, ⟨l, S2⟩, e2, ⟨u, S3⟩, e3, w, e4, e5⟩ := e
  cases e5
  refine ⟨z, r, S, sl, x, S1, R, e1, fun r1 H1 hx st1 sr1 rx => ⟨z, r1, S1, sl, l, S2, R.step st1 sr1, e2, fun r2 H2 st2 sr2 => ?_⟩⟩
  refine ⟨z, r2, S2, sl, u, S3, (R.step st1 sr1).step st2 sr2, e3, fun r3 H3 st3 sr3 => ?_⟩
  exact ⟨z, r3, S3, x, v, sr3, (rx.mono st2 sr1.own).mono st3 sr2.own, e4, fun r4 H4 hv st4 sr4 rv => q r4 H4 hv (((st1.trans st2).trans st3).trans st4) sr4 rv⟩

/-! ### comprehensions, as values -/
/-- a list that was made becomes one of the store's -/
theorem RVs.adopt {z r : List Addr} {H : Hp} {D : Addr} {ys : List V} (hD : H D = some (.lst ys)) {x : List Val} {v : List V} (h : RVs (g.at (D :: z)) r H x v) : RVs (g.at z) (r ++ [D]) H x v := by
  have nin : ∀ a, a ∉ r → a ≠ D → a ∉ r ++ [D] := fun a h1 h2 h => by
    rcases List.mem_append.mp h
          with q | q
    · exact h1 q
    · exact h2 (by simpa using q)
  exact RVs.rec (g := g.at (D :: z)) (r := r) (H := H) (motive_1 := fun x v _ => RV (g.at z) (r ++ [D]) H x v) (motive_2 := fun x v _ => RVs (g.at z) (r ++ [D]) H x v)
    .non .bl .int .str .ty (fun h => .fn h) (fun h hl _ ih => .tup h hl ih) (fun {a _ _} h hn hz' hl _ ih => .lst h (nin a hn fun e => hz' (by rw [e]; exact List.mem_cons_self)) (fun q => hz' (List.mem_cons_of_mem _ q)) hl ih)
    (fun {a ob _ _} h hn hl _ ih => .scr (o := ob) h (nin a hn fun e => by rw [e, hD] at h; cases h) hl ih) (fun {n a} h => .ref (by
      have hl : n < r.length := (List.getElem?_eq_some_iff.mp h).1
      rw [List.getElem?_append_left hl]; exact h)) (fun h hd hl _ ih => .ptp h hd hl ih) .nil (fun _ _ a b => .cons a b) h
theorem RO.adopt {z r : List Addr} {H : Hp} {D : Addr} {ys : List V} (hD : H D = some (.lst ys)) {a : Addr} {x : SO} {v : HO} (h : RO (g.at (D :: z)) r H a x v) : RO (g.at z) (r ++ [D]) H a x v := by
  cases h with
  | lst hl h => exact .lst hl (h.adopt hD)
  | dK h1 hl h2 => exact .dK h1 hl (h2.adopt hD)
  | dN h1 hl h0 h2 => exact .dN h1 hl (h0.adopt hD) (h2.adopt hD)
  | lkK h => cases h with | dK h1 hl h2 => exact .lkK (.dK h1 hl (h2.adopt hD))
  | lkN h1 hl h0 h2 => exact .lkN h1 hl (h0.adopt hD) (h2.adopt hD)
theorem SR.adopt {z r r0 : List Addr} {H H0 : Hp} {S : Sto} {D : Addr} {xs : List Val} {ys : List V} (sr : SR (g.at (D :: z)) r H S) (hD : H D = some (.lst ys)) (hl : xs.length ≤ sizeLine) (rv : RVs (g.at (D :: z)) r H xs ys) (h0 : H0 D = none) (s : Step r0 H0 r H) (hz : D ∉ z) :
    SR (g.at z) (r ++ [D]) H (S ++ [.lst xs]) ∧ Step r0 H0 (r ++ [D]) H := by
  have hn : D ∉ r := sr.zr D List.mem_cons_self
  refine ⟨⟨by simp [sr.len], ?_, fun p hp => sr.zat p (List.mem_cons_of_mem _ hp), fun p hp q => ?_, fun i so a h1 h2 => ?_⟩, ⟨s.ext, ?_, fun b hb => ?_, s.frz⟩⟩
  · rw [List.nodup_append]
    exact ⟨sr.nd, by simp, fun a ha b hb e => by
      have : b = D := by simpa using hb
      rw [e, this] at ha
      exact hn ha⟩
  · rcases List.mem_append.mp q
          with q | q
    · exact sr.zr p (List.mem_cons_of_mem _ hp) q
    · have e : p = D := by simpa using q
      rw [e] at hp
      exact hz hp
  · by_cases hi : i < S.length
    · rw [List.getElem?_append_left hi] at h1
      rw [List.getElem?_append_left (by rw [sr.len]; exact hi)] at h2
      obtain ⟨u, hu, ro⟩ := sr.at_ i so a h1 h2
      exact ⟨u, hu, ro.adopt hD⟩
    · rw [List.getElem?_append_right (by omega)] at h1
      rw [List.getElem?_append_right (by rw [sr.len]; omega)] at h2
      have hi' : i - S.length = 0 := by
        have := (List.getElem?_eq_some_iff.mp h1).1
        simp at this
        omega
      rw [hi'] at h1
      rw [sr.len, hi'] at h2
      simp at h1 h2
      subst h1 h2
      exact ⟨_, hD, .lst hl (rv.adopt hD)⟩
  · obtain ⟨t, rfl⟩ := s.pre
    exact ⟨t ++ [D], by simp⟩
  · rcases List.mem_append.mp hb with q | q
    · exact s.new b q
    · right
      have e : b = D := by simpa using q
      rw [e]; exact h0
theorem d_lc {elt tg iter : Expr} {ifs : List Expr} {scope : Scope} {own : List (Str × Nat)} {it : MI} {t : Tn} {tt : MT} {m : ME} (hK : g.K = X.K) (hc : X.calm = true) (hN : X.N.Nodup) (hi : PI X tg iter (iD g it)) (ok : BlkOk X.N X.env.scope scope own) (hm : ∀ i ∈ t.all, i ∈ own.map (·.2))
    (hg : ∀ (s : Shared) (H : Hp) (C : Addr) (cl : List (Str × Addr)) (fp : List Addr), PG (X.blk s H scope (compEnvC scope cl C X.env) fp) tg (t.t X.K)) (ht : ∀ (s : Shared) (H : Hp) (C : Addr) (cl : List (Str × Addr)) (fp : List Addr), PTs (X.blk s H scope (compEnvC scope cl C X.env) fp) ifs (tDt g tt))
    (he : ∀ (s : Shared) (H : Hp) (C : Addr) (cl : List (Str × Addr)) (fp : List Addr), PE (X.blk s H scope (compEnvC scope cl C X.env) fp) elt (tD g m)) (hs : ∀ x, foldedSetIterable iter X.env x = pure x := by intro _; rfl) :
    PE X (.ListComp elt [⟨tg, iter, ifs, 0⟩] scope pos) (tD g (eLc t it tt m (own.map (·.2)))) := by
  refine PE.weak (pe_lc hc hN hi ok hg ht he hs) fun st H Q h => ?_
  obtain ⟨z, r, S, sl, v, S', R, e, q⟩ := h
  have e' : ((it sl S).bind fun p => lcX t tt m p.1 (wipeS sl (own.map (·.2))) p.1.l p.2) = (match v with | .lst xs => some (xs, S') | _ => none) ∧ ∃ xs, v = .lst xs := by
    simp only [eLc, Option.bind_eq_some_iff] at e
    obtain ⟨p, e1, w, e2, e3⟩ := e
    cases e3
    exact ⟨by simp [e1, e2], _, rfl⟩
  obtain ⟨e', xs, rfl⟩ := e'
  refine lc_read hK hm R e' fun r' H' D ys st' sr' hD hnr hnz hn hl rv _ => ?_
  exact q r' H' (.ref D) st' sr' (.lst hD hnr hnz hl (RVs.fewz (g := g.at (D :: z)) (fun p hp => List.mem_cons_of_mem _ hp) rv))
theorem d_lcM {elt tg iter : Expr} {ifs : List Expr} {scope : Scope} {own : List (Str × Nat)} {it : MI} {t : Tn} {tt : MT} {m : ME} (hK : g.K = X.K) (hc : X.calm = true) (hN : X.N.Nodup) (hi : PI X tg iter (iD g it)) (ok : BlkOk X.N X.env.scope scope own) (hm : ∀ i ∈ t.all, i ∈ own.map (·.2))
    (hg : ∀ (s : Shared) (H : Hp) (C : Addr) (cl : List (Str × Addr)) (fp : List Addr), PG (X.blk s H scope (compEnvC scope cl C X.env) fp) tg (t.t X.K)) (ht : ∀ (s : Shared) (H : Hp) (C : Addr) (cl : List (Str × Addr)) (fp : List Addr), PTs (X.blk s H scope (compEnvC scope cl C X.env) fp) ifs (tDt g tt))
    (he : ∀ (s : Shared) (H : Hp) (C : Addr) (cl : List (Str × Addr)) (fp : List Addr), PE (X.blk s H scope (compEnvC scope cl C X.env) fp) elt (tD g m)) (hs : ∀ x, foldedSetIterable iter X.env x = pure x := by intro _; rfl) :
    PE X (.ListComp elt [⟨tg, iter, ifs, 0⟩] scope pos) (tD g (eLcM t it tt m (own.map (·.2)))) := by
  refine PE.weak (pe_lc hc hN hi ok hg ht he hs) fun st H Q h => ?_
  obtain ⟨z, r, S, sl, v, S', R, e, q⟩ := h
  simp only [eLcM, Option.bind_eq_some_iff] at e
  obtain ⟨p, e1, w, e2, e3⟩ := e
  have e' : ((it sl S).bind fun p => lcX t tt m p.1 (wipeS sl (own.map (·.2))) p.1.l p.2) = some (w.1, w.2) := by simp [e1, e2]
  cases e3
  refine lc_read hK hm R e' fun r' H' D ys st' sr' hD hnr hnz hn hl rv srz => ?_
  obtain ⟨sr2, st2⟩ := SR.adopt (g := g) srz hD hl rv hn st' hnz
  refine q _ _ (.ref D) st2 sr2 (.ref ?_)
  rw [← sr'.len, List.getElem?_append_right (Nat.le_refl _)]
  simp
end
end Mp
namespace Mp
open PySem PySem.Spec
      PyProof.Rows L2

/-! ### what a set asks of its members -/
/-- asked in s, the answer is one of these, and nothing changes -/
def Asks (P : Program) (w : World) (m : Sem Bool) (ok : Bool → Prop) (s : Shared) : Prop := ∀ (A : Around) (E : Value → Shared → Prop) (Q : Bool → Shared → Prop), (∀ b, ok b → Q b s) → wpAny (model P w) A m Q E s
section
variable {P : Program} {w : World}
theorem cls_leaf (n : Nat) {v : Value} (h : ∀ a, v ≠ .ref a) : ofAClassStatement n v = pure false := by
  cases v <;> first | (cases n <;> rfl) | exact absurd rfl (h _)
theorem cls_step {n m : Nat} {s : Shared} {a : Addr} {o : Obj} {its : Array Value} (e1 : s.heap.get? a = some o) (e2 : o.cls = .type "tuple") (e3 : o.data = .seq its m) (all : ∀ v ∈ its.toList, Asks P w (ofAClassStatement n v) (· = false) s) : Asks P w (ofAClassStatement (n + 1) (.ref a)) (· = false) s := by
  intro A E Q q
  have ty : s.TypeIs (.ref a) "tuple" := ⟨o, e1, e2⟩
  unfold ofAClassStatement
  refine wpAny_bind (wpAny_typeOf ty ?_)
  have k : (("tuple" : String) == "tuple") = true := by decide
  dsimp only
  simp only [k, if_true, Bool.not_true, Bool.false_eq_true, if_false]
  try refine wpAny_bind
        (wpAny_pure ?_)
  try simp only [Bool.not_true,
        Bool.false_eq_true, if_false]
  refine wpAny_bind (wpAny_seqItems e1 e3 ?_)
  dsimp only
  refine wpAny_bind (m := forIn its _ _) ?_
  rw [← Array.forIn_toList]
  refine wpAny_forIn_list _ (fun rest z s' => (z.1 = none ∧ s' = s) ∧ ∀ v ∈ rest, Asks P w (ofAClassStatement n v) (· = false) s) _ (fun v rest z s' hz => ?_) (fun z s' hz => ?_) _ _ ⟨⟨rfl, rfl⟩, all⟩
  · obtain ⟨⟨z1, rfl⟩, z2⟩ := hz
    refine wpAny_bind (z2 v List.mem_cons_self A E _ fun b hb => ?_)
    subst hb
    simp only
          [Bool.false_eq_true, if_false]
    exact wpAny_pure ⟨⟨rfl, rfl⟩, fun u hu => z2 u (List.mem_cons_of_mem _ hu)⟩
  · obtain ⟨z1, z2⟩ := z
    obtain ⟨⟨y1, rfl⟩, _⟩ := hz
    have y1 : z1 = none := y1
    subst y1
    exact wpAny_pure (q false rfl)
mutual
theorem cls_key : ∀ (k : NestedKey) (v : Value) (n : Nat) (s : Shared), NestedIs s.heap k v → k.depth ≤ n → Asks P w (ofAClassStatement n v) (· = false) s
  | .none, _, n, s, x, _ => by cases x; rw [Asks, cls_leaf n (by intro _ z; cases z)]; exact fun A E Q q => wpAny_pure (q _ rfl)
  | .num i, _, n, s, x, _ => by cases x <;> (rw [Asks, cls_leaf n (by intro _ z; cases z)]; exact fun A E Q q => wpAny_pure (q _ rfl))
  | .text y, _, n, s, x, _ => by cases x; rw [Asks, cls_leaf n (by intro _ z; cases z)]; exact fun A E Q q => wpAny_pure (q _ rfl)
  | .tup ks, _, 0, s, x, hn => by simp [NestedKey.depth] at hn
  | .tup ks, _, n + 1, s, x, hn => by
    cases x with
    | tup e1 e2 e3 hk => exact cls_step e1 e2 e3 (cls_keys ks _ n s hk (by simp only [NestedKey.depth] at hn; omega))
theorem cls_keys : ∀ (ks : List NestedKey) (vs : List Value) (n : Nat) (s : Shared), NestedAll s.heap ks vs → NestedKey.depthAll ks ≤ n → ∀ v ∈ vs, Asks P w (ofAClassStatement n v) (· = false) s
  | [], _, n, s, x, _, v, hv
        => by cases x; cases hv
  | k :: ks, _, n, s,
        x, hn, v, hv => by
    cases x with
    | cons x1 x2 =>
      simp only
            [NestedKey.depthAll] at hn
      rcases List.mem_cons.mp hv
            with rfl | hv
      · exact cls_key k _ n s x1 (by omega)
      · exact cls_keys ks _ n s x2 (by omega) v hv
end
theorem byv_step {n m : Nat} {s : Shared} {a : Addr} {o : Obj} {its : Array Value} (e1 : s.heap.get? a = some o) (e2 : o.cls = .type "tuple") (e3 : o.data = .seq its m) (all : ∀ v ∈ its.toList, Asks P w (hashByValue n v) (fun _ => True) s) : Asks P w (hashByValue (n + 1) (.ref a)) (fun _ => True) s := by
  intro A E Q q
  have ty : s.TypeIs (.ref a) "tuple" := ⟨o, e1, e2⟩
  unfold hashByValue
  refine wpAny_bind (wpAny_specialOf ty F.slot_tuple_hash.lookup ?_)
  refine wpAny_bind (m := seqItems? (.ref a)) (wpAny_seqItems e1 e3 ?_)
  refine wpAny_bind (m := forIn its _ _) ?_
  rw [← Array.forIn_toList]
  refine wpAny_forIn_list _ (fun rest z s' => s' = s ∧ ∀ v ∈ rest, Asks P w (hashByValue n v) (fun _ => True) s) _ (fun v rest z s' hz => ?_) (fun z s' hz => ?_) _ _ ⟨rfl, all⟩
  · obtain ⟨rfl, z2⟩ := hz
    refine wpAny_bind (z2 v List.mem_cons_self A E _ fun b _ => ?_)
    cases b with
    | true =>
      simp only [Bool.not_true,
            Bool.false_eq_true, if_false]
      exact wpAny_pure ⟨rfl, fun u hu => z2 u (List.mem_cons_of_mem _ hu)⟩
    | false =>
      simp only
            [Bool.not_false, if_true]
      refine wpAny_pure ?_
      exact wpAny_pure (q false True.intro)
  · obtain ⟨z1, z2⟩ := z
    obtain ⟨rfl, _⟩ := hz
    cases z1 with
    | none => exact wpAny_pure (q true True.intro)
    | some b => exact wpAny_pure (q b True.intro)
mutual
theorem byv_key : ∀ (k : NestedKey) (v : Value) (n : Nat) (s : Shared), NestedIs s.heap k v → k.depth ≤ n → Asks P w (hashByValue n v) (fun _ => True) s
  | .none, _, n, s, x, _ => by cases x; cases n <;> exact fun A E Q q => wpAny_pure (q _ True.intro)
  | .num i, _, n, s, x, _ => by cases x <;> cases n <;> exact fun A E Q q => wpAny_pure (q _ True.intro)
  | .text y, _, n, s, x, _ => by cases x; cases n <;> exact fun A E Q q => wpAny_pure (q _ True.intro)
  | .tup ks, _, 0, s, x, hn => by simp [NestedKey.depth] at hn
  | .tup ks, _, n + 1, s, x, hn => by
    cases x with
    | tup e1 e2 e3 hk => exact byv_step e1 e2 e3 (byv_keys ks _ n s hk (by simp only [NestedKey.depth] at hn; omega))
theorem byv_keys : ∀ (ks : List NestedKey) (vs : List Value) (n : Nat) (s : Shared), NestedAll s.heap ks vs → NestedKey.depthAll ks ≤ n → ∀ v ∈ vs, Asks P w (hashByValue n v) (fun _ => True) s
  | [], _, n, s, x, _, v, hv
        => by cases x; cases hv
  | k :: ks, _, n, s,
        x, hn, v, hv => by
    cases x with
    | cons x1 x2 =>
      simp only
            [NestedKey.depthAll] at hn
      rcases List.mem_cons.mp hv
            with rfl | hv
      · exact byv_key k _ n s x1 (by omega)
      · exact byv_keys ks _ n s x2 (by omega) v hv
end
/-- the member k is the tuple at a -/
abbrev Mem1 (P : Program) (w : World) (h : Heap) (k : NestedKey) (a : Addr) : Prop := (nestedKind P w).is h k a
theorem Mem1.kept {h h' : Heap} {k : NestedKey} {a : Addr} (x : Mem1 P w h k a) (hk : ∀ b o vs n, h.get? b = some o → o.data = .seq vs n → h'.get? b = some o) : Mem1 P w h' k a := ⟨NestedIs.at hk k _ x.1, x.2⟩
theorem Mem1.all {h h' : Heap} {k : NestedKey} {a : Addr} (x : Mem1 P w h k a) (hk : ∀ b o, h.get? b = some o → h'.get? b = some o) : Mem1 P w h' k a := x.kept fun b o _ _ e _ => hk b o e
/-- a set's object changes, the member doesn't -/
theorem Mem1.but {h h' : Heap} {k : NestedKey} {a b : Addr} {o : Obj} {es : Array (Int × Value)} {ep : Nat} {t : SetTable} (x : Mem1 P w h k b) (e1 : h.get? a = some o) (e2 : o.data = .set es ep t) (sb : Heap.SameBut a h h') : Mem1 P w h' k b := x.kept fun c oc vs n hc hd => by
  refine (sb.2 c fun z => ?_).trans hc
  rw [z, e1] at hc
  cases hc
  rw [e2] at hd
  cases hd
/-- the search shows nothing -/
theorem quiet_search {s : Shared} {k : NestedKey} {a : Addr} (x : Mem1 P w s.heap k a) {ys : List Value} (hy : ∀ y ∈ ys, ∃ k' c, y = Value.ref c ∧ Mem1 P w s.heap k' c) : Asks P w (searchCouldBeSeen (.ref a) ys) (· = false) s := by
  intro A E Q q
  unfold searchCouldBeSeen
  refine wpAny_bind ?_
  refine wpAny_forIn_list _ (fun rest z s' => (z.1 = none ∧ s' = s) ∧ ∀ y ∈ rest, ∃ k' c, y = Value.ref c ∧ Mem1 P w s.heap k' c) _ (fun v rest z s' hz => ?_) (fun z s' hz => ?_) _ _ ⟨⟨rfl, rfl⟩, hy⟩
  · obtain ⟨⟨_, rfl⟩, z2⟩ := hz
    obtain ⟨k', c, rfl, hc⟩ := z2 v List.mem_cons_self
    dsimp only
    by_cases very : (a == c || (carriedByValue (.ref a) && carriedByValue (.ref c))) = true
    · refine wp_if_pos very ?_
      exact wpAny_pure ⟨⟨rfl, rfl⟩, fun u hu => z2 u (List.mem_cons_of_mem _ hu)⟩
    · refine wp_if_neg very ?_
      refine wpAny_bind ((nestedKind P w).quiet x ?_)
      simp only [Bool.not_true,
            Bool.false_eq_true, if_false]
      refine wpAny_bind ((nestedKind P w).quiet hc ?_)
      simp only [Bool.not_true,
            Bool.false_eq_true, if_false]
      refine wpAny_bind (cls_key k _ 8 _ x.1 x.2 A E _ fun b1 hb1 => ?_)
      subst hb1
      simp only
            [Bool.false_eq_true, if_false]
      refine wpAny_bind (cls_key k' _ 8 _ hc.1 hc.2 A E _ fun b2 hb2 => ?_)
      subst hb2
      simp only
            [Bool.false_eq_true, if_false]
      exact wpAny_pure ⟨⟨rfl, rfl⟩, fun u hu => z2 u (List.mem_cons_of_mem _ hu)⟩
  · obtain ⟨z1, z2⟩ := z
    obtain ⟨⟨y1, rfl⟩, _⟩ := hz
    have y1 : z1 = none := y1
    subst y1
    exact wpAny_pure (q false rfl)
end
end Mp
namespace Mp
open PySem PySem.Spec
      PyProof.Rows L2

/-! ### a set of nested tuples, by its table -/
abbrev Row := Addr × NestedKey
abbrev nh (w : World) (p : Row) : Int := p.2.hash w
def rowsN (w : World) (L : List Row) : List (Int × Value) := L.map fun p => (nh w p, Value.ref p.1)
structure SetN (P : Program) (w : World) (h : Heap) (a : Addr) (L : List Row) (es : Array (Int × Value)) (ep : Nat) (t : SetTable) : Prop where
  ob : ∃ o, h.get? a = some o
        ∧ o.ExactSet ∧ o.data = .set es ep t
  rows : es.toList = rowsN w L
  tab : TabOk t (L.map (nh w))
  nd : (L.map (·.2)).Nodup
  mem : ∀ p ∈ L, Mem1 P w h p.2 p.1
  led : w.params.followText "set-order"
        = true ∨ t.led = true
  room : L.length
        * 5 < t.mask * 3
  few : L.length < 64
theorem rowsN_length (w : World) (L : List Row) : (rowsN w L).length = L.length := by unfold rowsN; simp
theorem size_rows {w : World} {L : List Row} {es : Array (Int × Value)} (h : es.toList = rowsN w L) : es.size = L.length := by
  rw [← rowsN_length w L, ← h, Array.length_toList]
theorem fits_rows {t : SetTable} {n : Nat} (h1 : t.place.size = n) (h2 : t.dummies = #[]) (h3 : n ≤ t.mask) : t.fits n = true := by
  unfold SetTable.fits
        SetTable.fill
  rw [h2]
  simp [h1, h3]
theorem row_at {w : World} {L : List Row} {es : Array (Int × Value)} (h : es.toList = rowsN w L) {i : Nat} {p : Row} (e : L[i]? = some p) : es[i]? = some (nh w p, Value.ref p.1) := by
  rw [← Array.getElem?_toList, h]
  simp [rowsN, e]

section
variable {P : Program} {w : World} {A : Around} {E : Value → Shared → Prop} {s : Shared} {a : Addr} {L : List Row} {es : Array (Int × Value)} {ep : Nat} {t : SetTable}
theorem SetN.size (R : SetN P w s.heap a L es ep t) : es.size = L.length := size_rows R.rows
theorem SetN.pl (R : SetN P w s.heap a L es ep t) : t.place.toList.length = L.length := by
  have := R.tab.sz
  simpa using this
theorem SetN.fits (R : SetN P w s.heap a L es ep t) : t.fits es.size = true := by
  have h1 := R.tab.sz
  have h2 := R.room
  rw [R.size]
  exact fits_rows (by simpa using h1) R.tab.dm (by omega)
theorem odd_mask {t : SetTable} (h : MaskOk t.mask) : ¬ t.gaveWay = true := by
  unfold SetTable.gaveWay
  rcases h with e | e | e <;> rw [e] <;> decide

theorem way_shift (m : Nat) (h : Int) (c q : Nat) : (nth m (nth m (runAt m (SetTable.bits h % (m + 1)) (SetTable.bits h)) c) q).j = way m h (c + q) := by
  rw [← nth_add]
theorem nth_plain (m : Nat) : ∀ (n : Nat) (p : SetTable.Probe), p.dummy = none → (nth m p n).dummy = none
  | 0, _, h => h
  | n + 1, p, h => nth_plain m n (adv m p) (by unfold adv; split <;> exact h)

/-- from the c-th step on -/
theorem look_from (R : SetN P w s.heap a L es ep t) {x : Addr} {k : NestedKey} (hx : Mem1 P w s.heap k x) (hu : A.units + 8 < cLine) {K : Nat} (hKf : K < 10 * SetTable.turns t.mask)
    (hK : way t.mask (k.hash w) K ∉ t.place.toList) (hKb : ∀ c, c < K → way t.mask (k.hash w) c ∈ t.place.toList) {Q : SetFound → Shared → Prop}
    (yes : k ∈ L.map (·.2) → Q (.there none) s) (no : k ∉ L.map (·.2) → Q (.free (way t.mask (k.hash w) K) false) s) :
    ∀ (f c : Nat) (stand : Option SetTable.Probe), stand.getD (t.probeStart (k.hash w)) = nth t.mask (runAt t.mask (SetTable.bits (k.hash w) % (t.mask + 1)) (SetTable.bits (k.hash w))) c → c ≤ K → K - c < f →
      (∀ (i : Nat) (p : Row), L[i]? = some p → p.2 = k → ∃ c', c ≤ c' ∧ c' < K ∧ t.place.toList[i]? = some (way t.mask (k.hash w) c')) →
      wpAny (model P w) A (setSearchFrom a (.ref x) (k.hash w) true f stand) Q E s := by
  intro f
  induction f with
  | zero => intro c _ _ _ h; omega
  | succ f ih =>
    intro c stand hst hc hf hre
    obtain ⟨o, e1, e2, e3⟩ := R.ob
    have same : t.sameMemory t.moves t.mask = some true := by unfold SetTable.sameMemory; simp
    have hashAt : ∀ (i : Nat) (p : Row), L[i]? = some p → ((es[i]?.map (·.1)).getD 0) = nh w p := fun i p hp => by rw [row_at R.rows hp]; rfl
    rw [setSearchFrom_succ]
    refine wpAny_bind (wpAny_setState_of e1 e3 R.fits ?_)
    dsimp only
    refine wp_if_neg (odd_mask R.tab.mok) ?_
    try refine wpAny_bind
          (wpAny_pure ?_)
    rcases go_spec t R.tab.ris R.tab.dm (fun i => (es[i]?.map (·.1)).getD 0) (k.hash w) (10 * SetTable.turns t.mask) (K - c) (nth t.mask (runAt t.mask (SetTable.bits (k.hash w) % (t.mask + 1)) (SetTable.bits (k.hash w))) c)
      (nth_plain _ _ _ rfl) (by omega) (fun q hq => by rw [way_shift]; exact hKb _ (by omega)) (by rw [way_shift, show c + (K - c) = K by omega]; exact hK) with ⟨q, i, hq, hi, hh, hno, hpr⟩ | ⟨hno, hpr⟩
    · have hpr' : t.probe (fun i => (es[i]?.map (·.1)).getD 0) (k.hash w) (stand.getD (t.probeStart (k.hash w))) = some (.candidate (way t.mask (k.hash w) (c + q)) i (nth t.mask (runAt t.mask (SetTable.bits (k.hash w) % (t.mask + 1)) (SetTable.bits (k.hash w))) (c + (q + 1)))) := by
        rw [hst, ← way_shift, nth_add]
        exact hpr
      rw [hpr']
      dsimp only
      rw [way_shift] at hi
      have hil : i < L.length := by
        rw [← R.pl]
        exact (List.getElem?_eq_some_iff.mp hi).1
      obtain ⟨p, hp⟩ : ∃ p, L[i]? = some p := ⟨_, List.getElem?_eq_getElem hil⟩
      have pm : p ∈ L := List.mem_of_getElem? hp
      have hsl : t.slot (way t.mask (k.hash w) (c + q)) = .live i := slot_live R.tab.ris hi
      have rest : wpAny (model P w) A (searchRest a (.ref x) (k.hash w) true f es t (way t.mask (k.hash w) (c + q)) i (nth t.mask (runAt t.mask (SetTable.bits (k.hash w) % (t.mask + 1)) (SetTable.bits (k.hash w))) (c + (q + 1)))) Q E s := by
        unfold searchRest
        rw [row_at R.rows hp]
        dsimp only
        refine wpAny_bind (wpAny_holding ((nestedKind P w).eqBool hu (R.mem p pm) hx ?_))
        refine wpAny_bind (wpAny_setState_of e1 e3 R.fits ?_)
        dsimp only
        by_cases hkk : p.2 = k
        · refine wp_if_pos (by simp [hkk]) (wpAny_pure (yes ?_))
          rw [← hkk]
          exact List.mem_map_of_mem pm
        · refine wp_if_neg
                (by simp [hkk]) ?_
          try refine wpAny_bind
                (wpAny_pure ?_)
          rw [same]
          dsimp only
          simp only [if_true, hsl, row_at R.rows hp]
          refine wpAny_bind (wpAny_isSame_ref_self
                (wpAny_bind (wpAny_pure ?_)))
          simp only [if_true]
          refine wp_if_neg (by simp [hkk]) (ih (c + (q + 1)) _ rfl (by omega) (by omega) fun i0 p0 h0 hk0 => ?_)
          obtain ⟨c', a1, a2, a3⟩
                := hre i0 p0 h0 hk0
          refine ⟨c', ?_, a2, a3⟩
          rcases Nat.lt_trichotomy c' (c + q) with z | z | z
          · exact absurd ((hashAt i0 p0 h0).trans (congrArg (NestedKey.hash w) hk0)) (hno (c' - c) i0 (by omega) (by rw [way_shift, show c + (c' - c) = c' by omega]; exact a3))
          · rw [z] at a3
            have s0 := slot_live
                  R.tab.ris a3
            rw [hsl] at s0
            cases s0
            rw [hp] at h0
            cases h0
            exact absurd hk0 hkk
          · omega
      by_cases hl : t.led = true
      · refine wp_if_neg
              (by simp [hl]) ?_
        try refine wpAny_bind
              (wpAny_pure ?_)
        exact rest
      · refine wp_if_pos
              (by simp [hl]) ?_
        refine wpAny_bind (quiet_search hx (fun y hy => ?_) A E _ fun b hb => ?_)
        · obtain ⟨e, he, rfl⟩ := List.mem_map.mp hy
          have he2 : e ∈ es.toList := by
            have : e ∈ es ∧ e.1 = k.hash w := by simpa using he
            simpa using this.1
          rw [R.rows] at he2
          obtain ⟨p2, hp2, rfl⟩ := List.mem_map.mp he2
          exact ⟨p2.2, p2.1, rfl, R.mem p2 hp2⟩
        · subst hb
          refine wp_if_neg (by decide) ?_
          try refine wpAny_bind
                (wpAny_pure ?_)
          exact rest
    · have hpr' : t.probe (fun i => (es[i]?.map (·.1)).getD 0) (k.hash w) (stand.getD (t.probeStart (k.hash w))) = some (.empty (way t.mask (k.hash w) K) none) := by
        have ew : way t.mask (k.hash w) K = (nth t.mask (nth t.mask (runAt t.mask (SetTable.bits (k.hash w) % (t.mask + 1)) (SetTable.bits (k.hash w))) c) (K - c)).j := by rw [way_shift, show c + (K - c) = K by omega]
        rw [hst, ew]
        exact hpr
      rw [hpr']
      dsimp only
      refine wpAny_pure (no fun hm => ?_)
      obtain ⟨p0, h0, hk0⟩
            := List.mem_map.mp hm
      obtain ⟨i0, hi0⟩ := List.getElem?_of_mem h0
      obtain ⟨c', a1, a2, a3⟩ := hre i0 p0 hi0 hk0
      exact hno (c' - c) i0 (by omega) (by rw [way_shift, show c + (c' - c) = c' by omega]; exact a3) ((hashAt i0 p0 hi0).trans (congrArg (NestedKey.hash w) hk0))
theorem look_at (R : SetN P w s.heap a L es ep t) {x : Addr} {k : NestedKey} (hx : Mem1 P w s.heap k x) (hu : A.units + 8 < cLine) {Q : SetFound → Shared → Prop} (yes : k ∈ L.map (·.2) → Q (.there none) s)
    (no : ∀ K, k ∉ L.map (·.2) → way t.mask (k.hash w) K ∉ t.place.toList → (∀ c, c < K → way t.mask (k.hash w) c ∈ t.place.toList) → Q (.free (way t.mask (k.hash w) K) false) s) :
    wpAny (model P w) A (setSearch a (.ref x) (k.hash w) true) Q E s := by
  have hroom := R.room
  obtain ⟨K, hKf, hK, hKb⟩ := R.tab.first (by rw [List.length_map]; omega) (k.hash w)
  have small : K < 99999 := by
    have : SetTable.turns t.mask ≤ 142 := by
      unfold SetTable.turns
      rcases R.tab.mok
            with e | e | e <;> omega
    omega
  unfold setSearch
  refine look_from R hx hu hKf hK hKb yes (fun n => no K n hK hKb) _ 0 none rfl (Nat.zero_le _) (by omega) fun i p hp hk => ?_
  have hil : i <
        t.place.toList.length := by
    rw [R.pl]
    exact (List.getElem?_eq_some_iff.mp hp).1
  obtain ⟨c, hc, e⟩ := R.tab.before hK (i := i) (by rw [List.getElem?_map, hp, ← hk]; rfl) (List.getElem?_eq_getElem hil)
  exact ⟨c, Nat.zero_le _, hc, by rw [e, List.getElem?_eq_getElem hil]⟩
end
end Mp
namespace Mp
open PySem PySem.Spec
      PyProof.Rows L2

theorem fm_take {α : Type} (L : List α) : (List.range L.length).filterMap (fun i => L[i]?) = L := by
  induction L with
  | nil => rfl
  | cons x L ih =>
    rw [List.length_cons, List.range_succ_eq_map, List.filterMap_cons, List.filterMap_map]
    exact congrArg (x :: ·) ih
section
variable {P : Program} {w : World} {A : Around} {E : Value → Shared → Prop} {s : Shared} {a : Addr} {L : List Row} {es : Array (Int × Value)} {ep : Nat} {t : SetTable}
/-- the rows in another order -/
theorem rows_order {order : Array Nat} (hr : es.toList = rowsN w L) (hp : order.toList.Perm (List.range L.length)) :
    ∃ L2, (order.filterMap (es[·]?)).toList = rowsN w L2 ∧ L2.Perm L ∧ L2.map (nh w) = order.toList.map fun i => (es.map (·.1)).getD i 0 := by
  have key : ∀ l : List Nat, (∀ i ∈ l, i < L.length) → l.filterMap (fun i => es[i]?) = rowsN w (l.filterMap fun i => L[i]?) ∧ (l.filterMap fun i => L[i]?).map (nh w) = l.map fun i => (es.map (·.1)).getD i 0 := by
    intro l
    induction l with
    | nil => exact fun _ => ⟨rfl, rfl⟩
    | cons i l ih =>
      intro hl
      obtain ⟨x1, x2⟩ := ih fun j hj => hl j (List.mem_cons_of_mem _ hj)
      have hi := List.getElem?_eq_getElem (hl i List.mem_cons_self)
      have he := row_at hr hi
      rw [List.filterMap_cons_some he, List.filterMap_cons_some hi, x1]
      refine ⟨rfl, ?_⟩
      rw [List.map_cons, List.map_cons, x2, Array.getD_eq_getD_getElem?, Array.getElem?_map, he]
      rfl
  obtain ⟨x1, x2⟩ := key order.toList fun i hi => List.mem_range.mp (hp.mem_iff.mp hi)
  refine ⟨_, by rw [Array.toList_filterMap]; exact x1, ?_, x2⟩
  have := hp.filterMap fun i => L[i]?
  rwa [fm_take] at this
/-- laid anew -/
theorem again_at {o : Obj} (e1 : s.heap.get? a = some o) (e2 : o.ExactSet) (e3 : o.data = .set es ep t) (hr : es.toList = rowsN w L) (hz : t.place.size = L.length) (hd : t.dummies = #[]) (hm : L.length ≤ t.mask)
    (nd : (L.map (·.2)).Nodup) (mem : ∀ p ∈ L, Mem1 P w s.heap p.2 p.1) (ld : w.params.followText "set-order" = true ∨ t.led = true) (few : L.length < 64) {n M : Nat}
    (n1 : SetTable.sizeAbove n - 1 = M) (n2 : MaskOk M) (n3 : SetTable.sizeAbove n ≤ 128) (n4 : L.length * 5 < M * 3) {Q : Unit → Shared → Prop}
    (q : ∀ h' L' es' ep' t', Heap.SameBut a s.heap h' → SetN P w h' a L' es' ep' t' → L'.Perm L → Q () { s with heap := h' }) : wpAny (model P w) A (setRelay a n) Q E s := by
  have hs := size_rows hr
  obtain ⟨t', order, r1, r2, r3, r4, r5, r6, r7⟩ := relaid_ok t (hs := es.map (·.1)) (wanted := n) n1 n2 (by rw [Array.size_map, hs]; omega)
  rw [Array.size_map, hs] at r2
  obtain ⟨L2, o1, o2, o3⟩ := rows_order hr r2
  rw [← o3] at r3
  have hs2 : (order.filterMap (es[·]?)).size = es.size := by rw [size_rows o1, hs, o2.length_eq]
  rw [setRelay_eq]
  refine wpAny_bind (wpAny_setState_of e1 e3 (by rw [hs]; exact fits_rows hz hd hm) ?_)
  dsimp only
  refine wp_if_neg
        (by rw [sizeLine_eq]; omega) ?_
  try refine wpAny_bind
        (wpAny_pure ?_)
  rw [r1]
  dsimp only
  refine wpAny_bind (wp_if_neg (by rw [hs2]; simp) ?_)
  try refine wpAny_bind
        (wpAny_pure ?_)
  refine wpAny_pure ?_
  dsimp only
  have sb : Heap.SameBut a s.heap (s.heap.update a (Obj.putSet
        (order.filterMap (es[·]?)) t')) := Heap.SameBut.update ..
  refine wpAny_storeSet_of e1 e3 (q _ L2 _ (ep + 1) t' sb ⟨⟨_, store_at e1 e3, ⟨e2.1, e2.2.1, e2.2.2⟩, rfl⟩, o1, r3, (o2.map (·.2)).nodup_iff.mpr nd, fun p hp => (mem p (o2.mem_iff.mp hp)).but e1 e3 sb, by rw [r5]; exact ld, by rw [o2.length_eq, r4]; exact n4, by rw [o2.length_eq]; exact few⟩ o2) (by rw [hs2, hs, sizeLine_eq]; omega)

theorem tab_plain {t : SetTable} {hs : List Int} (T : TabOk t hs) (b : Bool) : TabOk { t with plain := b } hs := ⟨T.ris, T.dm, T.sz, T.mok, T.bd, T.reach⟩
/-- one more member -/
theorem put_at (R : SetN P w s.heap a L es ep t) {x : Addr} {k : NestedKey} (hx : Mem1 P w s.heap k x) (hu : A.units + 8 < cLine) (hfew : k ∉ L.map (·.2) → L.length + 1 < 64) {Q : Bool → Shared → Prop}
    (q : ∀ b h' L' es' ep' t', Heap.SameBut a s.heap h' → SetN P w h' a L' es' ep' t' → (k ∈ L.map (·.2) → L' = L) → (k ∉ L.map (·.2) → L'.Perm ((x, k) :: L)) → Q b { s with heap := h' }) :
    wpAny (model P w) A (setAddHashed a (.ref x) (k.hash w)) Q E s := by
  obtain ⟨o, e1, e2, e3⟩ := R.ob
  have hs := R.size
  have hroom := R.room
  unfold setAddHashed
  refine wpAny_holding ?_
  show wpAny _ _ (setAddHashedIn a (.ref x) (k.hash w) (99999 + 1)) _ _ _
  rw [setAddHashedIn_succ]
  refine wpAny_bind (wpAny_setState_of e1 e3 R.fits ?_)
  dsimp only
  refine wp_if_neg
        (by simp [byScan, Value.scannable]) ?_
  try refine wpAny_bind
        (wpAny_pure ?_)
  refine wpAny_bind (look_at R hx hu (fun hm => ?_) fun K hm hK hb => ?_)
  · exact wpAny_pure (q false s.heap L es ep t (Heap.SameBut.refl a s.heap) R (fun _ => rfl) fun z => absurd hm z)
  · dsimp only
    refine wpAny_bind (wpAny_setState_of e1 e3 R.fits ?_)
    dsimp only
    obtain ⟨p1, p2, p3, p4, p5, p6, p7, p8, p9⟩ := R.tab.put hK hb
    have hfew := hfew hm
    generalize hpt : t.put (way t.mask (k.hash w) K) = pt at p1 p3 p4 p5 p6 p7 p8 p9 ⊢
    obtain ⟨t1, at_⟩ := pt
    dsimp only at p1 p3 p4 p5 p6 p7 p8 p9 ⊢
    subst p1
    have pm := put_perm L (SetTable.below t.place (way t.mask (k.hash w) K)) (x, k)
    have hin : (SetTable.insertAt es (SetTable.below t.place (way t.mask (k.hash w) K)) (k.hash w, Value.ref x)).toList = rowsN w (L.take (SetTable.below t.place (way t.mask (k.hash w) K)) ++ (x, k) :: L.drop (SetTable.below t.place (way t.mask (k.hash w) K))) := by
      rw [SetTable.toList_insertAt, R.rows]
      simp [rowsN]
    have hhs : (L.map (nh w)).take (SetTable.below t.place (way t.mask (k.hash w) K)) ++ k.hash w :: (L.map (nh w)).drop (SetTable.below t.place (way t.mask (k.hash w) K)) = (L.take (SetTable.below t.place (way t.mask (k.hash w) K)) ++ (x, k) :: L.drop (SetTable.below t.place (way t.mask (k.hash w) K))).map (nh w) := by simp
    rw [hhs] at p3
    generalize SetTable.insertAt es (SetTable.below t.place (way t.mask (k.hash w) K)) (k.hash w, Value.ref x) = es1 at hin ⊢
    generalize L.take (SetTable.below t.place (way t.mask (k.hash w) K)) ++ (x, k) :: L.drop (SetTable.below t.place (way t.mask (k.hash w) K)) = L1 at pm p3 hin
    have hlen : L1.length = L.length + 1 := pm.length_eq
    have hs1 : es1.size = L.length + 1 := by rw [size_rows hin, hlen]
    have nd1 : (L1.map (·.2)).Nodup := (pm.map (·.2)).nodup_iff.mpr (List.nodup_cons.mpr ⟨hm, R.nd⟩)
    have go : ∀ tb : SetTable, TabOk tb (L1.map (nh w)) → tb.mask = t.mask → tb.led = t.led → tb.fill = L.length + 1 →
        wpAny (model P w) A (do storeSet a es1 tb; if (!false && tb.tooFull) = true then do { setRelay a (SetTable.grown (es.size + 1)); pure true } else pure true) Q E s := fun tb T b1 b2 b3 => by
      have sb : Heap.SameBut a s.heap (s.heap.update a (Obj.putSet es1 tb)) := Heap.SameBut.update ..
      have o1 := store_at (es' := es1) (t' := tb) e1 e3
      refine wpAny_bind (wpAny_storeSet_of e1 e3 ?_ (by rw [hs1, sizeLine_eq]; omega))
      generalize s.heap.update a (Obj.putSet es1 tb) = h1 at sb o1 ⊢
      have mem1 : ∀ p ∈ L1, Mem1 P w h1 p.2 p.1 := fun p hp => by
        rcases List.mem_cons.mp (pm.mem_iff.mp hp) with rfl | hp
        · exact hx.but e1 e3 sb
        · exact (R.mem p hp).but e1 e3 sb
      have ld1 : w.params.followText "set-order" = true ∨ tb.led = true := by rw [b2]; exact R.led
      by_cases full : tb.tooFull = true
      · refine wp_if_pos (by simp [full]) ?_
        have hf : t.mask * 3 ≤ (L.length + 1) * 5 := by
          have h := full
          unfold SetTable.tooFull at h
          rw [decide_eq_true_eq, b3, b1] at h
          exact h
        have sz1 : tb.place.size = L1.length := by
          have := T.sz
          simpa using this
        have two : (t.mask = 7 ∧ L.length = 4) ∨ (t.mask = 31 ∧ L.length = 18) := by rcases R.tab.mok with e | e | e <;> omega
        refine wpAny_bind ?_
        rw [hs]
        rcases two with ⟨m1, m2⟩ | ⟨m1, m2⟩
        · exact again_at (s := { s with heap := h1 }) (M := 31) o1 ⟨e2.1, e2.2.1, e2.2.2⟩ rfl hin sz1 T.dm (by omega) nd1 mem1 ld1 (by omega) (by rw [m2, size_20]) (.inr (.inl rfl)) (by rw [m2, size_20]; decide) (by omega) fun h2 L2 es2 ep2 t2 sb2 R2 pm2 => wpAny_pure (q true h2 L2 es2 ep2 t2 (sb.trans sb2) R2 (fun z => absurd z hm) fun _ => pm2.trans pm)
        · exact again_at (s := { s with heap := h1 }) (M := 127) o1 ⟨e2.1, e2.2.1, e2.2.2⟩ rfl hin sz1 T.dm (by omega) nd1 mem1 ld1 (by omega) (by rw [m2, size_76]) (.inr (.inr rfl)) (by rw [m2, size_76]; decide) (by omega) fun h2 L2 es2 ep2 t2 sb2 R2 pm2 => wpAny_pure (q true h2 L2 es2 ep2 t2 (sb.trans sb2) R2 (fun z => absurd z hm) fun _ => pm2.trans pm)
      · refine wp_if_neg (by simp [full]) ?_
        have hf : (L.length + 1) * 5 < t.mask * 3 := by
          have h := full
          unfold SetTable.tooFull at h
          rw [decide_eq_true_eq, b3, b1] at h
          omega
        exact wpAny_pure (q true h1 L1 es1 (ep + 1) tb sb ⟨⟨_, o1, ⟨e2.1, e2.2.1, e2.2.2⟩, rfl⟩, hin, T, nd1, mem1, ld1, by rw [hlen, b1]; exact hf, by rw [hlen]; exact hfew⟩ (fun z => absurd z hm) fun _ => pm)
    rw [List.length_map] at p9
    have both : ∀ b : Bool, wpAny (model P w) A (do storeSet a es1 (if b = true then t1 else { t1 with plain := false }); if (!false && (if b = true then t1 else { t1 with plain := false }).tooFull) = true then do { setRelay a (SetTable.grown (es.size + 1)); pure true } else pure true) Q E s := fun b => by
      cases b with
      | true => exact go t1 p3 p4 p5 p9
      | false => exact go { t1 with plain := false } (tab_plain p3 false) p4 p5 p9
    by_cases pl : t1.plain = true
    · refine wp_if_pos pl (wpAny_bind (byv_key k _ 8 s hx.1 hx.2 A E _ fun b _ => both b))
    · refine wp_if_neg pl (wpAny_bind (wpAny_pure (both true)))
end
end Mp
namespace Mp
open PySem PySem.Spec
      PyProof.Rows L2

/-! ### set(list) -/
structure Had (ks : List Row) (i : Nat) (L : List Row) : Prop where
  sub : ∀ p ∈ L, p ∈ ks.take i
  all : ∀ p ∈ ks.take
        i, p.2 ∈ L.map (·.2)
theorem take_one {α : Type} {l : List α} {i : Nat} {x : α} (h : l[i]? = some x) : l.take (i + 1) = l.take i ++ [x] := by rw [List.take_succ, h]; rfl
theorem Had.same {ks L : List Row} {i : Nat} {x : Row} (g : Had ks i L) (h : ks[i]? = some x) (hm : x.2 ∈ L.map (·.2)) : Had ks (i + 1) L := by
  constructor
  · exact fun p hp => by rw [take_one h]; exact List.mem_append_left _ (g.sub p hp)
  · intro p hp
    rw [take_one h, List.mem_append, List.mem_singleton] at hp
    rcases hp with hp | rfl
    · exact g.all p hp
    · exact hm
theorem Had.more {ks L L' : List Row} {i : Nat} {x : Row} (g : Had ks i L) (h : ks[i]? = some x) (pm : L'.Perm (x :: L)) : Had ks (i + 1) L' := by
  constructor
  · intro p hp
    rw [take_one h, List.mem_append, List.mem_singleton]
    rcases List.mem_cons.mp (pm.mem_iff.mp hp) with rfl | hp
    · exact .inr rfl
    · exact .inl (g.sub p hp)
  · intro p hp
    rw [(pm.map (·.2)).mem_iff, List.map_cons, List.mem_cons]
    rw [take_one h, List.mem_append, List.mem_singleton] at hp
    rcases hp with hp | rfl
    · exact .inr (g.all p hp)
    · exact .inl rfl
/-- the members are fewer than 64 -/
def Few (ks : List Row) : Prop := ∀ L : List Row, (L.map (·.2)).Nodup → (∀ p ∈ L, p ∈ ks) → L.length < 64
section
variable {P : Program} {w : World} {A : Around}
      {E : Value → Shared → Prop} {s : Shared}
theorem SetN.kept {h h' : Heap} {a : Addr} {L : List Row} {es : Array (Int × Value)} {ep : Nat} {t : SetTable} (R : SetN P w h a L es ep t) (k1 : ∀ o, h.get? a = some o → h'.get? a = some o) (k2 : ∀ p ∈ L, Mem1 P w h' p.2 p.1) : SetN P w h' a L es ep t := by
  obtain ⟨o, e, r⟩ := R.ob
  exact { R with ob := ⟨o, k1 o e, r⟩, mem := k2 }
abbrev freshSet (w : World) : Obj := { cls := .type "set", dict := none, data := .set #[] 0 (.fresh 0 0 (!w.params.followText "set-order")) }
theorem setN_fresh {h : Heap} {a : Addr} (e : h.get? a = some (freshSet w)) : SetN P w h a [] #[] 0 (.fresh 0 0 (!w.params.followText "set-order")) := by
  refine ⟨⟨_, e, ⟨rfl, rfl, rfl⟩, rfl⟩, rfl, ⟨List.Pairwise.nil, rfl, rfl, .inl rfl, fun x hx => (by cases hx), fun i h j hi => (by simp at hi)⟩, List.nodup_nil, fun p hp => (by cases hp), ?_, ?_, ?_⟩
  · by_cases hf : w.params.followText "set-order" = true
    · exact .inl hf
    · exact .inr (by show (!w.params.followText "set-order") = true; simp [hf])
  · exact (by decide : 0 * 5 < 7 * 3)
  · exact (by decide : 0 < 64)
theorem loop_at {I : Addr} {fp wr : List Addr} {G : Array GenState → Array GenState → Prop} {n : Nat} {Pv : Nat → Value → Prop} {St : Nat → Shared → Prop} {R : Result → Shared → Prop}
    (W : WalksS P w A.in1 I fp wr G n Pv St) {D : Addr} (hD : D ∉ fp) {ks : List Row} (hn : n = ks.length) (few : Few ks) (hval : ∀ i v, Pv i v → ∃ p, ks[i]? = some p ∧ v = .ref p.1)
    {h0 : Heap} (hk : ∀ p ∈ ks, Mem1 P w h0 p.2 p.1) (hD0 : h0.get? D = none) (hw0 : ∀ b ∈ wr, h0.get? b = none) (hu : A.in1.units + 8 < cLine) :
    ∀ (j i : Nat) (s : Shared), n - i = j → i ≤ n → St i s → (∀ b o, h0.get? b = some o → s.heap.get? b = some o) → (∃ L es ep t, SetN P w s.heap D L es ep t ∧ Had ks i L) →
      (∀ s' L es ep t, Moved (D :: wr) G s s' → SetN P w s'.heap D L es ep t → Had ks n L → (∀ b o, h0.get? b = some o → s'.heap.get? b = some o) → R (.ok (.ret .none)) s') →
      codeAny (model P w) A (.builtin "set.update.loop" ⟨[.ref D, .ref I], []⟩) R s := by
  have dw : D ∉ wr := fun z => hD (W.sub _ z)
  have keep : ∀ {s s' : Shared}, Moved wr G s s' → (∀ b o, h0.get? b = some o → s.heap.get? b = some o) → ∀ b o, h0.get? b = some o → s'.heap.get? b = some o := fun m k b o e => m.heap b o (fun z => by rw [hw0 b z] at e; cases e) (k b o e)
  have subs : ∀ b ∈ wr, b ∈ D :: wr := fun b hb => List.mem_cons_of_mem _ hb
  have memL : ∀ {L : List Row} {i : Nat}, Had ks i L → ∀ p ∈ L, p ∈ ks := fun g p hp => List.mem_of_mem_take (g.sub p hp)
  intro j
  induction j with
  | zero =>
    intro i s hj hi hst kp hL hR
    obtain ⟨L, es, ep, t, hS, g⟩ := hL
    obtain rfl : i = n := by omega
    refine codeAny_builtin
          F.entry_set_update_loop ?_
    rw [Around.under_plainId
          F.plain_set_update_loop _]
    refine wpAny_bind (m := pyNext (.ref I)) (W.done s _ _ hst fun s' m => ?_)
    have kp' := keep m kp
    refine wpAny_pure (hR s' L es ep t (m.mono subs) (hS.kept (fun o e => m.heap D o dw e) fun p hp => (hk p (memL g p hp)).all kp') g kp')
  | succ j ih =>
    intro i s hj hi hst kp hL hR
    obtain ⟨L, es, ep, t, hS, g⟩ := hL
    have lt : i < n := by omega
    refine codeAny_builtin
          F.entry_set_update_loop ?_
    rw [Around.under_plainId
          F.plain_set_update_loop _]
    refine wpAny_bind (m := pyNext (.ref I)) (W.item i s _ _ lt hst fun v s' hP hst' m => ?_)
    obtain ⟨p, hp, rfl⟩
          := hval i v hP
    have kp' := keep m kp
    have hS' : SetN P w s'.heap D L es ep t := hS.kept (fun o e => m.heap D o dw e) fun x hx => (hk x (memL g x hx)).all kp'
    have px : p ∈ ks := List.mem_of_getElem? hp
    have hx : Mem1 P w s'.heap p.2 p.1 := (hk p px).all kp'
    refine wpAny_bind (m := holding [Value.ref p.1] (setAdd D (.ref p.1))) (wpAny_holding ?_)
    unfold setAdd
    refine wpAny_holding (wpAny_bind ((nestedKind P w).pyHash hu hx ?_))
    refine put_at (s := { s' with toks := s'.toks + (nestedKind P w).draws p.2 }) hS' hx hu (fun hn => few ((p.1, p.2) :: L) (by rw [List.map_cons]; exact List.nodup_cons.mpr ⟨hn, hS'.nd⟩) fun x hx' => by
      rcases List.mem_cons.mp hx' with rfl | hx'
      · exact px
      · exact memL g x hx') fun b h' L' es' ep' t' sb R' c1 c2 => ?_
    have g' : Had ks (i + 1) L' := by
      by_cases c : p.2 ∈ L.map (·.2)
      · rw [c1 c]; exact
              g.same hp c
      · exact g.more hp (c2 c)
    have kp2 : ∀ b o, h0.get? b = some o → h'.get? b = some o := fun b o e => (sb.2 b (fun z => by rw [z, hD0] at e; cases e)).trans (kp' b o e)
    refine wpAny_pure ⟨plainId_quiet F.plain_set_update_loop _, ih (i + 1) _ (by omega) lt (W.frame _ s' _ _ hst' (Nat.le_add_right _ _) fun b hb o e => ?_) kp2 ⟨L', es', ep', t', R', g'⟩ fun s2 L2 es2 ep2 t2 m2 R2 g2 kp3 => ?_⟩
    · rw [sb.2 b fun z => hD (z ▸ hb)]; exact e
    · refine hR s2 L2 es2 ep2 t2 (Moved.trans W.gtrans ((m.mono subs).then_heap (Nat.le_add_right _ _) fun b o hb e => ?_) m2) R2 g2 kp3
      rw [sb.2 b fun z => hb (z ▸ List.mem_cons_self)]; exact e
end
end Mp
namespace Mp
open PySem PySem.Spec PySem.Calls PyProof.Rows L2
section
variable {P : Program} {w : World} {A : Around}
      {E : Value → Shared → Prop} {s : Shared}
set_option maxHeartbeats 3200000
  in
/-- T(x) for T the type set: what its init does -/
theorem set_shell {x : Value} {Z : Shared → Prop} {Q : Value → Shared → Prop} (init : wpAny (model P w) A.in1.in1 (Builtin.«set.__init__» ⟨[.ref s.heap.objs.size, x], []⟩) (fun f s2 => f = .done (.ret .none) ∧ Z s2) E { s with heap := s.heap.push (freshSet w) })
    (q : ∀ s2, Z s2 → Q (.ref s.heap.objs.size) s2) : wpAny (model P w) A (call (.type "set") [x]) Q E s := by
  obtain ⟨c, tl, hmro⟩
        := F.called_set.mro
  have made := F.called_set.made
  have sub := F.called_set.sub
  refine wpAny_call
        (codeAny_of_tree ?_)
  show wpAny _ _ (callAny
        (.type "set") _) _ _ _
  refine wpAny_pure ⟨Code.quiet_builtin _
        (by decide +kernel), codeAny_builtin F.entry_type_call ?_⟩
  rw [Around.under_plain (weight_type_call_type "set" [x] []) rfl]
  have c1 := F.called_set.notType
  have c2 := F.called_set.canCreate
  have c3 := F.typeCall_set_1 x
  repeat any_goals first | assumption | wp_step
  refine codeAny_mono (code_set_led1 x (E := E) (Q₁ := fun v s1 => v = .ref s.heap.objs.size ∧ s1 = { s with heap := s.heap.push (freshSet w) }) ⟨rfl, rfl⟩) fun r s1 hr => ?_
  cases r with
  | error e => exact hr
  | ok fl =>
    cases fl with
    | ret v =>
      obtain ⟨rfl, rfl⟩ := hr
      have hD : (s.heap.push (freshSet w)).get? s.heap.objs.size = some (freshSet w) := Heap.get?_push_size _ rfl
      have ty : Shared.TypeIs { s with heap := s.heap.push (freshSet w) } (.ref s.heap.objs.size) "set" := ⟨_, hD, rfl⟩
      have i1 := F.called_set.init.lookup
      have i2 := F.called_set.init.bind (.ref s.heap.objs.size)
      repeat any_goals first | assumption | wp_step
      refine codeAny_mono (codeAny_call_builtin (R := wants (fun v s2 => v = .none ∧ Z s2) E) F.called_set.init.plain F.entry_set_init (check_set_init_1 ty ?_)) fun r2 s2 hr2 => ?_
      · exact wpAny_mono init (fun f s2 z => by obtain ⟨rfl, z⟩ := z; exact ⟨rfl, z⟩) fun _ _ z => z
      · cases r2 with
        | error e => exact hr2
        | ok fl2 =>
          cases fl2 with
          | ret v =>
            obtain ⟨rfl, z⟩ := hr2
            repeat any_goals first | assumption | wp_step
            exact q _ z
          | _ => exact hr2.elim
    | _ => exact hr.elim
set_option maxHeartbeats 1600000
  in
/-- set(list), of nested tuples -/
theorem set_of_list {l : Addr} {items : Array Value} {ks : List Row} {Q : Value → Shared → Prop} (hh : A.handled = none) (hl : s.heap.IsList l items) (hit : items.toList = ks.map fun p => Value.ref p.1)
    (hk : ∀ p ∈ ks, Mem1 P w s.heap p.2 p.1) (few : Few ks) (hu : A.units + 12 < cLine)
    (q : ∀ (h' : Heap) (tk : Nat) L es ep t, SetN P w h' s.heap.objs.size L es ep t → Had ks ks.length L → (∀ b o, s.heap.get? b = some o → h'.get? b = some o) → Q (.ref s.heap.objs.size) { s with heap := h', toks := tk }) :
    wpAny (model P w) A (call
          (.type "set") [.ref l]) Q E s := by
  refine set_shell (Z := fun s2 => ∃ h' tk L es ep t, s2 = { s with heap := h', toks := tk } ∧ SetN P w h' s.heap.objs.size L es ep t ∧ Had ks ks.length L ∧ (∀ b o, s.heap.get? b = some o → h'.get? b = some o)) ?_ fun s2 ⟨h', tk, L, es, ep, t, e, R, g, k⟩ => by
    subst e
    exact q _ _ _ _ _ _ R g k
  have isz : items.size = ks.length := by rw [← Array.length_toList, hit, List.length_map]
  have none_at : ∀ b, s.heap.objs.size ≤ b → s.heap.get? b = none := fun b hb => by
    cases e : s.heap.get? b with
    | none => rfl
    | some o => exact absurd (Heap.lt_size e) (Nat.not_lt.mpr hb)
  have hD : (s.heap.push (freshSet w)).get? s.heap.objs.size = some (freshSet w) := Heap.get?_push_size _ rfl
  have ty : Shared.TypeIs { s with heap := s.heap.push (freshSet w) } (.ref s.heap.objs.size) "set" := ⟨_, hD, rfl⟩
  obtain ⟨ol, l1, l2, nl, l3⟩ := hl
  obtain ⟨oc, od, dt, sl⟩ := ol
  simp only at l2 l3
  subst l2 l3
  have l4 : (s.heap.push (freshSet w)).get? l = some { cls := .type "list", dict := od, data := .seq items nl, slots := sl } := Heap.get?_push_of_some _ l1
  have s1 := F.sub_list_set
  have s2 := F.sub_list_frozenset
  have s3 : (Value.type "list" == Value.type "dict") = false := by decide
  have l5 : (s.heap.push (freshSet w)).IsList l items := ⟨_, l4, rfl, nl, rfl⟩
  unfold Builtin.«set.__init__»
        noKeywords Builtin.Frozenset.updateFrom
  generalize hIter : pyIter = iter0
  wp_walk
  subst hIter
  refine wpAny_pyIter_list l5 (wpAny_bind (wpAny_runValue ?_))
  have ll : l < s.heap.objs.size := Heap.lt_size l1
  have z1 : (s.heap.push (freshSet w)).objs.size = s.heap.objs.size + 1 := Heap.size_push ..
  have ne : l ≠ (s.heap.push (freshSet w)).objs.size := by rw [z1]; exact Nat.ne_of_lt (Nat.lt_succ_of_lt ll)
  have nD : s.heap.objs.size ∉ [(s.heap.push (freshSet w)).objs.size, l] := by
    rw [z1]
    simp only [List.mem_cons, List.not_mem_nil, or_false, not_or]
    exact ⟨Nat.ne_of_lt (Nat.lt_succ_self _), Nat.ne_of_gt ll⟩
  refine loop_at ((Walks.list (by simp [hh]) _ l ne items).toS) nD isz few (fun i v hv => ?_) hk (none_at _ (Nat.le_refl _)) (fun b hb => none_at b (by rw [List.mem_singleton.mp hb, z1]; exact Nat.le_succ _)) (by have e : A.in1.in1.in1.units ≤ A.units + 3 := (by simp [Around.in1]); omega) (items.size - 0) 0 _ (by omega) (Nat.zero_le _)
    ⟨⟨_, Heap.get?_push_size _ rfl, rfl, rfl⟩, l5.push _⟩ (fun b o e => Heap.get?_push_of_some _ (Heap.get?_push_of_some _ e)) ⟨[], #[], 0, _, setN_fresh (Heap.get?_push_of_some _ hD), ⟨fun p hp => (by cases hp), fun p hp => (by simp at hp)⟩⟩ fun s' L es ep t m R g k => ?_
  · have e : items.toList[i]? = some v := by rw [Array.getElem?_toList]; exact hv
    rw [hit, List.getElem?_map, Option.map_eq_some_iff] at e
    obtain ⟨p, e1, e2⟩ := e
    exact ⟨p, e1, e2.symm⟩
  · obtain ⟨h', g',
          d', tk', os'⟩ := s'
    obtain rfl : g' = s.gens := m.gens
    obtain rfl : d' = s.drawn := m.drawn
    obtain rfl : os' = s.os := m.os
    rw [isz] at g
    refine wpAny_pure ?_
    exact wpAny_pure ⟨rfl, h', tk', L, es, ep, t, rfl, R, g, k⟩
set_option maxHeartbeats 1600000
  in
/-- set(tuple), of nested tuples -/
theorem set_of_tuple {l : Addr} {items : Array Value} {ks : List Row} {Q : Value → Shared → Prop} (hh : A.handled = none) (hl : s.heap.IsTuple l items) (hit : items.toList = ks.map fun p => Value.ref p.1)
    (hk : ∀ p ∈ ks, Mem1 P w s.heap p.2 p.1) (few : Few ks) (hu : A.units + 12 < cLine)
    (q : ∀ (h' : Heap) (tk : Nat) L es ep t, SetN P w h' s.heap.objs.size L es ep t → Had ks ks.length L → (∀ b o, s.heap.get? b = some o → h'.get? b = some o) → Q (.ref s.heap.objs.size) { s with heap := h', toks := tk }) :
    wpAny (model P w) A (call
          (.type "set") [.ref l]) Q E s := by
  refine set_shell (Z := fun s2 => ∃ h' tk L es ep t, s2 = { s with heap := h', toks := tk } ∧ SetN P w h' s.heap.objs.size L es ep t ∧ Had ks ks.length L ∧ (∀ b o, s.heap.get? b = some o → h'.get? b = some o)) ?_ fun s2 ⟨h', tk, L, es, ep, t, e, R, g, k⟩ => by
    subst e
    exact q _ _ _ _ _ _ R g k
  have isz : items.size = ks.length := by rw [← Array.length_toList, hit, List.length_map]
  have none_at : ∀ b, s.heap.objs.size ≤ b → s.heap.get? b = none := fun b hb => by
    cases e : s.heap.get? b with
    | none => rfl
    | some o => exact absurd (Heap.lt_size e) (Nat.not_lt.mpr hb)
  have hD : (s.heap.push (freshSet w)).get? s.heap.objs.size = some (freshSet w) := Heap.get?_push_size _ rfl
  have ty : Shared.TypeIs { s with heap := s.heap.push (freshSet w) } (.ref s.heap.objs.size) "set" := ⟨_, hD, rfl⟩
  obtain ⟨ol, l1, l2, nl, l3⟩ := hl
  obtain ⟨oc, od, dt, sl⟩ := ol
  simp only at l2 l3
  subst l2 l3
  have l4 : (s.heap.push (freshSet w)).get? l = some { cls := .type "tuple", dict := od, data := .seq items nl, slots := sl } := Heap.get?_push_of_some _ l1
  have s1 := F.sub_tuple_set
  have s2 := F.sub_tuple_frozenset
  have s3 : (Value.type "tuple" == Value.type "dict") = false := by decide
  have l5 : (s.heap.push (freshSet w)).IsTuple l items := ⟨_, l4, rfl, nl, rfl⟩
  unfold Builtin.«set.__init__»
        noKeywords Builtin.Frozenset.updateFrom
  generalize hIter : pyIter = iter0
  wp_walk
  subst hIter
  refine wpAny_pyIter_tuple l5 (wpAny_bind (wpAny_runValue ?_))
  have ll : l < s.heap.objs.size := Heap.lt_size l1
  have z1 : (s.heap.push (freshSet w)).objs.size = s.heap.objs.size + 1 := Heap.size_push ..
  have ne : l ≠ (s.heap.push (freshSet w)).objs.size := by rw [z1]; exact Nat.ne_of_lt (Nat.lt_succ_of_lt ll)
  have nD : s.heap.objs.size ∉ [(s.heap.push (freshSet w)).objs.size, l] := by
    rw [z1]
    simp only [List.mem_cons, List.not_mem_nil, or_false, not_or]
    exact ⟨Nat.ne_of_lt (Nat.lt_succ_self _), Nat.ne_of_gt ll⟩
  refine loop_at ((Walks.tuple (by simp [hh]) _ l ne items).toS) nD isz few (fun i v hv => ?_) hk (none_at _ (Nat.le_refl _)) (fun b hb => none_at b (by rw [List.mem_singleton.mp hb, z1]; exact Nat.le_succ _)) (by have e : A.in1.in1.in1.units ≤ A.units + 3 := (by simp [Around.in1]); omega) (items.size - 0) 0 _ (by omega) (Nat.zero_le _)
    ⟨⟨_, Heap.get?_push_size _ rfl, rfl, rfl⟩, l5.push _⟩ (fun b o e => Heap.get?_push_of_some _ (Heap.get?_push_of_some _ e)) ⟨[], #[], 0, _, setN_fresh (Heap.get?_push_of_some _ hD), ⟨fun p hp => (by cases hp), fun p hp => (by simp at hp)⟩⟩ fun s' L es ep t m R g k => ?_
  · have e : items.toList[i]? = some v := by rw [Array.getElem?_toList]; exact hv
    rw [hit, List.getElem?_map, Option.map_eq_some_iff] at e
    obtain ⟨p, e1, e2⟩ := e
    exact ⟨p, e1, e2.symm⟩
  · obtain ⟨h', g',
          d', tk', os'⟩ := s'
    obtain rfl : g' = s.gens := m.gens
    obtain rfl : d' = s.drawn := m.drawn
    obtain rfl : os' = s.os := m.os
    rw [isz] at g
    refine wpAny_pure ?_
    exact wpAny_pure ⟨rfl, h', tk', L, es, ep, t, rfl, R, g, k⟩
end
end Mp
namespace Mt
open PySem PySem.SeqAt PyProof.Rows PySem.W

/-! ### sorting tuples of which some are empty -/
section
variable {prog : Program}
      {w : World} {A : Around} {E : Value → Shared → Prop} {s : Shared}
theorem call_tuple_lt {Q : Value → Shared → Prop} {l b : Addr} {items items2 : Array Value} {e r : Nat → Bool} (hl : s.heap.IsTuple l items) (hb : s.heap.IsTuple b items2)
    (he : ∀ j (h1 : j < items.size) (h2 : j < items2.size), EqAt A.in1 s items[j] items2[j] (e j)) (hr : ∀ j
          (h1 : j < items.size) (h2 : j < items2.size), e j = false → RcLt A.in1 s items[j] items2[j] (r j))
    (h : Q (.bool (firstLt e r (decide (items.size < items2.size)) (List.range (min items.size items2.size)))) s) : wpAny (model prog w) A (call (.builtin "tuple.__lt__") [.ref l, .ref b]) Q E s := by
  obtain ⟨⟨cls, dd, data, sl⟩,
        ho, hc, n, hd⟩ := id hl
  obtain ⟨⟨cls2, dd2, data2, sl2⟩,
        ho2, hc2, n2, hd2⟩ := id hb
  simp only at hc hd hc2 hd2
  subst hc hd hc2 hd2
  exact call_meets F.slot_tuple_lt ⟨_, ho, rfl⟩ F.entry_tuple_lt (F.args_tuple_lt_2 _ _) (tuple_ltAt l b items items2 n n2 dd dd2 sl sl2 e r) ⟨ho, ho2, he, hr, h⟩
/-- one tuple against another, whatever their lengths -/
theorem oneLt_tups {f : Bool} {xs ys : List PyData} {a b : Value} {as bs : List Addr} {Q : Bool → Shared → Prop} (ra : Reads s.heap a (.tuple xs) as) (rb : Reads s.heap b (.tuple ys) bs) (h : alike (.tuple xs) (.tuple ys) = true)
    (hu : A.units + min (PyData.tuple xs).depth (PyData.tuple ys).depth < cLine) (hq : Q (dataLt (.tuple xs) (.tuple ys)) s) : wpAny (model prog w) A (oneLt' f a b) Q E s := by
  cases f with
  | false => exact oneLt_alike (fun z => by cases z) ra rb h (by simp) hu hq
  | true =>
    have hal : alikeAll xs ys
          = true := by simpa [alike] using h
    cases ra with
    | @tuple l o vs n _
          as₁ h1 h2 h3 h4 =>
      cases rb with
      | @tuple l' o' vs' n'
            _ bs₁ k1 k2 k3 k4 =>
        have n1 : vs.size = xs.length :=
              by simpa using ReadsAll.length _ _ _ h4
        have n2 : vs'.size = ys.length :=
              by simpa using ReadsAll.length _ _ _ k4
        rw [dataLt_tuple, ← firstLt_toks xs ys hal, ← n1, ← n2] at hq
        rw [oneLt'_eq]
        simp only [if_true]
        refine wpAny_bind (wpAny_cRoomFor
              (room_here hu) ?_)
        refine wpAny_bind (wpAny_callSpecialIfBound?_slot (T := "tuple") ⟨_, h1, h2⟩ F.slot_tuple_lt (call_tuple_lt (e := pairEq xs ys) (r := fun j => dataLt (xs.getD j .none) (ys.getD j .none)) ⟨_, h1, h2, _, h3⟩ ⟨_, k1, k2, _, k3⟩ (fun j j1 j2 => ?_) (fun j j1 j2 hj => ?_) ?_))
        · have := eqAt_alikeAll xs ys A.in1 s vs.toList vs'.toList _ _ h4 k4 hal
                (room_in hu) j (by simpa using j1) (by simpa using j2)
          simpa using this
        · have := rcLt_alikeAll xs ys A.in1 s vs.toList vs'.toList _ _ h4 k4 hal
                (room_in hu) j (by simpa using j1) (by simpa using j2) hj
          simpa using this
        · exact wpAny_truthy_bool hq
theorem firsts_mixed : ∀ {vs : List Value} {ds : List PyData}, EachIs (fun v d => ∃ as, Reads s.heap v d as) vs ds → (∀ d, d ∈ ds → ∃ xs, d = .tuple xs) →
    ∃ fs : List (Option Value), (∀ (A : Around) (E : Value → Shared → Prop) (Q : List (Option Value) → Shared → Prop), Q fs s → wpAny (model prog w) A (vs.mapM firstOfTuple') Q E s) ∧ (.tuple [] ∈ ds → fs.all (·.isSome) = false)
  | _, _, .nil, _ => ⟨[], fun A E Q h => by rw [List.mapM_nil]; exact wpAny_pure h, fun h => by simp at h⟩
  | _, _, .cons (b := d)
        ⟨as, r⟩ t, ht => by
    obtain ⟨fs, h1, h2⟩ := firsts_mixed t fun d hd => ht d (List.mem_cons_of_mem _ hd)
    obtain ⟨ys, rfl⟩ := ht d List.mem_cons_self
    cases r with
    | @tuple a o xs n
          _ _ ho hc hd hr =>
      refine ⟨xs[0]? :: fs, fun A E Q h => ?_, fun hm => ?_⟩
      · rw [List.mapM_cons]
        refine wpAny_bind ?_
        rw [kas_first_eq]
        refine wpAny_bind (Looks.here (show Looks (model prog w) s.heap (typeOf (.ref a)) o.cls from (Looks.ld ho).andThen .now) ?_)
        rw [hc, if_neg
              (by first | decide | simp)]
        refine wpAny_bind
              (listItems_at ho hd (wpAny_pure ?_))
        exact wpAny_bind (h1 A E _ (wpAny_pure h))
      · rw [List.all_cons]
        rcases List.mem_cons.mp hm
              with e | hm
        · cases e
          have : xs.size = 0 := by simpa using ReadsAll.length _ _ _ hr
          have e0 : xs[0]? = none := Array.getElem?_eq_none (by omega)
          rw [e0]
          rfl
        · rw [h2 hm, Bool.and_false]
theorem kind_mixed {vs : List Value} {ds : List PyData} (e : EachIs (fun v d => ∃ as, Reads s.heap v d as) vs ds) (ht : ∀ d, d ∈ ds → ∃ xs, d = .tuple xs) (hne : .tuple [] ∈ ds) :
    ∃ kd : SortKind, (kd = general' ∨ kd = oneType') ∧ ∀ (A : Around) (E : Value → Shared → Prop) {Q : SortKind → Shared → Prop}, Q kd s → wpAny (model prog w) A (keyKind' vs.toArray) Q E s := by
  obtain ⟨fs, h1, h2⟩ := firsts_mixed (prog := prog) (w := w) e ht
  have hall : (fs.toArray.all fun x => x.isSome) = false := by rw [List.all_toArray]; exact h2 hne
  have hT : ∀ v ∈ vs, Looks (model prog w) s.heap (typeOf v) (.type "tuple") := fun v hv => by
    obtain ⟨d, hd, as,
          r⟩ := e.left v hv
    obtain ⟨xs, rfl⟩ := ht d hd
    exact looks_reads r
  have hv : 0 < vs.length := by
    cases e with
    | nil => simp at hne
    | cons _ _ => simp
  by_cases hf : (fs.toArray[0]?.bind id).isSome = true
  · refine ⟨general', .inl rfl, fun A E Q h => ?_⟩
    rw [keyKind'_eq, List.mapM_toArray,
          map_eq_pure_bind]
    refine wpAny_bind (wpAny_bind (h1 A E _ (wpAny_pure ?_)))
    rw [if_neg (by rw [hall]; simp), if_pos hf]
    exact wpAny_pure h
  · refine ⟨oneType', .inr rfl, fun A E Q h => ?_⟩
    rw [keyKind'_eq, List.mapM_toArray,
          map_eq_pure_bind]
    refine wpAny_bind (wpAny_bind (h1 A E _ (wpAny_pure ?_)))
    rw [if_neg (by rw [hall]; simp), if_neg hf]
    rw [oneTypeOnly'_eq,
          List.mapM_toArray, map_eq_pure_bind]
    refine wpAny_bind (wpAny_bind (wpAny_bind (kas_mapM (r := Value.type "tuple") _ (fun v hv Q' hq => (hT v hv).here hq) (wpAny_pure ?_))))
    have hall2 : ((List.map (fun _ => Value.type "tuple") vs).toArray.all fun x => x == Value.type "tuple") = true := by
      simp only [List.all_toArray,
            List.all_map, List.all_eq_true]
      intro _ _
      simp
    have h0 : (List.map (fun _ => Value.type "tuple") vs).toArray[0]? = some (Value.type "tuple") := by
      cases vs with
      | nil => simp at hv
      | cons _ _ => simp
    rw [h0]
    simp only [hall2, if_true]
    exact wpAny_pure
          (wpAny_pure h)
/-- tuples of any lengths, alike -/
theorem SortsAt_tups {vs : List Value} {ds : List PyData} (e : EachIs (fun v d => ∃ as, Reads s.heap v d as) vs ds) (hal : AllAlike ds) (ht : ∀ d, d ∈ ds → ∃ xs, d = .tuple xs) (hu : ∀ d, d ∈ ds → A.units + d.depth < cLine) : SortsAt prog w A s (dataKind s.heap ds) vs := by
  by_cases hne : PyData.tuple [] ∈ ds
  · refine ⟨fun v hv => ?_, ?_⟩
    · obtain ⟨d, hd, as,
            r⟩ := e.left v hv
      exact
            ⟨_, dataKind_some hal hd r⟩
    · obtain ⟨kd, hk, hq⟩ := kind_mixed (prog := prog) (w := w) e ht hne
      refine ⟨kd, ?_, fun _ E Q h => hq A E h⟩
      intro E x y a b Q ha hb h
      obtain ⟨d, as, hd, ra,
            rfl⟩ := dataKind_inv ha
      obtain ⟨d', as', hd', rb,
            rfl⟩ := dataKind_inv hb
      have hdd := hal d hd d' hd'
      have hroom : A.units + min d.depth d'.depth < cLine := Nat.lt_of_le_of_lt (Nat.add_le_add_left (Nat.min_le_left _ _) _) (hu d hd)
      obtain ⟨xs, rfl⟩ := ht d hd
      obtain ⟨ys, rfl⟩ := ht d' hd'
      rcases hk with rfl | rfl
      · exact oneLt_tups (f := false) ra rb hdd hroom h
      · exact oneLt_tups (f := true) ra rb hdd hroom h
  · refine SortsAt.data e hal (.inl fun d hd => ?_) hu
    obtain ⟨xs, rfl⟩ := ht d hd
    cases xs with
    | nil => exact absurd hd hne
    | cons x r => exact
          ⟨x, r, rfl⟩
/-- all tuples, or none a tuple or None -/
def Sort2 (ds : List PyData) : Prop := (∀ d, d ∈ ds → ∃ xs, d = .tuple xs) ∨ ∀ d, d ∈ ds → d ≠ .none ∧ ∀ xs, d ≠ .tuple xs
theorem SortsAt_two {vs : List Value} {ds : List PyData} (e : EachIs (fun v d => ∃ as, Reads s.heap v d as) vs ds) (hal : AllAlike ds) (hk : Sort2 ds) (hu : ∀ d, d ∈ ds → A.units + d.depth < cLine) : SortsAt prog w A s (dataKind s.heap ds) vs :=
  hk.elim (fun h => SortsAt_tups e hal h hu) fun h => SortsAt.data e hal (.inr h) hu
variable {β : Type} {vs : List Value} {bs : List β} {enc : β → PyData} {R : Value → β → Prop}
theorem sort_data2 {a : Addr} {n : Nat} {Q : Value → Shared → Prop} (ho : s.heap.get? a = some (seqObj "list" vs.toArray n)) (e : EachIs R vs bs) (er : EachIs (fun v b => ∃ as, Reads s.heap v (enc b) as ∧ a ∉ as) vs bs)
    (hal : AllAlike (bs.map enc)) (hk : Sort2 (bs.map enc)) (hL : bs.length ≤ sizeLine) (hu : ∀ b, b ∈ bs → A.units + 1 + (enc b).depth < cLine)
    (h : ∀ out, out.length = bs.length → EachIs R out (bs.mergeSort (dataLe false enc)) → Q .none { s with heap := sortedHeap s.heap a vs (List.toArray out) }) : wpAny (model prog w) A (call (.builtin "list.sort") [.ref a]) Q E s := by
  have er' : EachIs (fun v b => ∃ as, Reads (sortingHeap s.heap a vs) v (enc b) as) vs bs := each_keepBut (h' := sortingHeap
        s.heap a vs) (fun _ _ hb q => sortingHeap_old hb q) (fun o q => by rw [ho] at q; rw [← Option.some.inj q]) hal er
  have S := SortsAt_two (prog := prog) (w := w) (A := A.in1) (s := { s with heap := sortingHeap s.heap a vs }) (each_map (R := fun v d => ∃ as, Reads (sortingHeap s.heap a vs) v d as) enc er') hal hk (bound_map hu)
  refine wpAny_call_entry slot_list_sort ⟨_, ho, rfl⟩ entry_list_sort (list_sort_vals (κ := dataKind (sortingHeap s.heap a vs) (bs.map enc)) ho S (by rw [e.length]; exact hL) ⟨.none, rfl, ?_⟩) (args_list_sort _)
  exact h _
        (by rw [sortVals_length false rfl]; exact e.length) (sortVals_data false e er' hal)
theorem sorted_data2 {l : Addr} {Q : Value → Shared → Prop} (hl : s.heap.IsList l vs.toArray) (e : EachIs R vs bs) (er : EachIs (fun v b => ∃ as, Reads s.heap v (enc b) as) vs bs)
    (hal : AllAlike (bs.map enc)) (hk : Sort2 (bs.map enc)) (hL : bs.length ≤ sizeLine) (hu : ∀ b, b ∈ bs → A.units + 2 + (enc b).depth < cLine)
    (h : ∀ out, out.length = bs.length → EachIs R out (bs.mergeSort (dataLe false enc)) → Q (.ref (s.heap.objs.size + 1)) { s with heap := sortedAll s.heap vs (List.toArray out) }) : wpAny (model prog w) A (call (.builtin "sorted") [.ref l]) Q E s := by
  have er' : EachIs (fun v b => ∃ as, Reads (sortingHeap (copyHeap s.heap vs) (s.heap.objs.size + 1) vs) v
        (enc b) as) vs bs := er.mono fun _ _ ⟨as, r⟩ => ⟨as, PyProof.Rows.Reads.keeps (fun _ _ => sorting_copy_old) r⟩
  have S := SortsAt_two (prog := prog) (w := w) (A := A.in1.in1) (s := { s with heap := sortingHeap (copyHeap s.heap vs) (s.heap.objs.size + 1) vs }) (each_map (R := fun v d => ∃ as, Reads (sortingHeap (copyHeap s.heap vs) (s.heap.objs.size + 1) vs) v d as) enc er') hal hk (bound_map hu)
  exact sorted_vals hl S (by rw [e.length]; exact hL) (h _ (by rw [sortVals_length false rfl]; exact e.length) (sortVals_data false e er' hal))
end
end Mt
namespace Mp
open PySem PySem.Spec PySem.Calls PyProof.Rows L2

/-! ### the order of keys; sorted(set) -/
def keyLe (a b : NestedKey) : Bool := PySem.W.dataLe false NestedKey.data a b
def rowLe (a b : Row) : Bool := keyLe a.2 b.2
theorem refs_each {R : Value → Row → Prop} : ∀ {L : List Row}, (∀ p ∈ L, R (.ref p.1) p) → PySem.W.EachIs R (L.map fun p => Value.ref p.1) L
  | [], _ => .nil
  | p :: L, m => .cons (m p List.mem_cons_self) (refs_each fun q hq => m q (List.mem_cons_of_mem _ hq))
theorem each_refs : ∀ {vs : List Value} {L : List Row}, PySem.W.EachIs (fun v (p : Row) => v = Value.ref p.1) vs L → vs = L.map fun p => Value.ref p.1
  | _, _, .nil => rfl
  | _, _, .cons h t => by rw [h, each_refs t]; rfl
theorem rows_of_refs {L : List Row} : ∀ {vs : List Value}, (∀ v ∈ vs, ∃ q ∈ L, v = Value.ref q.1) → ∃ L1 : List Row, vs = L1.map (fun q => Value.ref q.1) ∧ ∀ q ∈ L1, q ∈ L
  | [], _ => ⟨[], rfl, fun q hq => (by cases hq)⟩
  | v :: vs, h => by
    obtain ⟨q, hq, e⟩ := h v List.mem_cons_self
    obtain ⟨L1, e1, e2⟩ := rows_of_refs fun u hu => h u (List.mem_cons_of_mem _ hu)
    refine ⟨q :: L1, by rw [e, e1]; rfl, fun r hr => ?_⟩
    rcases List.mem_cons.mp hr
          with rfl | hr
    · exact hq
    · exact e2 r hr
section
variable {P : Program} {w : World} {A : Around} {E : Value → Shared → Prop} {s : Shared} {a : Addr} {L : List Row} {es : Array (Int × Value)} {ep : Nat} {t : SetTable}
theorem SetN.refs_perm (R : SetN P w s.heap a L es ep t) {L1 : List Row} (sub : ∀ q ∈ L1, q ∈ L) (pm : (L1.map fun q => Value.ref q.1).Perm (L.map fun q => Value.ref q.1)) : L1.Perm L := by
  have inj : ∀ q ∈ L, ∀ r ∈ L, q.1 = r.1 → q = r := fun q hq r hr e => by
    have x := R.mem q hq
    rw [e] at x
    exact Prod.ext e ((nestedKind P w).inj x (R.mem r hr))
  have nL : L.Nodup := List.Pairwise.of_map (·.2) (fun _ _ h e => h (congrArg Prod.snd e)) R.nd
  have nr : (L.map fun q => Value.ref q.1).Nodup := by
    refine List.pairwise_map.mpr (List.Pairwise.imp_of_mem (fun {q r} hq hr h e => ?_) nL)
    injection e with e
    exact h (inj q hq r hr e)
  have n1 : L1.Nodup := List.Pairwise.of_map (fun q : Row => Value.ref q.1) (fun _ _ h e => h (congrArg (fun q : Row => Value.ref q.1) e)) (pm.nodup_iff.mpr nr)
  refine (List.perm_ext_iff_of_nodup n1 nL).mpr fun q => ⟨sub q, fun hq => ?_⟩
  have hm : Value.ref q.1 ∈ L1.map fun q => Value.ref q.1 := pm.mem_iff.mpr (List.mem_map_of_mem (f := fun q : Row => Value.ref q.1) hq)
  obtain ⟨r, hr, e⟩ :=
        List.mem_map.mp hm
  injection e with e
  rw [← inj r (sub r hr) q hq e]
  exact hr
/-- sorted(set) -/
theorem sorted_of_set {Q : Value → Shared → Prop} (R : SetN P w s.heap a L es ep t) (hh : A.handled = none) (rd : ∀ p ∈ L, Reads s.heap (.ref p.1) p.2.data []) (hu : A.units + 20 < cLine)
    (al : PySem.W.AllAlike (L.map fun p => p.2.data)) (so : Mt.Sort2 (L.map fun p => p.2.data)) (dp : ∀ p ∈ L, p.2.data.depth ≤ 16)
    (q : ∀ s' l (out : Array Value) (c : Nat) (L1 : List Row), (∀ b o, s.heap.get? b = some o → s'.heap.get? b = some o) → s'.gens = s.gens → s'.os = s.os → s.heap.objs.size ≤ l →
      s'.heap.get? l = some (seqObj "list" out c) → L1.Perm L → out.toList = (L1.mergeSort rowLe).map (fun p => Value.ref p.1) → Q (.ref l) s') :
    wpAny (model P w) A (call
          (.builtin "sorted") [.ref a]) Q E s := by
  obtain ⟨o, e1, e2, e3⟩ := R.ob
  have hsz := R.size
  have few := R.few
  refine Calls.call_function_entry kind_sorted
        plain_sorted entry_sorted (args_sorted1 _) ?_
  unfold Builtin.«sorted»
  refine wpAny_bind
        (m := checkCount "sorted" 1 1 _) (wpAny_pure ?_)
  refine wpAny_bind (collect_set (A := A.in1) hh ⟨o, e1, e2.1, e3⟩ R.fits (by unfold scanBound; omega) R.tab.ris R.led fun s1 vs k1 z1 g1 o1 pm => ?_)
  have er : es.toList.map (·.2) = L.map fun q => Value.ref q.1 := by
    rw [R.rows]
    simp [rowsN]
  rw [er] at pm
  obtain ⟨L1, rfl, sub⟩ := rows_of_refs (L := L) (vs := vs) fun v hv => by
    obtain ⟨r, hr, e⟩ := List.mem_map.mp (pm.mem_iff.mp hv)
    exact ⟨r, hr, e.symm⟩
  have pL := R.refs_perm sub pm
  have len : L1.length = L.length := pL.length_eq
  refine wpAny_bind (wpAny_newList ?_ (by rw [sizeLine_eq]; simp; omega))
  have hl : (s1.heap.push (seqObj "list" (L1.map fun q => Value.ref q.1).toArray 0)).get? s1.heap.objs.size = some (seqObj "list" (L1.map fun q => Value.ref q.1).toArray 0) := Heap.get?_push_size _ rfl
  have mp : (L1.map fun p => p.2.data).Perm (L.map fun p => p.2.data) := pL.map _
  have rd1 : ∀ p ∈ L1, ∃ as, Reads (s1.heap.push (seqObj "list" (L1.map fun q => Value.ref q.1).toArray 0)) (.ref p.1) p.2.data as ∧ s1.heap.objs.size ∉ as := fun p hp =>
    ⟨[], PyProof.Rows.Reads.keeps (fun b u e => Heap.get?_push_of_some _ (k1 b u e)) (rd p (sub p hp)), by simp⟩
  refine wpAny_bind (wpAny_holding (Mt.sort_data2 (s := { s1 with heap := s1.heap.push (seqObj "list" (L1.map fun q => Value.ref q.1).toArray 0) }) (bs := L1) (enc := fun p => p.2.data) (R := fun v p => v = Value.ref p.1) hl (refs_each fun p _ => rfl) (refs_each rd1)
    (fun d hd d' hd' => al d (mp.mem_iff.mp hd) d' (mp.mem_iff.mp hd')) (so.elim (fun h => .inl fun d hd => h d (mp.mem_iff.mp hd)) (fun h => .inr fun d hd => h d (mp.mem_iff.mp hd))) (by rw [sizeLine_eq]; omega)
    (fun p hp => by have := dp p (sub p hp); show A.units + 1 + 1 + p.2.data.depth < cLine; omega) fun out a1 a2 => ?_))
  obtain ⟨c, hc⟩ := sortedHeap_at (vs := L1.map fun q => Value.ref q.1) (out := out.toArray) hl
  have eo := each_refs a2
  refine wpAny_pure ⟨_, rfl, q _ s1.heap.objs.size out.toArray c L1 (fun b u e => ?_) g1 o1 z1 hc pL eo⟩
  have q1 := k1 b u e
  have hlt := Heap.lt_size q1
  show (sortedHeap (s1.heap.push (seqObj "list" _ 0)) s1.heap.objs.size _ out.toArray).get? b = some u
  rw [sortedHeap_old (Nat.ne_of_lt hlt) (by rw [size_push']; exact Nat.lt_succ_of_lt hlt), Heap.get?_push_of_some _ q1]
end
end Mp
namespace Mp
open PySem PySem.Spec
      PyProof.Rows L2

/-! ### values as keys -/
mutual
def toK : Val → Option NestedKey
  | .non => some .none
  | .int i => some (.num i)
  | .str x => some (.text x)
  | .tup xs => (toKs xs).map .tup
  | _ => none
def toKs : List Val → Option (List NestedKey)
  | [] => some []
  | x :: xs => (toK x).bind fun k => (toKs xs).map fun ks => k :: ks
end
mutual
theorem ofK_toK : ∀ {x : Val} {k : NestedKey}, toK x = some k → ofK k = x
  | .non, _, e => by cases e; rfl
  | .int _, _, e => by cases e; rfl
  | .str _, _, e => by cases e; rfl
  | .tup xs, _, e => by
    simp only [toK, Option.map_eq_some_iff] at e
    obtain ⟨ks, e1, rfl⟩ := e
    rw [ofK, ofKs_toKs e1]
  | .bl _, _, e => by cases e
  | .ty _, _, e => by cases e
  | .fn _, _, e => by cases e
  | .lst _, _, e => by cases e
  | .scr _, _, e => by cases e
  | .ref _, _, e => by cases e
  | .ptp _, _, e => by cases e
theorem ofKs_toKs : ∀ {x : List Val} {k : List NestedKey}, toKs x = some k → ofKs k = x
  | [], _, e => by cases e; rfl
  | x :: xs, _, e => by
    simp only [toKs, Option.bind_eq_some_iff, Option.map_eq_some_iff] at e
    obtain ⟨k, e1, ks, e2, rfl⟩ := e
    rw [ofKs, ofK_toK e1, ofKs_toKs e2]
end
mutual
theorem toK_ofK : ∀ k : NestedKey, toK (ofK k) = some k
  | .none => rfl
  | .num _ => rfl
  | .text _ => rfl
  | .tup ks => by rw [ofK, toK, toKs_ofKs ks]; rfl
theorem toKs_ofKs : ∀ k : List NestedKey, toKs (ofKs k) = some k
  | [] => rfl
  | k :: ks => by rw [ofKs, toKs, toK_ofK k, toKs_ofKs ks]; rfl
end
theorem ofKs_map (ks : List NestedKey) : ofKs ks = ks.map ofK := by
  induction ks with
  | nil => rfl
  | cons k ks ih => rw [ofKs, ih]; rfl
section
variable {X : Cx} {g : Gx} {pos : Pos} {pins : List (Addr × Obj)} {st : L2.St} {H : Hp} {s : Shared} {r : List Addr}
mutual
/-- the key stands in the machine -/
theorem RV.key (hK : g.K = X.K) (I : Inv X pins st H s) : ∀ {x : Val} {v : V} {u : Value} {k : NestedKey}, RV g r H x v → RelV v u → toK x = some k → NestedIs s.heap k u ∧ Reads s.heap u k.data []
  | _, _, _, _, .non, rv, e => by cases e; cases rv; exact ⟨.none, .none⟩
  | _, _, _, _, .int i, rv, e => by cases e; obtain ⟨t, rfl⟩ := rv; exact ⟨.int i t, .int i t⟩
  | _, _, _, _, .str x, rv, e => by cases e; obtain ⟨t, rfl⟩ := rv; exact ⟨.text x t, .str x t⟩
  | _, _, _, _, .tup h1 h2 h3, rv, e => by
    simp only [toK, Option.map_eq_some_iff] at e
    obtain ⟨ks, e1, rfl⟩ := e
    cases rv
    rw [hK] at h1
    obtain ⟨its, ri, ⟨o, o1, o2, n, o3⟩, _⟩ := I.tuple h1
    obtain ⟨a1, a2⟩ := RVs.key hK I h3 ri e1
    exact ⟨.tup o1 o2 o3 (by simpa using a1), .tuple o1 o2 o3 (by simpa using a2)⟩
  | _, _, _, _, .bl _, _, e => by cases e
  | _, _, _, _, .ty _, _, e => by cases e
  | _, _, _, _, .fn _, _, e => by cases e
  | _, _, _, _, .lst .., _, e => by cases e
  | _, _, _, _, .scr .., _, e => by cases e
  | _, _, _, _, .ref _, _, e => by cases e
  | _, _, _, _, .ptp .., _, e => by cases e
theorem RVs.key (hK : g.K = X.K) (I : Inv X pins st H s) : ∀ {x : List Val} {v : List V} {u : List Value} {k : List NestedKey}, RVs g r H x v → Vals v u → toKs x = some k → NestedAll s.heap k u ∧ ReadsAll s.heap u (NestedKey.datas k) []
  | _, _, _, _, .nil, rv, e => by cases e; cases rv; exact ⟨.nil, .nil⟩
  | _, _, _, _, .cons h hs, rv, e => by
    simp only [toKs, Option.bind_eq_some_iff, Option.map_eq_some_iff] at e
    obtain ⟨k, e1, ks, e2, rfl⟩ := e
    cases rv with
    | cons r1 r2 =>
      obtain ⟨a1, a2⟩ := RV.key hK I h r1 e1
      obtain ⟨b1, b2⟩ := RVs.key hK I hs r2 e2
      exact ⟨.cons a1 b1, .cons (as := []) (bs := []) a2 b2⟩
end
end

/-! ### a set in the abstract heap -/
def SetN0 (P : Program) (w : World) (h : Heap) (a : Addr) (L : List Row) : Prop := ∃ (es : Array (Int × Value)) (ep : Nat) (t : SetTable), (∃ o, h.get? a = some o ∧ o.ExactSet ∧ o.data = .set es ep t) ∧ es.toList = rowsN w L ∧ TabOk t (L.map (nh w)) ∧ (L.map (·.2)).Nodup ∧
  (w.params.followText "set-order" = true ∨ t.led
        = true) ∧ L.length * 5 < t.mask * 3 ∧ L.length < 64
def SetHO (P : Program) (w : World) (a : Addr) (L : List Row) : HO := .ext fun h => SetN0 P w h a L
theorem SetN.bare {P : Program} {w : World} {h : Heap} {a : Addr} {L : List Row} {es : Array (Int × Value)} {ep : Nat} {t : SetTable} (R : SetN P w h a L es ep t) : SetN0 P w h a L := ⟨es, ep, t, R.ob, R.rows, R.tab, R.nd, R.led, R.room, R.few⟩
theorem SetN0.full {P : Program} {w : World} {h : Heap} {a : Addr} {L : List Row} (R : SetN0 P w h a L) (m : ∀ p ∈ L, Mem1 P w h p.2 p.1) : ∃ es ep t, SetN P w h a L es ep t := by
  obtain ⟨es, ep, t, h1, h2, h3, h4, h5, h6, h7⟩ := R
  exact ⟨es, ep, t, h1, h2, h3, h4, m, h5, h6, h7⟩
theorem SetN0.ok {P : Program} {w : World} {H : Hp} {h : Heap} {a : Addr} {L : List Row} (R : SetN0 P w h a L) : ObjOk P w H h a (SetHO P w a L) := by
  refine ⟨R, ?_, fun h1 h2 p k => ?_⟩
  · obtain ⟨_, _, _, ⟨o, e, _⟩, _⟩ := R
    exact ⟨o, e⟩
  · obtain ⟨es, ep, t, ⟨o, e, x⟩, y⟩ := p
    exact ⟨es, ep, t, ⟨o, k o e, x⟩, y⟩
/-- the members' keys -/
def keyOk (k : NestedKey) : Bool := decide (k.depth ≤ 8) && (match k with | .tup _ => true | _ => false)
def fewKeys (ks : List NestedKey) : Bool := decide (ks.eraseDups.length < 64)
end Mp
namespace Mp
open PySem PySem.Spec
      PyProof.Rows L2

/-! ### the members of a list of keys, each once, in order -/
def uniq : List NestedKey → List NestedKey
  | [] => []
  | k :: ks => if k ∈ uniq ks then uniq ks else k :: uniq ks
theorem mem_uniq {k : NestedKey} : ∀ {ks : List NestedKey}, k ∈ uniq ks ↔ k ∈ ks
  | [] => Iff.rfl
  | x :: ks => by
    unfold uniq
    split
    · rename_i h
      rw [List.mem_cons, mem_uniq]
      constructor
      · exact .inr
      · rintro (rfl | h')
        · exact mem_uniq.mp h
        · exact h'
    · rw [List.mem_cons, List.mem_cons, mem_uniq]
theorem nodup_uniq : ∀ ks : List NestedKey, (uniq ks).Nodup
  | [] => List.nodup_nil
  | x :: ks => by
    unfold uniq
    split
    · exact nodup_uniq ks
    · rename_i h
      exact List.nodup_cons.mpr ⟨h, nodup_uniq ks⟩
mutual
theorem eqv_keys : ∀ a b : NestedKey, PyData.eqv a.data b.data = true → a = b
  | .none, .none, _ => rfl
  | .num i, .num j, h => by simp [NestedKey.data, PyData.eqv] at h; rw [h]
  | .text i, .text j, h => by simp [NestedKey.data, PyData.eqv] at h; rw [h]
  | .tup a, .tup b, h => by rw [eqv_keyss a b (by simpa [NestedKey.data, PyData.eqv] using h)]
  | .none, .num _, h => by simp [NestedKey.data, PyData.eqv] at h
  | .none, .text _, h => by simp [NestedKey.data, PyData.eqv] at h
  | .none, .tup _, h => by simp [NestedKey.data, PyData.eqv] at h
  | .num _, .none, h => by simp [NestedKey.data, PyData.eqv] at h
  | .num _, .text _, h => by simp [NestedKey.data, PyData.eqv] at h
  | .num _, .tup _, h => by simp [NestedKey.data, PyData.eqv] at h
  | .text _, .none, h => by simp [NestedKey.data, PyData.eqv] at h
  | .text _, .num _, h => by simp [NestedKey.data, PyData.eqv] at h
  | .text _, .tup _, h => by simp [NestedKey.data, PyData.eqv] at h
  | .tup _, .none, h => by simp [NestedKey.data, PyData.eqv] at h
  | .tup _, .num _, h => by simp [NestedKey.data, PyData.eqv] at h
  | .tup _, .text _, h => by simp [NestedKey.data, PyData.eqv] at h
theorem eqv_keyss : ∀ a b : List NestedKey, PyData.eqvAll (NestedKey.datas a) (NestedKey.datas b) = true → a = b
  | [], [], _ => rfl
  | [], _ :: _, h => by simp [NestedKey.datas, PyData.eqvAll] at h
  | _ :: _, [], h => by simp [NestedKey.datas, PyData.eqvAll] at h
  | a :: as, b :: bs, h => by
    simp only [NestedKey.datas, PyData.eqvAll, Bool.and_eq_true] at h
    rw [eqv_keys a b h.1, eqv_keyss as bs h.2]
end
def alikeKeys (ks : List NestedKey) : Bool := ks.all fun a => ks.all fun b => PySem.W.alike a.data b.data
theorem alikeKeys_at {ks : List NestedKey} (h : alikeKeys ks = true) {a b : NestedKey} (ha : a ∈ ks) (hb : b ∈ ks) : PySem.W.alike a.data b.data = true := by
  unfold alikeKeys at h
  rw [List.all_eq_true] at h
  have := h a ha
  rw [List.all_eq_true] at this
  exact this b hb
theorem keyLe_total : PySem.W.TotalLe keyLe := PySem.W.sortLe_total (listOrd itemOrd) false fun k : NestedKey => PySem.W.keyToks k.data
theorem keyLe_anti {a b : NestedKey} (h : PySem.W.alike a.data b.data = true) (h1 : keyLe a b = true) (h2 : keyLe b a = true) : a = b := by
  refine eqv_keys a b ?_
  cases hq : PyData.eqv a.data b.data with
  | true => rfl
  | false =>
    exfalso
    have x1 : PyProof.Rows.lexLt itemOrd (PySem.W.keyToks b.data) (PySem.W.keyToks a.data) = false := by simpa [keyLe, PySem.W.dataLe, PySem.W.sortLe] using h1
    have x2 : PyProof.Rows.lexLt itemOrd (PySem.W.keyToks a.data) (PySem.W.keyToks b.data) = false := by simpa [keyLe, PySem.W.dataLe, PySem.W.sortLe] using h2
    have e : PySem.W.keyToks a.data = PySem.W.keyToks b.data := (listOrd itemOrd).total _ _ x2 x1
    have f := (PySem.W.toks_eqv a.data b.data h).2 hq [] [Sum.inl 0]
    rw [x2, e, PySem.W.lex_pre] at f
    exact absurd f (by decide)
def sortKeys (ks : List NestedKey) : List NestedKey := (uniq ks).mergeSort keyLe
theorem sortKeys_perm (ks : List NestedKey) : (sortKeys ks).Perm (uniq ks) := List.mergeSort_perm _ _
theorem sortKeys_of {ks l : List NestedKey} (al : alikeKeys ks = true) (nd : l.Nodup) (m : ∀ k, k ∈ l ↔ k ∈ ks) : l.mergeSort keyLe = sortKeys ks := by
  have pm : l.Perm (uniq ks) := (List.perm_ext_iff_of_nodup nd (nodup_uniq ks)).mpr fun k => by rw [m, mem_uniq]
  have p2 : (l.mergeSort keyLe).Perm (sortKeys ks) := (List.mergeSort_perm _ _).trans (pm.trans (sortKeys_perm ks).symm)
  have sorted : ∀ l : List NestedKey, (l.mergeSort keyLe).Pairwise fun a b => keyLe a b = true := fun l => List.pairwise_mergeSort keyLe_total.trans (fun a b => by rw [Bool.or_eq_true]; exact keyLe_total.total a b) l
  refine p2.eq_of_pairwise (fun a b ha hb h1 h2 => keyLe_anti (alikeKeys_at al ?_ ?_) h1 h2) (sorted l) (sorted _)
  · exact (m a).mp ((List.mergeSort_perm _ _).mem_iff.mp ha)
  · exact mem_uniq.mp ((sortKeys_perm ks).mem_iff.mp hb)
def sortableKeys (ks : List NestedKey) : Bool := (ks.all fun k => match k with | .tup _ => true | _ => false) || (ks.all fun k => match k with | .num _ => true | .text _ => true | _ => false)
theorem sortableKeys_ok {ks : List NestedKey} (h : sortableKeys ks = true) : Mt.Sort2 (ks.map NestedKey.data) := by
  unfold sortableKeys at h
  rw [Bool.or_eq_true, List.all_eq_true, List.all_eq_true] at h
  rcases h with h | h
  · refine .inl fun d hd => ?_
    obtain ⟨k, hk, rfl⟩ := List.mem_map.mp hd
    have := h k hk
    split at this
    · exact ⟨_, by rw [NestedKey.data]⟩
    · cases this
  · refine .inr fun d hd => ?_
    obtain ⟨k, hk, rfl⟩ := List.mem_map.mp hd
    have := h k hk
    split at this
    · exact ⟨by simp [NestedKey.data], by simp [NestedKey.data]⟩
    · exact ⟨by simp [NestedKey.data], by simp [NestedKey.data]⟩
    · cases this
mutual
theorem data_depth : ∀ k : NestedKey, k.data.depth = k.depth
  | .none => rfl
  | .num _ => by simp [NestedKey.data, PyData.depth, NestedKey.depth]
  | .text _ => by simp [NestedKey.data, PyData.depth, NestedKey.depth]
  | .tup ks => by simp [NestedKey.data, PyData.depth, NestedKey.depth, datas_depth ks]
theorem datas_depth : ∀ ks : List NestedKey, PyData.depthAll (NestedKey.datas ks) = NestedKey.depthAll ks
  | [] => by simp [NestedKey.datas, PyData.depthAll, NestedKey.depthAll]
  | k :: ks => by simp [NestedKey.datas, PyData.depthAll, NestedKey.depthAll, data_depth k, datas_depth ks]
end
end Mp
namespace Mp
open PySem PySem.Spec
      PyProof.Rows L2

/-! ### built-in functions that change nothing -/
abbrev FN := Sto → List Val → Option Val
def eFn (f : FN) (ms : MEs) : ME := fun sl S => (ms sl S).bind fun p => (f p.2 p.1).bind fun v => some (v, p.2)
def rGn (g : Gx) (f : FN) : List V → Hp → VK → Prop := fun vs H Q => ∃ z r S xs v, SR (g.at z) r H S ∧ RVs (g.at z) r H xs vs ∧ f S xs = some v ∧ ∀ r' H' hv, Step r H r' H' → SR (g.at z) r' H' S → RV (g.at z) r' H' v hv → Q hv H'
section
variable {X : Cx} {g : Gx} {pos : Pos}
theorem fn_read {f : FN} {ms : MEs} {st : L2.St} {H : Hp} {Q : VK} (h : tD g (eFn f ms) st H Q) : tCB (rGn g f) (tDs g ms) st H Q := by
  obtain ⟨z, r, S, sl, v, S', R, e, q⟩ := h
  simp only [eFn, Option.bind_eq_some_iff] at e
  obtain ⟨⟨xs, S1⟩, e1, w, e2, e3⟩ := e
  cases e3
  exact ⟨z, r, S, sl, xs, S1, R, e1, fun r1 H1 vs s1 sr1 rx => ⟨z, r1, S1, xs, _, sr1, rx, e2, fun r2 H2 hv s2 sr2 rv => q r2 H2 hv (s1.trans s2) sr2 rv⟩⟩
theorem d_blt {x : Str} {p : Pos} {id : String} {f : FN} {e : Expr} {es : List Expr} {ms : MEs} (hc : CallR X (.builtin id) (rGn g f)) (hg : Gl X x) (hm : X.mg x = none) (hv : bootBuiltins x = some (.builtin id)) (ha : PA X (e :: es) (tDs g ms)) (hn : x ≠ "__name__" := by decide) (hdb : (x == ("__debug__" : Str)) = false := by decide)
    (he : starEach (e :: es) X.env = (false, eval e X.env) :: starEach es X.env := by rfl) (hpl : (backTo pos (starEach es X.env)).any (·.1) = false := by rfl) : PE X (.Call (.Name x p) (e :: es) [] pos) (tD g (eFn f ms)) :=
  PE.weak (pe_callB hc hg hm hv ha hn hdb he hpl) fun _ _ _ h => fn_read h
theorem d_typ {x : Str} {p : Pos} {T : String} {f : FN} {e : Expr} {es : List Expr} {ms : MEs} (hc : CallR X (.type T) (rGn g f)) (hg : Gl X x) (hm : X.mg x = none) (hv : bootBuiltins x = some (.type T)) (ha : PA X (e :: es) (tDs g ms)) (hn : x ≠ "__name__" := by decide) (hdb : (x == ("__debug__" : Str)) = false := by decide)
    (he : starEach (e :: es) X.env = (false, eval e X.env) :: starEach es X.env := by rfl) (hpl : (backTo pos (starEach es X.env)).any (·.1) = false := by rfl) : PE X (.Call (.Name x p) (e :: es) [] pos) (tD g (eFn f ms)) :=
  PE.weak (pe_callTy hc hg hm hv ha hn hdb he hpl) fun _ _ _ h => fn_read h

/-! len -/
def fLen : FN := fun S xs => match xs with
  | [.str x] => if x.length ≤ sizeLine then some (.int x.length) else none
  | [.tup xs] => some (.int xs.length)
  | [.ptp xs] => some (.int xs.length)
  | [.lst xs] => some (.int xs.length)
  | [.scr xs] => some (.int xs.length)
  | [.ref n] => match S[n]? with
    | some (.lst xs) => some (.int xs.length)
    | some (.dK kvs) => some (.int kvs.length)
    | _ => none
  | _ => none
theorem c_len (hK : g.K = X.K) : CallR X (.builtin "len") (rGn g fLen) := by
  intro pins s st H vs us Q I rs h
  obtain ⟨z, r, S, xs, v, sr, rx, e, q⟩ := h
  have fin : ∀ hv, RV (g.at z) r H v hv → Q hv H := fun hv rv => q r H hv (.refl r H) sr rv
  unfold fLen at e
  split at e
  · split at e
    · rename_i hx
      cases e
      cases rx with
      | cons a b =>
        cases a
        cases b
        exact call_len pins s st H _ us Q I rs ⟨_, _, rfl, ⟨hx, rfl⟩, fin _ (.int _)⟩
    · cases e
  · cases e
    cases rx with
    | cons a b =>
      cases b
      cases a with
      | tup h1 h2 h3 =>
        rw [show (g.at z).K = X.K from hK] at h1
        exact call_len pins s st H _ us Q I rs ⟨_, _, rfl, .inr ⟨_, h1, h3.length⟩, fin _ (.int _)⟩
  · cases e
    cases rx with
    | cons a b =>
      cases b
      cases a with
      | ptp h0 h1 h2 h3 => exact call_len pins s st H _ us Q I rs ⟨_, _, rfl, .inr ⟨_, .inl (.inr ⟨_, h0⟩), h3.length⟩, fin _ (.int _)⟩
  · cases e
    cases rx with
    | cons a b =>
      cases b
      cases a with
      | lst h1 h2 h3 h4 h5 => exact call_len pins s st H _ us Q I rs ⟨_, _, rfl, .inl ⟨_, .inl (.inl h1), h5.length⟩, fin _ (.int _)⟩
  · cases e
    cases rx with
    | cons a b =>
      cases b
      cases a with
      | scr h1 h2 h3 h4 => exact call_len pins s st H _ us Q I rs ⟨_, _, rfl, .inl ⟨_, .inl (.inr ⟨_, h1⟩), h4.length⟩, fin _ (.int _)⟩
  · cases rx with
    | cons a b =>
      cases b
      cases a with
      | ref ha =>
        split at e
        · rename_i hx
          cases e
          obtain ⟨u, hu, ro⟩ := sr.at_ _ _ _ hx ha
          cases ro with
          | lst hl hs => exact call_len pins s st H _ us Q I rs ⟨_, _, rfl, .inl ⟨_, .inl (.inl hu), hs.length⟩, fin _ (.int _)⟩
        · rename_i hx
          cases e
          obtain ⟨u, hu, ro⟩ := sr.at_ _ _ _ hx ha
          cases ro with
          | dK h1 hl hs =>
            obtain ⟨w, rfl, rw'⟩ := vals1 rs
            cases rw'
            have hz := hs.length
            simp only [List.length_map] at hz
            refine d_len I (.inl hu) fun t s' I' => ⟨.int _, H, I', ⟨t, rfl⟩, ?_⟩
            rw [← hz]
            exact fin _ (.int _)
        · cases e
  · cases e

/-! tuple, list -/
def seqOf (S : Sto) : Val → Option (List Val)
  | .tup xs => some xs
  | .ptp xs => some xs
  | .scr xs => some xs
  | a => lstOf S a
def fTupOf : FN := fun S xs => match xs with
  | [.ptp ys] => some (.ptp ys)
  | [x] => (seqOf S x).map .tup
  | _ => none
def fLstOf : FN := fun S xs => match xs with
  | [x] => (seqOf S x).map .lst
  | _ => none
theorem seqOf_at {r : List Addr} {H : Hp} {S : Sto} {a : Val} {x : V} {xs : List Val} (sr : SR g r H S) (h : RV g r H a x) (e : seqOf S a = some xs) : ∃ p vs, x = .ref p ∧ (SqL g.K H p vs ∨ (SqT g.K H p vs ∧ (a = .tup xs ∨ a = .ptp xs))) ∧ xs.length ≤ sizeLine ∧ RVs g r H xs vs := by
  unfold seqOf at e
  split at e
  · cases e
    cases h with
    | tup h1 h2 h3 => exact ⟨_, _, rfl, .inr ⟨h1, .inl rfl⟩, h2, h3⟩
  · cases e
    cases h with
    | ptp h0 h1 h2 h3 => exact ⟨_, _, rfl, .inr ⟨.inl (.inr ⟨_, h0⟩), .inr rfl⟩, h2, h3⟩
  · cases e
    cases h with
    | scr h1 h2 h3 h4 => exact ⟨_, _, rfl, .inl (.inl (.inr ⟨_, h1⟩)), h3, h4⟩
  · obtain ⟨p, vs, rfl, hp, hz, hs⟩ := lstOf_at sr h e
    exact ⟨p, vs, rfl, .inl (.inl (.inl hp)), hz, hs⟩
theorem c_tuple (hK : g.K = X.K) : CallR X (.type "tuple") (rGn g fTupOf) := by
  intro pins s st H vs us Q I rs h
  obtain ⟨z, r, S, xs, v, sr, rx, e, q⟩ := h
  unfold fTupOf at e
  split at e
  · cases e
    cases rx with
    | cons a b =>
      cases b
      obtain ⟨p, ws, rfl, hp, hz, hs⟩ := tupOf_at a rfl
      rw [show (g.at z).K = X.K from hK] at hp
      exact call_tuple_of pins s st H _ us Q I rs ⟨p, ws, rfl, .inr ⟨hp, q r H _ (.refl r H) sr a⟩⟩
  · rename_i np
    simp only [Option.map_eq_some_iff] at e
    obtain ⟨ys, e1, rfl⟩ := e
    cases rx with
    | cons a b =>
      cases b
      obtain ⟨p, ws, rfl, hp, hz, hs⟩ := seqOf_at sr a e1
      rw [show (g.at z).K = X.K from hK] at hp
      rcases hp with hp | ⟨hp, rfl | rfl⟩
      · exact call_tuple_of pins s st H _ us Q I rs ⟨p, ws, rfl, .inl ⟨hp, fun l hl => q r _ (.ref l) (Step.new1 hl) (sr.beside hl) (RV.newT sr hl hz hs)⟩⟩
      · exact call_tuple_of pins s st H _ us Q I rs ⟨p, ws, rfl, .inr ⟨hp, q r H _ (.refl r H) sr a⟩⟩
      · exact absurd rfl (np ys)
  · cases e
theorem c_list (hK : g.K = X.K) : CallR X (.type "list") (rGn g fLstOf) := by
  intro pins s st H vs us Q I rs h
  obtain ⟨z, r, S, xs, v, sr, rx, e, q⟩ := h
  unfold fLstOf at e
  split at e
  · simp only [Option.map_eq_some_iff] at e
    obtain ⟨ys, e1, rfl⟩ := e
    cases rx with
    | cons a b =>
      cases b
      obtain ⟨p, ws, rfl, hp, hz, hs⟩ := seqOf_at sr a e1
      rw [show (g.at z).K = X.K from hK] at hp
      exact call_list_of pins s st H _ us Q I rs ⟨p, ws, rfl, hp.imp (fun h => h) (fun h => h.1), fun l hl => q r _ (.ref l) (Step.new1 hl) (sr.beside hl) (RV.newL sr hl hz hs)⟩
  · cases e

/-! all, any -/
def toB : List Val → Option (List Bool)
  | [] => some []
  | .bl b :: xs => (toB xs).map fun bs => b :: bs
  | _ => none
theorem toB_at {r : List Addr} {H : Hp} : ∀ {xs : List Val} {vs : List V} {bs : List Bool}, RVs g r H xs vs → toB xs = some bs → vs = bs.map V.bl
  | _, _, _, .nil, e => by cases e; rfl
  | _, _, _, .cons (.bl b) t, e => by
    simp only [toB, Option.map_eq_some_iff] at e
    obtain ⟨bs, e1, rfl⟩ := e
    rw [toB_at t e1]; rfl
  | _, _, _, .cons .non _, e => by cases e
  | _, _, _, .cons (.int _) _, e => by cases e
  | _, _, _, .cons (.str _) _, e => by cases e
  | _, _, _, .cons (.ty _) _, e => by cases e
  | _, _, _, .cons (.fn _) _, e => by cases e
  | _, _, _, .cons (.tup ..) _, e => by cases e
  | _, _, _, .cons (.lst ..) _, e => by cases e
  | _, _, _, .cons (.scr ..) _, e => by cases e
  | _, _, _, .cons (.ref _) _, e => by cases e
  | _, _, _, .cons (.ptp ..) _, e => by cases e
def fQuant (al : Bool) : FN := fun S xs => match xs with
  | [x] => (lstOf S x).bind fun ys => (toB ys).map fun bs => .bl (if al then bs.all id else bs.any id)
  | _ => none
theorem c_all (hc : X.calm = true) : CallR X (.builtin "all") (rGn g (fQuant true)) := by
  intro pins s st H vs us Q I rs h
  obtain ⟨z, r, S, xs, v, sr, rx, e, q⟩ := h
  unfold fQuant at e
  split at e
  · simp only [Option.map_eq_some_iff, Option.bind_eq_some_iff] at e
    obtain ⟨ys, e1, bs, e2, rfl⟩ := e
    cases rx with
    | cons a b =>
      cases b
      obtain ⟨p, ws, rfl, hp, hz, hs⟩ := lstOf_at sr a e1
      rw [toB_at hs e2] at hp
      exact cr_all hc pins s st H _ us Q I rs ⟨p, bs, rfl, .inl (.inl hp), q r H _ (.refl r H) sr (.bl _)⟩
  · cases e
theorem c_any (hc : X.calm = true) : CallR X (.builtin "any") (rGn g (fQuant false)) := by
  intro pins s st H vs us Q I rs h
  obtain ⟨z, r, S, xs, v, sr, rx, e, q⟩ := h
  unfold fQuant at e
  split at e
  · simp only [Option.map_eq_some_iff, Option.bind_eq_some_iff] at e
    obtain ⟨ys, e1, bs, e2, rfl⟩ := e
    cases rx with
    | cons a b =>
      cases b
      obtain ⟨p, ws, rfl, hp, hz, hs⟩ := lstOf_at sr a e1
      rw [toB_at hs e2] at hp
      exact cr_any hc pins s st H _ us Q I rs ⟨p, bs, rfl, .inl (.inl hp), q r H _ (.refl r H) sr (.bl _)⟩
  · cases e

/-! isinstance, str -/
def kindOf (S : Sto) : Val → Option String
  | .non => some "NoneType"
  | .bl _ => some "bool"
  | .int _ => some "int"
  | .str _ => some "str"
  | .tup _ => some "tuple"
  | .ptp _ => some "tuple"
  | .lst _ => some "list"
  | .scr _ => some "list"
  | .ref n => match S[n]? with
    | some (.lst _)
          => some "list"
    | some (.dK _) => some "dict"
    | _ => none
  | _ => none
theorem kind_at {r : List Addr} {H : Hp} {S : Sto} {a : Val} {x : V} {k : String} (sr : SR g r H S) (h : RV g r H a x) (e : kindOf S a = some k) : TyX g.K H x (.type k) := by
  cases h with
  | non => cases e; exact .base .non
  | bl b => cases e; exact .base (.bl b)
  | int b => cases e; exact .base (.int b)
  | str b => cases e; exact .base (.str b)
  | ty b => cases e
  | fn b => cases e
  | tup h1 h2 h3 =>
    cases e
    rcases h1 with (h | ⟨o, h⟩) | ⟨o, its, n, h, hc, _⟩
    · exact .base (.tup h)
    · exact .fTuple h
    · exact .kTuple h hc
  | ptp h1 => cases e; exact .fTuple h1
  | lst h1 => cases e; exact .base (.lst h1)
  | scr h1 => cases e; exact .base (.frz h1)
  | ref ha =>
    simp only [kindOf] at e
    split at e
    · rename_i hx
      cases e
      obtain ⟨u, hu, ro⟩ := sr.at_ _ _ _ hx ha
      cases ro with
      | lst => exact .base (.lst hu)
    · rename_i hx
      cases e
      obtain ⟨u, hu, ro⟩ := sr.at_ _ _ _ hx ha
      cases ro with
      | dK => exact .base (.dK hu)
    · cases e
def fIsi : FN := fun S xs => match xs with
  | [x, .ty t] => (kindOf S x).bind fun k => (kitB k t).map .bl
  | _ => none
theorem c_isi (hK : g.K = X.K) : CallR X (.builtin "isinstance") (rGn g fIsi) := by
  intro pins s st H vs us Q I rs h
  obtain ⟨z, r, S, xs, v, sr, rx, e, q⟩ := h
  unfold fIsi at e
  split at e
  · simp only [Option.map_eq_some_iff, Option.bind_eq_some_iff] at e
    obtain ⟨k, e1, b, e2, rfl⟩ := e
    cases rx with
    | cons a t =>
      cases t with
      | cons c t =>
        cases t
        cases c
        have ty := kind_at sr a e1
        rw [show (g.at z).K = X.K from hK] at ty
        exact call_isi pins s st H _ us Q I rs ⟨_, _, _, _, b, rfl, .ty _, ty, kit_ty e2, q r H _ (.refl r H) sr (.bl b)⟩
  · cases e
def fStrI : FN := fun _ xs => match xs with
  | [.int i] => if i.natAbs.log2 < 1920 then some (.str (toString i)) else none
  | _ => none
theorem c_strI : CallR X (.type "str") (rGn g fStrI) := by
  intro pins s st H vs us Q I rs h
  obtain ⟨z, r, S, xs, v, sr, rx, e, q⟩ := h
  unfold fStrI at e
  split at e
  · split at e
    · rename_i hz
      cases e
      cases rx with
      | cons a t =>
        cases t
        cases a
        exact call_str_int pins s st H _ us Q I rs ⟨_, rfl, hz, q r H _ (.refl r H) sr (.str _)⟩
    · cases e
  · cases e
end
end Mp
namespace Mp
open PySem PySem.Spec
      PyProof.Rows L2

/-! ### sorted(list), set(..), sorted(set(..)), len(set(..)) of keys -/
theorem refs_of {g : Gx} {r : List Addr} {H : Hp} : ∀ {xs : List Val} {vs : List V} {ks : List NestedKey}, RVs g r H xs vs → toKs xs = some ks → ks.all keyOk = true → ∃ L : List Row, vs = L.map (fun p => V.ref p.1) ∧ L.map (·.2) = ks ∧ ∀ p ∈ L, RV g r H (ofK p.2) (.ref p.1)
  | _, _, _, .nil, e, _ => by cases e; exact ⟨[], rfl, rfl, fun p hp => (by cases hp)⟩
  | x :: xs, v :: vs, _, .cons h t, e, ok => by
    simp only [toKs, Option.bind_eq_some_iff, Option.map_eq_some_iff] at e
    obtain ⟨k, e1, ks, e2, rfl⟩ := e
    simp only [List.all_cons, Bool.and_eq_true] at ok
    obtain ⟨L, rfl, l2, l3⟩ := refs_of t e2 ok.2
    have ok1 := ok.1
    unfold keyOk at ok1
    rw [Bool.and_eq_true] at ok1
    have hx := ofK_toK e1
    cases h with
    | @tup a _ ws h1 h2 h3 =>
      refine ⟨(a, k) :: L, rfl, by rw [List.map_cons, l2], fun p hp => ?_⟩
      rcases List.mem_cons.mp hp
            with rfl | hp
      · show RV g r H (ofK k) (.ref a)
        rw [hx]; exact .tup h1 h2 h3
      · exact l3 p hp
    | non => cases e1; exact absurd ok1.2 (by simp)
    | int => cases e1; exact absurd ok1.2 (by simp)
    | str => cases e1; exact absurd ok1.2 (by simp)
    | bl => cases e1
    | ty => cases e1
    | fn => cases e1
    | lst => cases e1
    | scr => cases e1
    | ref => cases e1
    | ptp => cases e1
theorem keyOk_depth {k : NestedKey} (h : keyOk k = true) : k.depth ≤ 8 := by
  unfold keyOk at h
  simp at h
  exact h.1
/-- what a list of such keys asks so that it can be sorted -/
def sortOk (ks : List NestedKey) : Bool := alikeKeys ks && sortableKeys ks && ks.all fun k => decide (k.depth ≤ 8)
def setOk (ks : List NestedKey) : Bool := ks.all keyOk && decide ((uniq ks).length < 64)
def fSort : FN := fun S xs => match xs with
  | [x] => (seqOf S x).bind fun ys => (toKs ys).bind fun ks => if sortOk ks then some (.lst (ofKs (ks.mergeSort keyLe))) else none
  | _ => none
def fSortSet : FN := fun S xs => match xs with
  | [x] => (seqOf S x).bind fun ys => (toKs ys).bind fun ks => if sortOk ks && setOk ks then some (.lst (ofKs (sortKeys ks))) else none
  | _ => none
def fLenSet : FN := fun S xs => match xs with
  | [x] => (seqOf S x).bind fun ys => (toKs ys).bind fun ks => if setOk ks then some (.int (uniq ks).length) else none
  | _ => none
theorem few_of {ks : List NestedKey} {L : List Row} (h : L.map (·.2) = ks) (f : (uniq ks).length < 64) : Few L := fun L' nd sub => by
  have : (L'.map (·.2)).length ≤ (uniq ks).length := nd.length_le_of_subset fun k hk => by
    obtain ⟨p, hp, rfl⟩ := List.mem_map.mp hk
    rw [mem_uniq, ← h]
    exact List.mem_map_of_mem (sub p hp)
  rw [List.length_map] at this
  omega
theorem alike_rows {L : List Row} {ks : List NestedKey} (h : ∀ p ∈ L, p.2 ∈ ks) (al : alikeKeys ks = true) : PySem.W.AllAlike (L.map fun p => p.2.data) := fun d hd d' hd' => by
  obtain ⟨p, hp, rfl⟩ := List.mem_map.mp hd
  obtain ⟨p', hp', rfl⟩ := List.mem_map.mp hd'
  exact alikeKeys_at al (h p hp) (h p' hp')
theorem sortable_rows {L : List Row} {ks : List NestedKey} (h : ∀ p ∈ L, p.2 ∈ ks) (so : sortableKeys ks = true) : Mt.Sort2 (L.map fun p => p.2.data) := by
  have q := sortableKeys_ok so
  refine q.elim (fun q => .inl fun d hd => ?_) (fun q => .inr fun d hd => ?_)
  · obtain ⟨p, hp, rfl⟩ := List.mem_map.mp hd
    exact q _ (List.mem_map_of_mem (h p hp))
  · obtain ⟨p, hp, rfl⟩ := List.mem_map.mp hd
    exact q _ (List.mem_map_of_mem (h p hp))
theorem rows_rvs {g : Gx} {r : List Addr} {H : Hp} : ∀ {L : List Row}, (∀ p ∈ L, RV g r H (ofK p.2) (.ref p.1)) → RVs g r H (ofKs (L.map (·.2))) (L.map fun p => V.ref p.1)
  | [], _ => .nil
  | p :: L, h => .cons (h p List.mem_cons_self) (rows_rvs fun q hq => h q (List.mem_cons_of_mem _ hq))
theorem refs_vals : ∀ {L : List Row} {us : List Value}, Vals (L.map fun p => V.ref p.1) us → us = L.map fun p => Value.ref p.1
  | [], _, .nil => rfl
  | _ :: _, _, .cons a t => by cases a; rw [refs_vals t]; rfl
theorem vals_refs : ∀ (L : List Row), Vals (L.map fun p => V.ref p.1) (L.map fun p => Value.ref p.1)
  | [] => .nil
  | p :: L => .cons rfl (vals_refs L)
section
variable {X : Cx} {g : Gx} {pos : Pos}
/-- set(x), x's items tuples: a new set -/
def rSetG (g : Gx) (P : Program) (w : World) : List V → Hp → VK → Prop := fun vs H Q => ∃ z r S x ys ks, SR (g.at z) r H S ∧ RVs (g.at z) r H [x] vs ∧ seqOf S x = some ys ∧ toKs ys = some ks ∧ setOk ks = true ∧
  ∀ D (L : List Row), H D = none → (L.map (·.2)).Nodup → (∀ k, k ∈ L.map (·.2) ↔ k ∈ ks) → (∀ p ∈ L, RV (g.at z) r H (ofK p.2) (.ref p.1)) → Q (.ref D) (upd H D (SetHO P w D L))
theorem c_set (hK : g.K = X.K) (hc : X.calm = true) (hu : X.A.units + 12 < cLine) : CallR X (.type "set") (rSetG g X.prog X.w) := by
  intro pins s st H vs us Q I rs h
  obtain ⟨z, r, S, x, ys, ks, sr, rx, e1, e2, ok, q⟩ := h
  unfold setOk at ok
  rw [Bool.and_eq_true, decide_eq_true_eq] at ok
  cases rx with
  | cons a b =>
    cases b
    obtain ⟨p, ws, rfl, hp, hz, hs⟩ := seqOf_at sr a e1
    obtain ⟨L, rfl, l2, l3⟩ := refs_of hs e2 ok.1
    rw [show (g.at z).K = X.K from hK] at hp
    obtain ⟨u, rfl, ru⟩ := vals1 rs
    cases ru
    have hn : H s.heap.objs.size
          = none := I.hok.fresh (Nat.le_refl _)
    have mem : ∀ p ∈ L, Mem1 X.prog X.w s.heap p.2 p.1 := fun p hp => by
      have hk : p.2 ∈ ks := by rw [← l2]; exact List.mem_map_of_mem hp
      have hd := keyOk_depth (List.all_eq_true.mp ok.1 p.2 hk)
      exact ⟨(RV.key (g := g.at z) hK I (l3 p hp) (show RelV (.ref p.1) (.ref p.1) from rfl) (toK_ofK p.2)).1, hd⟩
    have fin : ∀ (h' : Heap) (tk : Nat) L' es ep t, SetN X.prog X.w h' s.heap.objs.size L' es ep t → Had L L.length L' → (∀ b o, s.heap.get? b = some o → h'.get? b = some o) → EP X pins st Q (.ref s.heap.objs.size) { s with heap := h', toks := tk } := fun h' tk L' es ep t R hd k => by
      refine ⟨.ref s.heap.objs.size, _, I.laid (t' := tk) k (Nat.le_refl _) R.bare.ok, rfl, q _ L' hn R.nd (fun k => ⟨fun hk => ?_, fun hk => ?_⟩) fun p hp => l3 p (List.mem_of_mem_take (hd.sub p hp))⟩
      · obtain ⟨p, hp, rfl⟩ := List.mem_map.mp hk
        rw [← l2]
        exact List.mem_map_of_mem (List.mem_of_mem_take (hd.sub p hp))
      · rw [← l2] at hk
        obtain ⟨p, hp, rfl⟩ := List.mem_map.mp hk
        exact hd.all p (by rw [List.take_length]; exact hp)
    rcases hp with hp | ⟨hp, _⟩
    · obtain ⟨its, rv, pl, _⟩ := I.list hp
      exact set_of_list (I.ok.hd hc) pl.isList (by simpa using refs_vals rv) mem (few_of l2 ok.2) hu fin
    · obtain ⟨its, rv, pl, _⟩ := I.tuple hp
      exact set_of_tuple (I.ok.hd hc) pl (by simpa using refs_vals rv) mem (few_of l2 ok.2) hu fin
/-- sorted(set) -/
def rSortG (g : Gx) (P : Program) (w : World) : List V → Hp → VK → Prop := fun vs H Q => ∃ z r S D L ks, SR (g.at z) r H S ∧ vs = [.ref D] ∧ H D = some (SetHO P w D L) ∧ (L.map (·.2)).Nodup ∧ (∀ k, k ∈ L.map (·.2) ↔ k ∈ ks) ∧ (∀ p ∈ L, RV (g.at z) r H (ofK p.2) (.ref p.1)) ∧
  sortOk ks = true ∧ ∀ r' H' hv, Step r H r' H' → SR (g.at z) r' H' S → RV (g.at z) r' H' (.lst (ofKs (sortKeys ks))) hv → Q hv H'
theorem c_sortSet (hK : g.K = X.K) (hc : X.calm = true) (hu : X.A.units + 20 < cLine) : CallR X (.builtin "sorted") (rSortG g X.prog X.w) := by
  intro pins s st H vs us Q I rs h
  obtain ⟨z, r, S, D, L, ks, sr, rfl, hD, nd, mk, l3, ok, q⟩ := h
  unfold sortOk at ok
  simp only
        [Bool.and_eq_true] at ok
  obtain ⟨⟨al, so⟩, dp⟩ := ok
  obtain ⟨u, rfl, ru⟩ := vals1 rs
  cases ru
  have sub : ∀ p ∈ L, p.2 ∈ ks := fun p hp => (mk p.2).mp (List.mem_map_of_mem hp)
  have deep : ∀ p ∈ L, p.2.depth ≤ 8 := fun p hp => by
    have := List.all_eq_true.mp dp p.2 (sub p hp)
    simpa using this
  have both : ∀ p ∈ L, NestedIs s.heap p.2 (.ref p.1) ∧ Reads s.heap (.ref p.1) p.2.data [] := fun p hp => RV.key (g := g.at z) hK I (l3 p hp) (show RelV (.ref p.1) (.ref p.1) from rfl) (toK_ofK p.2)
  have R0 : SetN0 X.prog X.w s.heap D L := (I.hok D _ hD).1
  obtain ⟨es, ep, t, R⟩ := R0.full fun p hp => ⟨(both p hp).1, deep p hp⟩
  have few := R.few
  refine sorted_of_set R (I.ok.hd hc) (fun p hp => (both p hp).2) hu (alike_rows sub al) (sortable_rows sub so) (fun p hp => by rw [data_depth]; have := deep p hp; omega) fun s' l out c L1 k g1 o1 hl hg pm eo => ?_
  have hn : H l = none := I.hok.fresh hl
  have len : (L1.mergeSort rowLe).length = L.length := by rw [List.length_mergeSort, pm.length_eq]
  have vs' : Vals ((L1.mergeSort rowLe).map fun p => V.ref p.1) out.toList := by rw [eo]; exact vals_refs _
  have hz : ((L1.mergeSort rowLe).map fun p => V.ref p.1).length ≤ sizeLine := by rw [List.length_map, len, sizeLine_eq]; omega
  have J : Inv X pins st (upd H l (.lst ((L1.mergeSort rowLe).map fun p => V.ref p.1))) { s with heap := s'.heap, gens := s'.gens, drawn := s'.drawn, toks := s'.toks } :=
    I.call (ch := []) (Un.laid k hl hn) (I.hok.laid k hl ⟨hz, out.toList, c, vs', hg⟩) (by rw [g1]; exact I.bare) (fun _ z => nomatch z)
  have es' : s' = { s with heap := s'.heap, gens := s'.gens, drawn := s'.drawn, toks := s'.toks } := by
    obtain ⟨_, _, _, _, _⟩ := s'
    cases o1
    rfl
  rw [es']
  have keys : (L1.mergeSort rowLe).map (·.2) = sortKeys ks := by
    rw [List.map_mergeSort (r := rowLe) (s := keyLe) (f := fun p : Row => p.2) (l := L1) (fun a _ b _ => rfl)]
    refine sortKeys_of al ((pm.map (·.2)).nodup_iff.mpr nd) fun k => ?_
    rw [(pm.map (·.2)).mem_iff]
    exact mk k
  refine ⟨.ref l, _, J, rfl, q r _ (.ref l) (Step.new1 hn) (sr.beside hn) ?_⟩
  rw [← keys]
  refine RV.newL sr hn ?_ (rows_rvs fun p hp => l3 p (pm.mem_iff.mp ((List.mergeSort_perm _ _).mem_iff.mp hp)))
  rw [ofKs_map, List.length_map, List.length_map, len, sizeLine_eq]
  omega
/-- sorted(set(e)) as one word -/
theorem d_sortSet {e : Expr} {m : ME} {p p2 pos2 : Pos} (hK : g.K = X.K) (hc : X.calm = true) (hu : X.A.units + 20 < cLine) (hg : Gl X "sorted") (hm : X.mg "sorted" = none) (hg2 : Gl X "set") (hm2 : X.mg "set" = none) (he : PE X e (tD g m))
    (hs : starEach [e] X.env = (false, eval e X.env) :: starEach [] X.env := by rfl) (hs2 : starEach [.Call (.Name "set" p2) [e] [] pos2] X.env = (false, eval (.Call (.Name "set" p2) [e] [] pos2) X.env) :: starEach [] X.env := by rfl) :
    PE X (.Call (.Name "sorted" p) [.Call (.Name "set" p2) [e] [] pos2] [] pos) (tD g (eFn fSortSet (esCons m esNil))) := by
  refine PE.weak (pe_callB (c_sortSet hK hc hu) hg hm (by decide +kernel) (pa_cons (pe_callTy (c_set hK hc (by omega)) hg2 hm2 (by decide +kernel) (d_cons he d_nil hs) (he := hs)) pa_nil hs2) (he := hs2)) fun st H Q h => ?_
  obtain ⟨z, r, S, sl, v, S', R, e, q⟩ := h
  simp only [eFn, esCons, esNil, Option.bind_eq_some_iff] at e
  obtain ⟨⟨xs, S1⟩, ⟨⟨x, S2⟩, e1, ⟨ys, S3⟩, e2, e3⟩, w, e4, e5⟩ := e
  cases e2
  cases e3
  cases e5
  simp only [fSortSet, Option.bind_eq_some_iff] at e4
  obtain ⟨ys, f1, ks, f2, f3⟩ := e4
  split at f3
  · rename_i ok
    cases f3
    rw [Bool.and_eq_true] at ok
    refine ⟨z, r, S, sl, [x], _, R, by simp [esCons, esNil, e1], fun r1 H1 vs s1 sr1 rx => ⟨z, r1, _, x, ys, ks, sr1, rx, f1, f2, ok.2, fun D L hD nd mk l3 => ?_⟩⟩
    have st := Step.new1 (r := r1) (o := SetHO X.prog X.w D L) hD
    refine ⟨z, r1, _, D, L, ks, sr1.beside hD, rfl, upd_same, nd, mk, fun p hp => (l3 p hp).mono st sr1.own, ok.1, fun r2 H2 hv s2 sr2 rv => q r2 H2 hv ((s1.trans st).trans s2) sr2 rv⟩
  · cases f3
end
end Mp
namespace Mp
open PySem PySem.Spec PySem.Calls PyProof.Rows L2

/-! ### sets of texts -/
def txtOf (e : Int × Value) : Str := match e.2 with
  | .str x _ => x
  | _ => Str.empty
def TxtE (w : World) (e : Int × Value) : Prop := ∃ x t, e.2 = Value.str x t ∧ e.1 = hashStr w x
structure SetT (w : World) (h : Heap) (a : Addr) (T : List Str) (es : Array (Int × Value)) (ep : Nat) (t : SetTable) : Prop where
  ob : ∃ o, h.get? a = some o
        ∧ o.ExactSet ∧ o.data = .set es ep t
  rows : ∀ e ∈ es.toList, TxtE w e
  txt : es.toList.map txtOf = T
  nd : T.Nodup
  few : es.size < scanBound
  fits : t.fits es.size = true
  ris : Ris t.place.toList
  led : w.params.followText "set-order"
        = true ∨ t.led = true
section
variable {P : Program} {w : World} {A : Around} {E : Value → Shared → Prop} {s : Shared} {a : Addr} {T : List Str} {es : Array (Int × Value)} {ep : Nat} {t : SetTable}
theorem txt_elems {l : List (Int × Value)} (g : ∀ e ∈ l, TxtE w e) : ElemsOf (PySem.strKind P w) l := fun e he => by
  obtain ⟨x, tk, e1, e2⟩ := g e he
  rw [e1]
  exact ⟨⟨x, PySem.strKind_is P w x tk, e2⟩, rfl⟩
theorem txt_is {e : Int × Value} (g : TxtE w e) (x : Str) : (PySem.strKind P w).is x e.2 = true ↔ txtOf e = x := by
  obtain ⟨y, tk, e1, _⟩ := g
  unfold txtOf
  rw [e1]
  show (y == x) = true ↔ y = x
  exact beq_iff_eq
theorem SetT.kept {h h' : Heap} (R : SetT w h a T es ep t) (k : ∀ o, h.get? a = some o → h'.get? a = some o) : SetT w h' a T es ep t := by
  obtain ⟨o, e, r⟩ := R.ob
  exact { R with ob := ⟨o, k o e, r⟩ }
theorem setT_fresh {h : Heap} (e : h.get? a = some (freshSet w)) : SetT w h a [] #[] 0 (.fresh 0 0 (!w.params.followText "set-order")) := by
  refine ⟨⟨_, e, ⟨rfl, rfl, rfl⟩, rfl⟩, fun e he => (by simp at he), rfl, List.nodup_nil, by decide, by rfl, by show Ris []; exact List.Pairwise.nil, ?_⟩
  by_cases hf : w.params.followText "set-order" = true
  · exact .inl hf
  · exact .inr (by show (!w.params.followText "set-order") = true; simp [hf])
theorem txt_tail {gw : Bool → Sem Unit} (hg : ∀ (b : Bool) (s1 : Shared) (Q' : Unit → Shared → Prop), Q' () s1 → wpAny (model P w) A (gw b) Q' E s1) {o : Obj} (e1 : s.heap.get? a = some o) (e2 : o.ExactSet) (e3 : o.data = .set es ep t) {es1 : Array (Int × Value)} {tb : SetTable} {T1 : List Str}
    (rows : ∀ e ∈ es1.toList, TxtE w e) (txt : es1.toList.map txtOf = T1) (nd : T1.Nodup) (few : es1.size < scanBound) (fits : tb.fits es1.size = true) (ris : Ris tb.place.toList) (led : w.params.followText "set-order" = true ∨ tb.led = true) {was : Bool} {R : Option Bool → Shared → Prop}
    (q : ∀ h' T' es' ep' t', Heap.SameBut a s.heap h' → SetT w h' a T' es' ep' t' → T'.Perm T1 → R (some true) { s with heap := h' }) :
    wpAny (model P w) A (do
        storeSet a es1 tb
        if (!was && tb.tooFull) = true then do
            gw (relayAll tb es1 (SetTable.grown es1.size)).2.2
            storeSet a (relayAll tb es1 (SetTable.grown es1.size)).1 (relayAll tb es1 (SetTable.grown es1.size)).2.1
            pure (some true)
          else pure
                (some true)) R E s := by
  refine wpAny_bind (wpAny_storeSet_of e1 e3 ?_ (fits_of_scanBound few))
  have o1 := store_at (es' := es1) (t' := tb) e1 e3
  have sb := Heap.SameBut.update s.heap a (Obj.putSet es1 tb)
  by_cases full : (!was && tb.tooFull) = true
  · refine wp_if_pos full ?_
    have pm := relayAll_perm tb es1 (SetTable.grown es1.size)
    have f2 := relayAll_fits tb es1 (SetTable.grown es1.size)
    have r2 := relayAll_ris tb es1 (SetTable.grown es1.size)
    have l2 := relayAll_led tb es1 (SetTable.grown es1.size)
    generalize relayAll tb es1 (SetTable.grown es1.size) = Z at pm f2 r2 l2 ⊢
    obtain ⟨es2, t2, gave⟩ := Z
    dsimp only at pm f2 r2 l2 ⊢
    have z2 : es2.size < scanBound := by rw [← Array.length_toList, pm.length_eq, Array.length_toList]; exact few
    refine wpAny_bind (hg _ _ _ (wpAny_bind (wpAny_storeSet_of o1 rfl ?_ (fits_of_scanBound z2))))
    have o2 := store_at (es' := es2) (t' := t2) o1 rfl
    have pt : (es2.toList.map txtOf).Perm T1 := by rw [← txt]; exact pm.map _
    exact wpAny_pure (q _ _ es2 _ t2 (sb.trans (Heap.SameBut.update _ a _)) ⟨⟨_, o2, e2, rfl⟩, fun e he => rows e (pm.mem_iff.mp he), rfl, pt.nodup_iff.mpr nd, z2, f2, r2, by rw [l2]; exact led⟩ pt)
  · refine wp_if_neg full ?_
    exact wpAny_pure (q _ T1 es1 _ tb sb ⟨⟨_, o1, e2, rfl⟩, rows, txt, nd, few, fits, ris, led⟩ (List.Perm.refl _))
/-- one more text -/
theorem put_txt (R : SetT w s.heap a T es ep t) {x : Str} {tk : Tok} (room : es.size + 1 < scanBound) {Q : Bool → Shared → Prop}
    (q : ∀ b h' T' es' ep' t', Heap.SameBut a s.heap h' → SetT w h' a T' es' ep' t' → (x ∈ T → T' = T) → (x ∉ T → T'.Perm (x :: T)) → Q b { s with heap := h' }) :
    wpAny (model P w) A (setAddHashed a (.str x tk) (hashStr w x)) Q E s := by
  obtain ⟨o, e1, e2, e3⟩ := R.ob
  have hel : ElemsOf (PySem.strKind P w) es.toList := txt_elems R.rows
  have hkey : (PySem.strKind P w).is x (.str x tk) = true := PySem.strKind_is P w x tk
  unfold setAddHashed
        setAddHashedIn
  refine wpAny_holding (wpAny_bind (wpAny_setState_of e1 e3 R.fits ?_))
  dsimp only
  rw [byScan_of rfl R.few hel]
  simp only [↓reduceIte]
  unfold setAddByScan
  refine wpAny_bind (wpAny_bind (wpAny_rule (wpAny_bind (m := setScan a (.str x tk) ((PySem.strKind P w).hash x) true es) (wpAny_setScan_of hkey e1 e3 R.fits hel ?_))))
  cases hf : es.toList.findIdx? (fun e => (PySem.strKind P w).is x e.2) with
  | some j =>
    obtain ⟨hj, pj, _⟩ := List.findIdx?_eq_some_iff_getElem.mp hf
    have hx : x ∈ T := by
      rw [← R.txt, List.mem_map]
      exact ⟨_, List.getElem_mem hj, (txt_is (P := P) (R.rows _ (List.getElem_mem hj)) x).mp pj⟩
    refine wpAny_pure
          (wpAny_pure ?_)
    exact q false s.heap T es ep t (Heap.SameBut.refl a s.heap) R (fun _ => rfl) fun z => absurd hx z
  | none =>
    have hx : x ∉ T := fun z => by
      rw [← R.txt, List.mem_map] at z
      obtain ⟨e, he, ee⟩ := z
      have c := List.findIdx?_eq_none_iff.mp hf e he
      rw [(txt_is (P := P) (R.rows e he) x).mpr ee] at c
      cases c
    have quiet : ∀ (b : Bool) {s1 : Shared} {Q' : Unit → Shared → Prop}, Q' () s1 → wpAny (model P w) A (match b with | true => rule "set.scan.the-table-gave-way" | false => pure ()) Q' E s1 := fun b s1 Q' z => by
      cases b
      · exact wpAny_pure z
      · exact wpAny_rule z
    have pm := layNew_perm t es (hashStr w x) (.str x tk)
    have f1 := layNew_fits t es (hashStr w x) (.str x tk)
    have r1 := layNew_ris t es (hashStr w x) (.str x tk) R.ris
    have l1 := layNew_led t es (hashStr w x) (.str x tk)
    dsimp only
    change wpAny _ _ (do
      let (es, t, wasDummy, gave) := layNew t es (hashStr w x) (.str x tk)
      _) _ _ _
    generalize layNew t es (hashStr w x) (.str x tk) = Z at pm f1 r1 l1 ⊢
    obtain ⟨es1, t1, was, gave⟩ := Z
    dsimp only at pm f1 r1 l1 ⊢
    rw [Array.toList_push] at pm
    have pc : es1.toList.Perm ((hashStr w x, Value.str x tk) :: es.toList) := pm.trans (List.perm_append_singleton _ _)
    have pt : (es1.toList.map txtOf).Perm (x :: T) := by rw [← R.txt]; exact pc.map txtOf
    have rows : ∀ e ∈ es1.toList, TxtE w e := fun e he => by
      rcases List.mem_cons.mp (pc.mem_iff.mp he) with rfl | z
      · exact ⟨x, tk, rfl, rfl⟩
      · exact R.rows e z
    have few : es1.size < scanBound := by rw [← Array.length_toList, pc.length_eq, List.length_cons, Array.length_toList]; exact room
    have nd1 : (es1.toList.map txtOf).Nodup := pt.nodup_iff.mpr (List.nodup_cons.mpr ⟨hx, R.nd⟩)
    have led1 : w.params.followText "set-order" = true ∨ t1.led = true := by rw [l1]; exact R.led
    refine wpAny_bind (quiet _ ?_)
    by_cases pl : t1.plain = true
    · refine wp_if_pos pl (wpAny_bind ?_)
      rw [hashByValue_scannable 8 (x := .str x tk) rfl]
      refine wpAny_pure ?_
      refine txt_tail (T1 := es1.toList.map txtOf) ?_ e1 e2 e3 rows rfl nd1 few ?_ ?_ ?_ ?_
      · exact fun b s1 Q' z => quiet b z
      · split
        · exact f1
        · exact SetTable.fits_plain_off f1
      · split <;> exact r1
      · split <;> exact led1
      · exact fun h' T' es' ep' t' sb R' p => wpAny_pure (q true h' T' es' ep' t' sb R' (fun z => absurd z hx) fun _ => p.trans pt)
    · refine wp_if_neg pl (wpAny_bind (wpAny_pure ?_))
      simp only [↓reduceIte]
      refine txt_tail (T1 := es1.toList.map txtOf) ?_ e1 e2 e3 rows rfl nd1 few f1 r1 led1 ?_
      · exact fun b s1 Q' z => quiet b z
      · exact fun h' T' es' ep' t' sb R' p => wpAny_pure (q true h' T' es' ep' t' sb R' (fun z => absurd z hx) fun _ => p.trans pt)
end
end Mp
namespace Mp
open PySem PySem.Spec PySem.Calls PyProof.Rows L2
section
variable {P : Program} {w : World} {A : Around}
      {E : Value → Shared → Prop} {s : Shared}
theorem txt_loop {I : Addr} {fp wr : List Addr} {G : Array GenState → Array GenState → Prop} {n : Nat} {Pv : Nat → Value → Prop} {St : Nat → Shared → Prop} {R : Result → Shared → Prop}
    (W : WalksS P w A.in1 I fp wr G n Pv St) {D : Addr} (hD : D ∉ fp) {xs : List Str} (hn : n = xs.length) (few : xs.length + 1 < scanBound) (hval : ∀ i v, Pv i v → ∃ x tk, xs[i]? = some x ∧ v = .str x tk)
    {h0 : Heap} (hD0 : h0.get? D = none) (hw0 : ∀ b ∈ wr, h0.get? b = none) :
    ∀ (j i : Nat) (s : Shared), n - i = j → i ≤ n → St i s → (∀ b o, h0.get? b = some o → s.heap.get? b = some o) → (∃ T es ep t, SetT w s.heap D T es ep t ∧ (∀ x, x ∈ T ↔ x ∈ xs.take i) ∧ es.size ≤ i) →
      (∀ s' T es ep t, Moved (D :: wr) G s s' → SetT w s'.heap D T es ep t → (∀ x, x ∈ T ↔ x ∈ xs) → (∀ b o, h0.get? b = some o → s'.heap.get? b = some o) → R (.ok (.ret .none)) s') →
      codeAny (model P w) A (.builtin "set.update.loop" ⟨[.ref D, .ref I], []⟩) R s := by
  have dw : D ∉ wr := fun z => hD (W.sub _ z)
  have keep : ∀ {s s' : Shared}, Moved wr G s s' → (∀ b o, h0.get? b = some o → s.heap.get? b = some o) → ∀ b o, h0.get? b = some o → s'.heap.get? b = some o := fun m k b o e => m.heap b o (fun z => by rw [hw0 b z] at e; cases e) (k b o e)
  have subs : ∀ b ∈ wr, b ∈ D :: wr := fun b hb => List.mem_cons_of_mem _ hb
  intro j
  induction j with
  | zero =>
    intro i s hj hi hst kp hL hR
    obtain ⟨T, es, ep, t, hS, g, _⟩ := hL
    obtain rfl : i = n := by omega
    refine codeAny_builtin
          F.entry_set_update_loop ?_
    rw [Around.under_plainId
          F.plain_set_update_loop _]
    refine wpAny_bind (m := pyNext (.ref I)) (W.done s _ _ hst fun s' m => ?_)
    refine wpAny_pure (hR s' T es ep t (m.mono subs) (hS.kept fun o e => m.heap D o dw e) (fun x => ?_) (keep m kp))
    rw [g x, hn, List.take_length]
  | succ j ih =>
    intro i s hj hi hst kp hL hR
    obtain ⟨T, es, ep, t, hS, g, sz⟩ := hL
    have lt : i < n := by omega
    refine codeAny_builtin
          F.entry_set_update_loop ?_
    rw [Around.under_plainId
          F.plain_set_update_loop _]
    refine wpAny_bind (m := pyNext (.ref I)) (W.item i s _ _ lt hst fun v s' hP hst' m => ?_)
    obtain ⟨x, tk, hx, rfl⟩ := hval i v hP
    have kp' := keep m kp
    have hS' : SetT w s'.heap D T es ep t := hS.kept fun o e => m.heap D o dw e
    refine wpAny_bind (m := holding [Value.str x tk] (setAdd D (.str x tk))) (wpAny_holding ?_)
    unfold setAdd
    refine wpAny_holding (wpAny_bind (wpAny_pyHash_str ?_))
    refine put_txt (s := { s' with toks := s'.toks + 1 }) hS' (by omega) fun b h' T' es' ep' t' sb R' c1 c2 => ?_
    have sz' : es'.size ≤ i + 1 := by
      have a1 : es'.size = T'.length := by rw [← R'.txt, List.length_map, Array.length_toList]
      have a2 : es.size = T.length := by rw [← hS'.txt, List.length_map, Array.length_toList]
      by_cases c : x ∈ T
      · rw [a1, c1 c]; omega
      · rw [a1, (c2 c).length_eq, List.length_cons]; omega
    have g' : ∀ y, y ∈ T' ↔ y ∈ xs.take (i + 1) := fun y => by
      rw [take_one hx, List.mem_append, List.mem_singleton]
      by_cases c : x ∈ T
      · rw [c1 c, g y]
        constructor
        · exact .inl
        · rintro (z | rfl)
          · exact z
          · exact (g y).mp c
      · rw [(c2 c).mem_iff, List.mem_cons, g y]
        exact Or.comm
    have kp2 : ∀ b o, h0.get? b = some o → h'.get? b = some o := fun b o e => (sb.2 b (fun z => by rw [z, hD0] at e; cases e)).trans (kp' b o e)
    refine wpAny_pure ⟨plainId_quiet F.plain_set_update_loop _, ih (i + 1) _ (by omega) lt (W.frame _ s' _ _ hst' (Nat.le_add_right _ _) fun b hb o e => ?_) kp2 ⟨T', es', ep', t', R', g', sz'⟩ fun s2 T2 es2 ep2 t2 m2 R2 g2 kp3 => ?_⟩
    · rw [sb.2 b fun z => hD (z ▸ hb)]; exact e
    · refine hR s2 T2 es2 ep2 t2 (Moved.trans W.gtrans ((m.mono subs).then_heap (Nat.le_add_right _ _) fun b o hb e => ?_) m2) R2 g2 kp3
      rw [sb.2 b fun z => hb (z ▸ List.mem_cons_self)]; exact e
set_option maxHeartbeats 1600000
  in
/-- set(list), of texts -/
theorem set_of_txts {l : Addr} {items : Array Value} {xs : List Str} {Q : Value → Shared → Prop} (hh : A.handled = none) (hl : s.heap.IsList l items) (hit : ∀ (i : Nat) (v : Value), items[i]? = some v → ∃ (x : Str) (tk : Tok), xs[i]? = some x ∧ v = Value.str x tk) (isz : items.size = xs.length) (few : xs.length + 1 < scanBound)
    (q : ∀ (h' : Heap) (tk : Nat) T es ep t, SetT w h' s.heap.objs.size T es ep t → (∀ x, x ∈ T ↔ x ∈ xs) → (∀ b o, s.heap.get? b = some o → h'.get? b = some o) → Q (.ref s.heap.objs.size) { s with heap := h', toks := tk }) :
    wpAny (model P w) A (call
          (.type "set") [.ref l]) Q E s := by
  refine set_shell (Z := fun s2 => ∃ h' tk T es ep t, s2 = { s with heap := h', toks := tk } ∧ SetT w h' s.heap.objs.size T es ep t ∧ (∀ x, x ∈ T ↔ x ∈ xs) ∧ (∀ b o, s.heap.get? b = some o → h'.get? b = some o)) ?_ fun s2 ⟨h', tk, T, es, ep, t, e, R, g, k⟩ => by
    subst e
    exact q _ _ _ _ _ _ R g k
  have none_at : ∀ b, s.heap.objs.size ≤ b → s.heap.get? b = none := fun b hb => by
    cases e : s.heap.get? b with
    | none => rfl
    | some o => exact absurd (Heap.lt_size e) (Nat.not_lt.mpr hb)
  have hD : (s.heap.push (freshSet w)).get? s.heap.objs.size = some (freshSet w) := Heap.get?_push_size _ rfl
  have ty : Shared.TypeIs { s with heap := s.heap.push (freshSet w) } (.ref s.heap.objs.size) "set" := ⟨_, hD, rfl⟩
  obtain ⟨ol, l1, l2, nl, l3⟩ := hl
  obtain ⟨oc, od, dt, sl⟩ := ol
  simp only at l2 l3
  subst l2 l3
  have l4 : (s.heap.push (freshSet w)).get? l = some { cls := .type "list", dict := od, data := .seq items nl, slots := sl } := Heap.get?_push_of_some _ l1
  have s1 := F.sub_list_set
  have s2 := F.sub_list_frozenset
  have s3 : (Value.type "list" == Value.type "dict") = false := by decide
  have l5 : (s.heap.push (freshSet w)).IsList l items := ⟨_, l4, rfl, nl, rfl⟩
  unfold Builtin.«set.__init__»
        noKeywords Builtin.Frozenset.updateFrom
  generalize hIter : pyIter = iter0
  wp_walk
  subst hIter
  refine wpAny_pyIter_list l5 (wpAny_bind (wpAny_runValue ?_))
  have ll : l < s.heap.objs.size := Heap.lt_size l1
  have z1 : (s.heap.push (freshSet w)).objs.size = s.heap.objs.size + 1 := Heap.size_push ..
  have ne : l ≠ (s.heap.push (freshSet w)).objs.size := by rw [z1]; exact Nat.ne_of_lt (Nat.lt_succ_of_lt ll)
  have nD : s.heap.objs.size ∉ [(s.heap.push (freshSet w)).objs.size, l] := by
    rw [z1]
    simp only [List.mem_cons, List.not_mem_nil, or_false, not_or]
    exact ⟨Nat.ne_of_lt (Nat.lt_succ_self _), Nat.ne_of_gt ll⟩
  refine txt_loop (h0 := s.heap) ((Walks.list (by simp [hh]) _ l ne items).toS) nD isz few hit (none_at _ (Nat.le_refl _)) (fun b hb => none_at b (by rw [List.mem_singleton.mp hb, z1]; exact Nat.le_succ _)) (items.size - 0) 0 _ (by omega) (Nat.zero_le _)
    ⟨⟨_, Heap.get?_push_size _ rfl, rfl, rfl⟩, l5.push _⟩ (fun b o e => Heap.get?_push_of_some _ (Heap.get?_push_of_some _ e)) ⟨[], #[], 0, _, setT_fresh (Heap.get?_push_of_some _ hD), fun x => by simp, by simp⟩ fun s' T es ep t m R g k => ?_
  obtain ⟨h', g', d',
        tk', os'⟩ := s'
  obtain rfl : g' = s.gens := m.gens
  obtain rfl : d' = s.drawn := m.drawn
  obtain rfl : os' = s.os := m.os
  refine wpAny_pure ?_
  exact wpAny_pure ⟨rfl, h', tk', T, es, ep, t, rfl, R, g, k⟩

theorem txts_each : ∀ {vs : List Value} {ts : List Str}, PySem.W.EachIs (fun v x => ∃ tk, v = Value.str x tk) vs ts → Vals (ts.map V.str) vs
  | _, _, .nil => .nil
  | _, _, .cons ⟨tk, e⟩ t => .cons ⟨tk, e⟩ (txts_each t)
theorem each_txts : ∀ (vs : List Value), (∀ v ∈ vs, ∃ x tk, v = Value.str x tk) → PySem.W.EachIs (fun v x => ∃ tk, v = Value.str x tk) vs (vs.map fun v => txtOf (0, v))
  | [], _ => .nil
  | v :: vs, h => by
    refine .cons ?_ (each_txts vs fun u hu => h u (List.mem_cons_of_mem _ hu))
    obtain ⟨x, tk, rfl⟩ := h v List.mem_cons_self
    exact ⟨tk, rfl⟩
/-- sorted(set), of texts -/
theorem sorted_of_txts {a : Addr} {T : List Str} {es : Array (Int × Value)} {ep : Nat} {t : SetTable} {Q : Value → Shared → Prop} (R : SetT w s.heap a T es ep t) (hh : A.handled = none) (hu : A.units + 20 < cLine)
    (q : ∀ s' l (out : Array Value) (c : Nat) (T1 : List Str), (∀ b o, s.heap.get? b = some o → s'.heap.get? b = some o) → s'.gens = s.gens → s'.os = s.os → s.heap.objs.size ≤ l →
      s'.heap.get? l = some (seqObj "list" out c) → T1.Perm T → Vals ((T1.mergeSort fun x y => keyLe (.text x) (.text y)).map V.str) out.toList → Q (.ref l) s') :
    wpAny (model P w) A (call
          (.builtin "sorted") [.ref a]) Q E s := by
  obtain ⟨o, e1, e2, e3⟩ := R.ob
  have few := R.few
  refine Calls.call_function_entry kind_sorted
        plain_sorted entry_sorted (args_sorted1 _) ?_
  unfold Builtin.«sorted»
  refine wpAny_bind
        (m := checkCount "sorted" 1 1 _) (wpAny_pure ?_)
  refine wpAny_bind (collect_set (A := A.in1) hh ⟨o, e1, e2.1, e3⟩ R.fits few R.ris R.led fun s1 vs k1 z1 g1 o1 pm => ?_)
  have alls : ∀ v ∈ vs, ∃ x tk, v = Value.str x tk := fun v hv => by
    obtain ⟨e, he, rfl⟩ := List.mem_map.mp (pm.mem_iff.mp hv)
    obtain ⟨x, tk, e1, _⟩ := R.rows e he
    exact ⟨x, tk, e1⟩
  have len : vs.length = es.size := by rw [pm.length_eq, List.length_map, Array.length_toList]
  have pT : (vs.map fun v => txtOf (0, v)).Perm T := by
    have := pm.map fun v => txtOf (0, v)
    rw [List.map_map] at this
    rw [← R.txt]
    exact this
  have zl : vs.length ≤ sizeLine := by rw [len]; exact fits_of_scanBound few
  refine wpAny_bind (wpAny_newList ?_ zl)
  have hl : (s1.heap.push (seqObj "list" vs.toArray 0)).get? s1.heap.objs.size = some (seqObj "list" vs.toArray 0) := Heap.get?_push_size _ rfl
  have ea := each_txts vs alls
  refine wpAny_bind (wpAny_holding (PySem.W.list_sort_data (s := { s1 with heap := s1.heap.push (seqObj "list" vs.toArray 0) }) (bs := vs.map fun v => txtOf (0, v)) (enc := fun x => .str x) (R := fun v x => ∃ tk, v = Value.str x tk) hl ea
    (ea.mono fun v x ⟨tk, e⟩ => ⟨[], by rw [e]; exact .str x tk, by simp⟩) (PySem.W.AllAlike.of fun x y => by simp [PySem.W.alike]) (PySem.W.Sortable.others fun x => ⟨by simp, by simp⟩) (by rw [List.length_map]; exact zl)
    (fun x _ => by show A.units + 1 + 1 + (PyData.str x).depth < cLine; simp [PyData.depth]; omega) fun out a1 a2 => ?_))
  obtain ⟨c, hc⟩ := sortedHeap_at (vs := vs) (out := out.toArray) hl
  refine wpAny_pure ⟨_, rfl, q _ s1.heap.objs.size out.toArray c (vs.map fun v => txtOf (0, v)) (fun b u e => ?_) g1 o1 z1 hc pT (txts_each a2)⟩
  have q1 := k1 b u e
  have hlt := Heap.lt_size q1
  show (sortedHeap (s1.heap.push (seqObj "list" _ 0)) s1.heap.objs.size _ out.toArray).get? b = some u
  rw [sortedHeap_old (Nat.ne_of_lt hlt) (by rw [size_push']; exact Nat.lt_succ_of_lt hlt), Heap.get?_push_of_some _ q1]
end
end Mp
namespace Mp
open PySem PySem.Spec
      PyProof.Rows L2

def SetT0 (w : World) (h : Heap) (a : Addr) (T : List Str) : Prop := ∃ es ep t, SetT w h a T es ep t
def TxtHO (w : World) (a : Addr) (T : List Str) : HO := .ext fun h => SetT0 w h a T
theorem SetT.ok {P : Program} {w : World} {H : Hp} {h : Heap} {a : Addr} {T : List Str} {es : Array (Int × Value)} {ep : Nat} {t : SetTable} (R : SetT w h a T es ep t) : ObjOk P w H h a (TxtHO w a T) := by
  refine ⟨⟨es, ep, t, R⟩, ?_, fun h1 h2 p k => ?_⟩
  · obtain ⟨o, e, _⟩ := R.ob
    exact ⟨o, e⟩
  · obtain ⟨es, ep, t, R⟩ := p
    exact ⟨es, ep, t, R.kept k⟩
/-- texts -/
def toT : List Val → Option (List Str)
  | [] => some []
  | .str x :: xs => (toT xs).map fun ys => x :: ys
  | _ => none
theorem toT_at {g : Gx} {r : List Addr} {H : Hp} : ∀ {xs : List Val} {vs : List V} {ys : List Str}, RVs g r H xs vs → toT xs = some ys → vs = ys.map V.str
  | _, _, _, .nil, e => by cases e; rfl
  | _, _, _, .cons (.str b) t, e => by
    simp only [toT, Option.map_eq_some_iff] at e
    obtain ⟨ys, e1, rfl⟩ := e
    rw [toT_at t e1]; rfl
  | _, _, _, .cons .non _, e => by cases e
  | _, _, _, .cons (.int _) _, e => by cases e
  | _, _, _, .cons (.bl _) _, e => by cases e
  | _, _, _, .cons (.ty _) _, e => by cases e
  | _, _, _, .cons (.fn _) _, e => by cases e
  | _, _, _, .cons (.tup ..) _, e => by cases e
  | _, _, _, .cons (.lst ..) _, e => by cases e
  | _, _, _, .cons (.scr ..) _, e => by cases e
  | _, _, _, .cons (.ref _) _, e => by cases e
  | _, _, _, .cons (.ptp ..) _, e => by cases e
theorem str_items : ∀ {xs : List Str} {us : List Value}, Vals (xs.map V.str) us → us.length = xs.length ∧ ∀ (i : Nat) (v : Value), us[i]? = some v → ∃ (x : Str) (tk : Tok), xs[i]? = some x ∧ v = Value.str x tk
  | [], _, .nil => ⟨rfl, fun i v e => by simp at e⟩
  | x :: xs, _, .cons a t => by
    obtain ⟨l1, l2⟩ := str_items t
    obtain ⟨tk, rfl⟩ := a
    refine ⟨by simp [l1], fun i v e => ?_⟩
    cases i with
    | zero => simp at e; exact ⟨x, tk, rfl, e.symm⟩
    | succ i => exact l2 i v (by simpa using e)
theorem strs_rvs {g : Gx} {r : List Addr} {H : Hp} : ∀ (xs : List Str), RVs g r H (xs.map Val.str) (xs.map V.str)
  | [] => .nil
  | x :: xs => .cons (.str x) (strs_rvs xs)
def uniqT : List Str → List Str
  | [] => []
  | k :: ks => if k ∈ uniqT ks then uniqT ks else k :: uniqT ks
theorem mem_uniqT {k : Str} : ∀ {ks : List Str}, k ∈ uniqT ks ↔ k ∈ ks
  | [] => Iff.rfl
  | x :: ks => by
    unfold uniqT
    split
    · rename_i h
      rw [List.mem_cons, mem_uniqT]
      constructor
      · exact .inr
      · rintro (rfl | h')
        · exact mem_uniqT.mp h
        · exact h'
    · rw [List.mem_cons, List.mem_cons, mem_uniqT]
theorem nodup_uniqT : ∀ ks : List Str, (uniqT ks).Nodup
  | [] => List.nodup_nil
  | x :: ks => by
    unfold uniqT
    split
    · exact nodup_uniqT ks
    · rename_i h
      exact List.nodup_cons.mpr ⟨h, nodup_uniqT ks⟩
def txtLe (x y : Str) : Bool := keyLe (.text x) (.text y)
def sortTxt (xs : List Str) : List Str := (uniqT xs).mergeSort txtLe
theorem sortTxt_of {ks l : List Str} (nd : l.Nodup) (m : ∀ k, k ∈ l ↔ k ∈ ks) : l.mergeSort txtLe = sortTxt ks := by
  have pm : l.Perm (uniqT ks) := (List.perm_ext_iff_of_nodup nd (nodup_uniqT ks)).mpr fun k => by rw [m, mem_uniqT]
  have p2 : (l.mergeSort txtLe).Perm (sortTxt ks) := (List.mergeSort_perm _ _).trans (pm.trans (List.mergeSort_perm _ _).symm)
  have sorted : ∀ l : List Str, (l.mergeSort txtLe).Pairwise fun a b => txtLe a b = true := fun l => List.pairwise_mergeSort (fun a b c => keyLe_total.trans (.text a) (.text b) (.text c)) (fun a b => by rw [Bool.or_eq_true]; exact keyLe_total.total (.text a) (.text b)) l
  refine p2.eq_of_pairwise (fun a b ha hb h1 h2 => ?_) (sorted l) (sorted _)
  have := keyLe_anti (a := .text a) (b := .text b) (by simp [NestedKey.data, PySem.W.alike]) h1 h2
  injection this
def fSortTxt : FN := fun S xs => match xs with
  | [x] => (lstOf S x).bind fun ys => (toT ys).bind fun ks => if ks.length < 4000 then some (.lst ((sortTxt ks).map Val.str)) else none
  | _ => none
def fLenTxt : FN := fun S xs => match xs with
  | [x] => (lstOf S x).bind fun ys => (toT ys).bind fun ks => if ks.length < 4000 then some (.int (uniqT ks).length) else none
  | _ => none
section
variable {X : Cx} {g : Gx} {pos : Pos}
def rTxtG (g : Gx) (w : World) : List V → Hp → VK → Prop := fun vs H Q => ∃ z r S x ys ks, SR (g.at z) r H S ∧ RVs (g.at z) r H [x] vs ∧ lstOf S x = some ys ∧ toT ys = some ks ∧ ks.length < 4000 ∧
  ∀ D (T : List Str), H D = none → T.Nodup → (∀ k, k ∈ T ↔ k ∈ ks) → Q (.ref D) (upd H D (TxtHO w D T))
theorem c_txt (hc : X.calm = true) : CallR X (.type "set") (rTxtG g X.w) := by
  intro pins s st H vs us Q I rs h
  obtain ⟨z, r, S, x, ys, ks, sr, rx, e1, e2, hz, q⟩ := h
  cases rx with
  | cons a b =>
    cases b
    obtain ⟨p, ws, rfl, hp, _, hs⟩ := lstOf_at sr a e1
    have ew := toT_at hs e2
    subst ew
    obtain ⟨u, rfl, ru⟩ := vals1 rs
    cases ru
    have hn : H s.heap.objs.size
          = none := I.hok.fresh (Nat.le_refl _)
    obtain ⟨its, rv, pl, _⟩ := I.list (.inl (.inl hp))
    obtain ⟨l1, l2⟩ := str_items rv
    refine set_of_txts (P := X.prog) (w := X.w) (xs := ks) (I.ok.hd hc) pl.isList (fun i v e => l2 i v (by simpa using e)) (by simpa using l1) (by unfold scanBound; omega) fun h' tk T es ep t R m k => ?_
    exact ⟨.ref s.heap.objs.size, _, I.laid (t' := tk) k (Nat.le_refl _) R.ok, rfl, q _ T hn R.nd m⟩
def rSortTG (g : Gx) (w : World) : List V → Hp → VK → Prop := fun vs H Q => ∃ z r S D T ks, SR (g.at z) r H S ∧ vs = [.ref D] ∧ H D = some (TxtHO w D T) ∧ T.Nodup ∧ (∀ k, k ∈ T ↔ k ∈ ks) ∧
  ∀ r' H' hv, Step r H r' H' → SR (g.at z) r' H' S → RV (g.at z) r' H' (.lst ((sortTxt ks).map Val.str)) hv → Q hv H'
theorem c_sortTxt (hc : X.calm = true) (hu : X.A.units + 20 < cLine) : CallR X (.builtin "sorted") (rSortTG g X.w) := by
  intro pins s st H vs us Q I rs h
  obtain ⟨z, r, S, D, T, ks, sr, rfl, hD, nd, mk, q⟩ := h
  obtain ⟨u, rfl, ru⟩ := vals1 rs
  cases ru
  obtain ⟨es, ep, t, R⟩ : SetT0 X.w s.heap D T := (I.hok D _ hD).1
  have few := R.few
  refine sorted_of_txts R (I.ok.hd hc) hu fun s' l out c T1 k g1 o1 hl hg pm eo => ?_
  have hn : H l = none := I.hok.fresh hl
  have e : T1.mergeSort (fun x y => keyLe (.text x) (.text y)) = sortTxt ks := sortTxt_of (pm.nodup_iff.mpr nd) fun k => by rw [pm.mem_iff]; exact mk k
  rw [e] at eo
  have hlen : (sortTxt ks).length ≤ sizeLine := by
    rw [← e, List.length_mergeSort, pm.length_eq, ← R.txt, List.length_map, Array.length_toList]
    exact fits_of_scanBound few
  have J : Inv X pins st (upd H l (.lst ((sortTxt ks).map V.str))) { s with heap := s'.heap, gens := s'.gens, drawn := s'.drawn, toks := s'.toks } :=
    I.call (ch := []) (Un.laid k hl hn) (I.hok.laid k hl ⟨by rw [List.length_map]; exact hlen, out.toList, c, eo, hg⟩) (by rw [g1]; exact I.bare) (fun _ z => nomatch z)
  have es' : s' = { s with heap := s'.heap, gens := s'.gens, drawn := s'.drawn, toks := s'.toks } := by
    obtain ⟨_, _, _, _, _⟩ := s'
    cases o1
    rfl
  rw [es']
  refine ⟨.ref l, _, J, rfl, q r _ (.ref l) (Step.new1 hn) (sr.beside hn) (RV.newL sr hn (by rw [List.length_map]; exact hlen) (strs_rvs _))⟩
theorem d_sortTxt {e : Expr} {m : ME} {p p2 pos2 : Pos} (hc : X.calm = true) (hu : X.A.units + 20 < cLine) (hg : Gl X "sorted") (hm : X.mg "sorted" = none) (hg2 : Gl X "set") (hm2 : X.mg "set" = none) (he : PE X e (tD g m))
    (hs : starEach [e] X.env = (false, eval e X.env) :: starEach [] X.env := by rfl) (hs2 : starEach [.Call (.Name "set" p2) [e] [] pos2] X.env = (false, eval (.Call (.Name "set" p2) [e] [] pos2) X.env) :: starEach [] X.env := by rfl) :
    PE X (.Call (.Name "sorted" p) [.Call (.Name "set" p2) [e] [] pos2] [] pos) (tD g (eFn fSortTxt (esCons m esNil))) := by
  refine PE.weak (pe_callB (c_sortTxt (g := g) hc hu) hg hm (by decide +kernel) (pa_cons (pe_callTy (c_txt (g := g) hc) hg2 hm2 (by decide +kernel) (d_cons he d_nil hs) (he := hs)) pa_nil hs2) (he := hs2)) fun st H Q h => ?_
  obtain ⟨z, r, S, sl, v, S', R, e, q⟩ := h
  simp only [eFn, esCons, esNil, Option.bind_eq_some_iff] at e
  obtain ⟨⟨xs, S1⟩, ⟨⟨x, S2⟩, e1, ⟨ys, S3⟩, e2, e3⟩, w, e4, e5⟩ := e
  cases e2
  cases e3
  cases e5
  simp only [fSortTxt, Option.bind_eq_some_iff] at e4
  obtain ⟨ys, f1, ks, f2, f3⟩ := e4
  split at f3
  · rename_i ok
    cases f3
    refine ⟨z, r, S, sl, [x], _, R, by simp [esCons, esNil, e1], fun r1 H1 vs s1 sr1 rx => ⟨z, r1, _, x, ys, ks, sr1, rx, f1, f2, ok, fun D T hD nd mk => ?_⟩⟩
    have st := Step.new1 (r := r1) (o := TxtHO X.w D T) hD
    refine ⟨z, r1, _, D, T, ks, sr1.beside hD, rfl, upd_same, nd, mk, fun r2 H2 hv s2 sr2 rv => q r2 H2 hv ((s1.trans st).trans s2) sr2 rv⟩
  · cases f3
/-- len(set(..)) -/
def rLenTG (g : Gx) (w : World) : List V → Hp → VK → Prop := fun vs H Q => ∃ z r S D T ks, SR (g.at z) r H S ∧ vs = [.ref D] ∧ H D = some (TxtHO w D T) ∧ T.Nodup ∧ (∀ k, k ∈ T ↔ k ∈ ks) ∧
  ∀ r' H' hv, Step r H r' H' → SR (g.at z) r' H' S → RV (g.at z) r' H' (.int (uniqT ks).length) hv → Q hv H'
theorem c_lenTxt : CallR X (.builtin "len") (rLenTG g X.w) := by
  intro pins s st H vs us Q I rs h
  obtain ⟨z, r, S, D, T, ks, sr, rfl, hD, nd, mk, q⟩ := h
  obtain ⟨u, rfl, ru⟩ := vals1 rs
  cases ru
  obtain ⟨es, ep, t, R⟩ : SetT0 X.w s.heap D T := (I.hok D _ hD).1
  obtain ⟨o, o1, o2, o3⟩ := R.ob
  have few := R.few
  have pm : T.Perm (uniqT ks) := (List.perm_ext_iff_of_nodup nd (nodup_uniqT ks)).mpr fun k => by rw [mk, mem_uniqT]
  have el : es.size = (uniqT ks).length := by rw [← pm.length_eq, ← R.txt, List.length_map, Array.length_toList]
  unfold scanBound at few
  refine call_len_set o1 o2 o3 R.fits (by omega) ⟨.int (uniqT ks).length, H, I.tok _, ⟨_, by rw [el]⟩, q r H _ (.refl r H) sr (.int _)⟩
theorem d_lenTxt {e : Expr} {m : ME} {p p2 pos2 : Pos} (hc : X.calm = true) (hg : Gl X "len") (hm : X.mg "len" = none) (hg2 : Gl X "set") (hm2 : X.mg "set" = none) (he : PE X e (tD g m))
    (hs : starEach [e] X.env = (false, eval e X.env) :: starEach [] X.env := by rfl) (hs2 : starEach [.Call (.Name "set" p2) [e] [] pos2] X.env = (false, eval (.Call (.Name "set" p2) [e] [] pos2) X.env) :: starEach [] X.env := by rfl) :
    PE X (.Call (.Name "len" p) [.Call (.Name "set" p2) [e] [] pos2] [] pos) (tD g (eFn fLenTxt (esCons m esNil))) := by
  refine PE.weak (pe_callB (c_lenTxt (g := g)) hg hm (by decide +kernel) (pa_cons (pe_callTy (c_txt (g := g) hc) hg2 hm2 (by decide +kernel) (d_cons he d_nil hs) (he := hs)) pa_nil hs2) (he := hs2)) fun st H Q h => ?_
  obtain ⟨z, r, S, sl, v, S', R, e, q⟩ := h
  simp only [eFn, esCons, esNil, Option.bind_eq_some_iff] at e
  obtain ⟨⟨xs, S1⟩, ⟨⟨x, S2⟩, e1, ⟨ys, S3⟩, e2, e3⟩, w, e4, e5⟩ := e
  cases e2
  cases e3
  cases e5
  simp only [fLenTxt, Option.bind_eq_some_iff] at e4
  obtain ⟨ys, f1, ks, f2, f3⟩ := e4
  split at f3
  · rename_i ok
    cases f3
    refine ⟨z, r, S, sl, [x], _, R, by simp [esCons, esNil, e1], fun r1 H1 vs s1 sr1 rx => ⟨z, r1, _, x, ys, ks, sr1, rx, f1, f2, ok, fun D T hD nd mk => ?_⟩⟩
    have st := Step.new1 (r := r1) (o := TxtHO X.w D T) hD
    refine ⟨z, r1, _, D, T, ks, sr1.beside hD, rfl, upd_same, nd, mk, fun r2 H2 hv s2 sr2 rv => q r2 H2 hv ((s1.trans st).trans s2) sr2 rv⟩
  · cases f3
end
end Mp
namespace Mp
open PySem PySem.Spec
      PyProof.Rows L2

/-! ### dicts with nested tuples as keys -/
def valG {κ β : Type} [DecidableEq κ] (kvs : List (κ × β)) (k : κ) : Option β := (kvs.find? fun kv => decide (kv.1 = k)).map (·.2)
def putG {κ β : Type} [DecidableEq κ] (kvs : List (κ × β)) (k : κ) (v : β) : List (κ × β) := match kvs with
  | [] => [(k, v)]
  | p :: ps => if p.1 = k then (p.1, v) :: ps else p :: putG ps k v
def putR (rows : List NRow) (k : NestedKey) (b : Addr) (v : V) : List NRow := match rows with
  | [] => [(k, b, v)]
  | p :: ps => if p.1 = k then (p.1, p.2.1, v) :: ps else p :: putR ps k b v
abbrev DRow (g : Gx) (r : List Addr) (H : Hp) (p : NestedKey × Val) (q : NRow) : Prop := p.1 = q.1 ∧ RV g r H (ofK p.1) (.ref q.2.1) ∧ RV g r H p.2 q.2.2
theorem rows_pair {g : Gx} {r : List Addr} {H : Hp} : ∀ {kvs : List (NestedKey × Val)} {rows : List NRow}, kvs.map (·.1) = rows.map (·.1) → RVs g r H (kvs.map fun p => ofK p.1) (rows.map fun p => V.ref p.2.1) → RVs g r H (kvs.map (·.2)) (rows.map fun p => p.2.2) → Paired (DRow g r H) kvs rows
  | [], [], _, _, _ => .nil
  | [], _ :: _, e, _, _ => by cases e
  | _ :: _, [], e, _, _ => by cases e
  | p :: ps, q :: qs, e, .cons a as, .cons b bs => by
    simp only [List.map_cons,
          List.cons.injEq] at e
    exact .cons ⟨e.1, a, b⟩ (rows_pair e.2 as bs)
theorem pair_rows {g : Gx} {r : List Addr} {H : Hp} : ∀ {kvs : List (NestedKey × Val)} {rows : List NRow}, Paired (DRow g r H) kvs rows → kvs.map (·.1) = rows.map (·.1) ∧ RVs g r H (kvs.map fun p => ofK p.1) (rows.map fun p => V.ref p.2.1) ∧ RVs g r H (kvs.map (·.2)) (rows.map fun p => p.2.2)
  | _, _, .nil => ⟨rfl, .nil, .nil⟩
  | _, _, .cons ⟨e, a, b⟩ t => by
    obtain ⟨e1, a1, b1⟩ := pair_rows t
    exact ⟨by simp [e, e1], .cons a a1, .cons b b1⟩
theorem ro_dn {g : Gx} {r : List Addr} {H : Hp} {a : Addr} {kvs : List (NestedKey × Val)} {rows : List NRow} (h : Paired (DRow g r H) kvs rows) (hl : kvs.length ≤ sizeLine) : RO g r H a (.dN kvs) (DnHO g.w a rows) := by
  obtain ⟨e, a, b⟩ := pair_rows h
  exact .dN e hl a b
theorem pair_put {g : Gx} {r : List Addr} {H : Hp} {k : NestedKey} {x : Val} {b : Addr} {v : V} (hk : RV g r H (ofK k) (.ref b)) (hx : RV g r H x v) : ∀ {kvs : List (NestedKey × Val)} {rows : List NRow}, Paired (DRow g r H) kvs rows → Paired (DRow g r H) (putG kvs k x) (putR rows k b v)
  | _, _, .nil => .cons ⟨rfl, hk, hx⟩ .nil
  | p :: _, q :: _, .cons ⟨e, a, c⟩ t => by
    unfold putG putR
    by_cases h : p.1 = k
    · rw [if_pos h, if_pos (e.symm.trans h)]
      exact .cons ⟨e, a, hx⟩ t
    · rw [if_neg h, if_neg fun z => h (e.trans z)]
      exact .cons ⟨e, a, c⟩ (pair_put hk hx t)
theorem putG_length {κ β : Type} [DecidableEq κ] (k : κ) (v : β) : ∀ kvs : List (κ × β), (putG kvs k v).length ≤ kvs.length + 1
  | [] => by simp [putG]
  | p :: ps => by
    unfold putG
    split
    · simp
    · have := putG_length k v ps
      simp only [List.length_cons]
      omega
theorem atKey_row {xs : List (NestedKey × Addr × Value)} {k : NestedKey} {x : NestedKey × Addr × Value} : atKey (x :: xs) k = if x.1 = k then some x.2 else atKey xs k := by
  unfold atKey
  rw [List.find?_cons]
  by_cases h : x.1 = k <;> simp [h]
theorem rel_put {k : NestedKey} {b : Addr} {v : V} {u : Value} (ru : RelV v u) : ∀ {rows : List NRow} {xs : List (NestedKey × Addr × Value)}, Paired RowRel rows xs → (xs.map (·.1)).Nodup → Paired RowRel (putR rows k b v) (storedH xs k b u)
  | _, _, .nil, _ => .cons ⟨rfl, rfl, ru⟩ .nil
  | p :: _, q :: qs, .cons ⟨e1, e2, e3⟩ t, nd => by
    rw [List.map_cons,
          List.nodup_cons] at nd
    unfold putR storedH
    rw [atKey_row]
    by_cases h : p.1 = k
    · have hq : q.1 = k := e1.symm.trans h
      rw [if_pos h, if_pos (by simp [hq]), List.map_cons]
      have rest : qs.map (putAt k u) = qs := by
        refine (List.map_congr_left fun y hy => ?_).trans (List.map_id' qs)
        unfold putAt
        rw [if_neg fun z => nd.1 (by rw [hq, ← z]; exact List.mem_map_of_mem hy)]
      rw [rest]
      refine .cons ?_ t
      unfold putAt
      rw [if_pos hq]
      exact ⟨e1, e2, ru⟩
    · have hq : ¬ q.1 = k := fun z => h (e1.trans z)
      have ih := rel_put (k := k) (b := b) ru t nd.2
      rw [if_neg h, if_neg hq]
      unfold storedH at ih
      by_cases c : (atKey qs k).isSome = true
      · rw [if_pos c] at ih ⊢
        rw [List.map_cons]
        refine .cons ?_ ih
        unfold putAt
        rw [if_neg hq]
        exact ⟨e1, e2, e3⟩
      · rw [if_neg c] at ih ⊢
        exact .cons ⟨e1, e2, e3⟩ ih
/-- the machine's dict -/
theorem dn_dict {P : Program} {w : World} {a : Addr} {rows : List NRow} {h : Heap} (d : DnAt w a rows h) (keys : ∀ p ∈ rows, (nestedKind P w).is h p.1 p.2.1) : rows.length ≤ sizeLine ∧ (a == sysModules) = false ∧ ∃ xs, Paired RowRel rows xs ∧ h.DictOfH (nestedKind P w) a xs := by
  obtain ⟨z, hd, xs, rel, o, es, ep, h1, h2, h3, h4, h5⟩ := d
  refine ⟨z, hd, xs, rel, o, es, ep, h1, h2, h3, h4, fun x hx => ?_, h5⟩
  have all : ∀ {rows : List NRow} {xs : List (NestedKey × Addr × Value)}, Paired RowRel rows xs → (∀ p ∈ rows, (nestedKind P w).is h p.1 p.2.1) → ∀ x ∈ xs, (nestedKind P w).is h x.1 x.2.1 := by
    intro rows xs q
    induction q with
    | nil => intro _ x hx; cases hx
    | @cons p q ps qs hq t ih =>
      intro k x hx
      rcases List.mem_cons.mp hx
            with rfl | hx
      · rw [← hq.1, ← hq.2.1]
        exact k p List.mem_cons_self
      · exact ih (fun p hp => k p (List.mem_cons_of_mem _ hp)) x hx
  exact all rel keys x hx
theorem dn_of {P : Program} {w : World} {a : Addr} {rows : List NRow} {h : Heap} {xs : List (NestedKey × Addr × Value)} (z : rows.length ≤ sizeLine) (hd : (a == sysModules) = false) (rel : Paired RowRel rows xs) (d : h.DictOfH (nestedKind P w) a xs) : DnAt w a rows h := by
  obtain ⟨o, es, ep, h1, h2, h3, h4, _, h5⟩ := d
  exact ⟨z, hd, xs, rel, o, es, ep, h1, h2, h3, h4, h5⟩
theorem dn_ok {P : Program} {w : World} {H : Hp} {a : Addr} {rows : List NRow} {h : Heap} (d : DnAt w a rows h) : ObjOk P w H h a (DnHO w a rows) := by
  refine ⟨d, ?_, fun h1 h2 p k => ?_⟩
  · obtain ⟨_, _, _, _, o, _, _, e, _⟩ := d
    exact ⟨o, e⟩
  · obtain ⟨z, hd, xs, rel, o, es, ep, e, q⟩ := p
    exact ⟨z, hd, xs, rel, o, es, ep, k o e, q⟩
def keysOk (kvs : List (NestedKey × Val)) : Bool := kvs.all fun p => keyOk p.1
theorem keys_is {X : Cx} {g : Gx} {r : List Addr} {H : Hp} {pins : List (Addr × Obj)} {st : L2.St} {s : Shared} (hK : g.K = X.K) (I : Inv X pins st H s) : ∀ {kvs : List (NestedKey × Val)} {rows : List NRow}, Paired (DRow g r H) kvs rows → keysOk kvs = true → ∀ p ∈ rows, (nestedKind X.prog X.w).is s.heap p.1 p.2.1
  | _, _, .nil, _, p, hp => by cases hp
  | k :: _, q :: _, .cons ⟨e, a, _⟩ t, ok, p, hp => by
    unfold keysOk at ok
    rw [List.all_cons, Bool.and_eq_true] at ok
    rcases List.mem_cons.mp hp
          with rfl | hp
    · rw [← e]
      exact ⟨(RV.key hK I a (show RelV (.ref p.2.1) (.ref p.2.1) from rfl) (toK_ofK k.1)).1, keyOk_depth ok.1⟩
    · exact keys_is hK I t ok.2 p hp
/-- a dict of the store: its rows and the machine's -/
def dnOf (S : Sto) (n : Nat) : Option (List (NestedKey × Val)) := match S[n]? with
  | some (.dN kvs) => some kvs
  | some (.lk (.dN kvs)) => some kvs
  | _ => none
theorem dn_at {X : Cx} {g : Gx} {r : List Addr} {H : Hp} {S : Sto} {pins : List (Addr × Obj)} {st : L2.St} {s : Shared} {n : Nat} {a : Addr} {kvs : List (NestedKey × Val)} (hK : g.K = X.K) (hw : g.w = X.w) (I : Inv X pins st H s) (sr : SR g r H S) (ha : r[n]? = some a) (e : dnOf S n = some kvs) (ok : keysOk kvs = true) :
    ∃ rows, Rd H a (DnHO g.w a rows) ∧ kvs.length ≤ sizeLine ∧ (a == sysModules) = false ∧ Paired (DRow g r H) kvs rows ∧ ∃ xs, Paired RowRel rows xs ∧ s.heap.DictOfH (nestedKind X.prog X.w) a xs := by
  unfold dnOf at e
  have fin : ∀ rows, Rd H a (DnHO g.w a rows) → Paired (DRow g r H) kvs rows → kvs.length ≤ sizeLine → ∃ rows, Rd H a (DnHO g.w a rows) ∧ kvs.length ≤ sizeLine ∧ (a == sysModules) = false ∧ Paired (DRow g r H) kvs rows ∧ ∃ xs, Paired RowRel rows xs ∧ s.heap.DictOfH (nestedKind X.prog X.w) a xs := fun rows rd pr hl => by
    have d : DnAt g.w a rows s.heap := (rd.ok I.hok).1
    rw [hw] at d
    obtain ⟨z, hd, xs, rel, dd⟩ := dn_dict (P := X.prog) d (keys_is hK I pr ok)
    exact ⟨rows, rd, hl, hd, pr, xs, rel, dd⟩
  split at e
  · rename_i hx
    cases e
    obtain ⟨u, hu, ro⟩ := sr.at_ _ _ _ hx ha
    cases ro with
    | dN h1 hl h2 h3 => exact fin _ (.inl hu) (rows_pair h1 h2 h3) hl
  · rename_i hx
    cases e
    obtain ⟨u, hu, ro⟩ := sr.at_ _ _ _ hx ha
    cases ro with
    | lkN h1 hl h2 h3 => exact fin _ (.inr ⟨_, hu⟩) (rows_pair h1 h2 h3) hl
  · cases e
theorem val_rows {g : Gx} {r : List Addr} {H : Hp} {k : NestedKey} : ∀ {kvs : List (NestedKey × Val)} {rows : List NRow} {xs : List (NestedKey × Addr × Value)}, Paired (DRow g r H) kvs rows → Paired RowRel rows xs →
    match valG kvs k with
    | some x => ∃ b v u, atKey xs k = some (b, u) ∧ RelV v u ∧ RV g r H x v
    | none => atKey xs k = none
  | _, _, _, .nil, .nil => rfl
  | p :: kvs, q :: rows, x :: xs, .cons ⟨e, a, c⟩ t, .cons ⟨e1, e2, e3⟩ t' => by
    have ih := val_rows (k := k) t t'
    have ev : valG (p :: kvs) k = if p.1 = k then some p.2 else valG kvs k := by
      unfold valG
      rw [List.find?_cons]
      by_cases h : p.1 = k <;> simp [h]
    rw [ev, atKey_row]
    by_cases h : p.1 = k
    · rw [if_pos h, if_pos (e1.symm.trans (e.symm.trans h))]
      exact ⟨_, _, _, rfl, e3, c⟩
    · rw [if_neg h, if_neg fun z => h (e.trans (e1.trans z))]
      exact ih
end Mp
namespace Mp
open PySem PySem.Spec
      PyProof.Rows L2

def keyV : Val → Option Key
  | .int i => some (.inl i)
  | .str x => some (.inr x)
  | _ => none
theorem keyV_at {g : Gx} {r : List Addr} {H : Hp} {x : Val} {v : V} {k : Key} (h : RV g r H x v) (e : keyV x = some k) : v = kV k := by
  cases h <;> cases e <;> rfl
def dkOf (S : Sto) (n : Nat) : Option (List (Key × Val)) := match S[n]? with
  | some (.dK kvs) => some kvs
  | some (.lk (.dK kvs)) => some kvs
  | _ => none
/-- what a dict of the store holds at a key -/
inductive Dic where
  | k (kvs : List (Key × Val)) | n (kvs : List (NestedKey × Val))
def dicOf (S : Sto) (n : Nat) : Option Dic := match dkOf S n with
  | some kvs => some (.k kvs)
  | none => (dnOf S n).bind fun kvs => if keysOk kvs then some (.n kvs) else none
def dicGet (S : Sto) (d x : Val) : Option (Option Val) := match d with
  | .ref n => (dicOf S n).bind fun D => match D with
    | .k kvs => (keyV x).map fun k => valG kvs k
    | .n kvs => (toK x).bind fun k => if keyOk k then some (valG kvs k) else none
  | _ => none
def fDGet (S : Sto) (d x : Val) : Option Val := (dicGet S d x).bind id
def fDIn (neg : Bool) (S : Sto) (x d : Val) : Option Val := (dicGet S d x).map fun o => .bl (neg ^^ o.isSome)
theorem valK_rows {g : Gx} {r : List Addr} {H : Hp} {k : Key} : ∀ {kvs : List (Key × Val)} {kws : List (Key × V)}, kvs.map (·.1) = kws.map (·.1) → RVs g r H (kvs.map (·.2)) (kws.map (·.2)) → match valG kvs k with
    | some x => ∃ v, valV kws k = some v ∧ RV g r H x v
    | none => valV kws k = none
  | [], [], _, _ => rfl
  | [], _ :: _, e, _ => by cases e
  | _ :: _, [], e, _ => by cases e
  | p :: ps, q :: qs, e, .cons a as => by
    simp only [List.map_cons,
          List.cons.injEq] at e
    have ih := valK_rows (k := k) e.2 as
    have ev : valG (p :: ps) k = if p.1 = k then some p.2 else valG ps k := by
      unfold valG
      rw [List.find?_cons]
      by_cases h : p.1 = k <;> simp [h]
    rw [ev]
    by_cases h : p.1 = k
    · rw [if_pos h, valV_pos (e.1.symm.trans h)]
      exact ⟨_, rfl, a⟩
    · rw [if_neg h, valV_neg fun z => h (e.1.trans z)]
      exact ih
section
variable {X : Cx} {g : Gx} {pos : Pos}
theorem dk_at {r : List Addr} {H : Hp} {S : Sto} {n : Nat} {a : Addr} {kvs : List (Key × Val)} (sr : SR g r H S) (ha : r[n]? = some a) (e : dkOf S n = some kvs) : ∃ kws, Rd H a (.dK kws) ∧ kvs.length ≤ sizeLine ∧ kvs.map (·.1) = kws.map (·.1) ∧ RVs g r H (kvs.map (·.2)) (kws.map (·.2)) := by
  unfold dkOf at e
  split at e
  · rename_i hx
    cases e
    obtain ⟨u, hu, ro⟩ := sr.at_ _ _ _ hx ha
    cases ro with
    | dK h1 hl h2 => exact ⟨_, .inl hu, hl, h1, h2⟩
  · rename_i hx
    cases e
    obtain ⟨u, hu, ro⟩ := sr.at_ _ _ _ hx ha
    cases ro with
    | lkK h =>
      cases h with
      | dK h1 hl h2 => exact ⟨_, .inr ⟨_, hu⟩, hl, h1, h2⟩
  · cases e
def AnsK (g : Gx) (r : List Addr) (H : Hp) (w : Option V) : Option Val → Prop
  | some y => ∃ v, w = some v ∧ RV g r H y v
  | none => w = none
def AnsN (g : Gx) (r : List Addr) (H : Hp) (w : Option (Addr × Value)) : Option Val → Prop
  | some y => ∃ c v u, w = some (c, u) ∧ RelV v u ∧ RV g r H y v
  | none => w = none
theorem ansK_of {r : List Addr} {H : Hp} {k : Key} {kvs : List (Key × Val)} {kws : List (Key × V)} (h1 : kvs.map (·.1) = kws.map (·.1)) (h2 : RVs g r H (kvs.map (·.2)) (kws.map (·.2))) : AnsK g r H (valV kws k) (valG kvs k) := by
  have := valK_rows (k := k) h1 h2
  unfold AnsK
  cases e : valG kvs k <;> (rw [e] at this; exact this)
theorem ansN_of {r : List Addr} {H : Hp} {k : NestedKey} {kvs : List (NestedKey × Val)} {rows : List NRow} {xs : List (NestedKey × Addr × Value)} (h1 : Paired (DRow g r H) kvs rows) (h2 : Paired RowRel rows xs) : AnsN g r H (atKey xs k) (valG kvs k) := by
  have := val_rows (k := k) h1 h2
  unfold AnsN
  cases e : valG kvs k <;> (rw [e] at this; exact this)
theorem AnsK.some {r : List Addr} {H : Hp} {w : Option V} {o : Option Val} (h : AnsK g r H w o) : w.isSome = o.isSome := by
  cases o with
  | none => rw [show w = none from h]; rfl
  | some y => obtain ⟨v, e, _⟩ := h; rw [e]; rfl
theorem AnsN.some {r : List Addr} {H : Hp} {w : Option (Addr × Value)} {o : Option Val} (h : AnsN g r H w o) : w.isSome = o.isSome := by
  cases o with
  | none => rw [show w = none from h]; rfl
  | some y => obtain ⟨c, v, u, e, _⟩ := h; rw [e]; rfl
/-- asking a dict -/
theorem ask_dic {pins : List (Addr × Obj)} {st : L2.St} {H : Hp} {s : Shared} {r : List Addr} {S : Sto} {d x : Val} {hd hx : V} {o : Option Val} (hK : g.K = X.K) (hw : g.w = X.w) (I : Inv X pins st H s) (sr : SR g r H S) (rd : RV g r H d hd) (rx : RV g r H x hx) (e : dicGet S d x = some o) :
    (∃ a k kws, hd = .ref a ∧ hx = kV k ∧ Rd H a (.dK kws) ∧ AnsK g r H (valV kws k) o) ∨
    (∃ a b k rows xs, hd = .ref a ∧ hx = .ref b ∧ (nestedKind X.prog X.w).is s.heap k b ∧ (a == sysModules) = false ∧ Paired RowRel rows xs ∧ s.heap.DictOfH (nestedKind X.prog X.w) a xs ∧ AnsN g r H (atKey xs k) o) := by
  unfold dicGet at e
  split at e
  · rename_i n
    cases rd with
    | @ref _ a ha =>
      simp only [Option.bind_eq_some_iff] at e
      obtain ⟨D, e1, e2⟩ := e
      unfold dicOf at e1
      split at e1
      · rename_i kvs hk
        cases e1
        simp only [Option.map_eq_some_iff] at e2
        obtain ⟨k, f1, f2⟩ := e2
        obtain ⟨kws, q1, q2, q3, q4⟩ := dk_at sr ha hk
        left
        refine ⟨a, k, kws, rfl, keyV_at rx f1, q1, ?_⟩
        rw [← f2]
        exact ansK_of q3 q4
      · simp only [Option.bind_eq_some_iff] at e1
        obtain ⟨kvs, f1, f2⟩ := e1
        split at f2
        · rename_i ok
          cases f2
          simp only [Option.bind_eq_some_iff] at e2
          obtain ⟨k, f3, f4⟩ := e2
          split at f4
          · rename_i ok2
            cases f4
            obtain ⟨rows, rd', hl, hd', pr, xs, rel, dd⟩ := dn_at hK hw I sr ha f1 ok
            right
            have key : ∀ b, hx = .ref b → (nestedKind X.prog X.w).is s.heap k b := fun b hb => ⟨(RV.key hK I rx (by rw [hb]; exact (show RelV (.ref b) (.ref b) from rfl)) f3).1, keyOk_depth ok2⟩
            have tup : ∃ b, hx = .ref b := by
              unfold keyOk at ok2
              rw [Bool.and_eq_true] at ok2
              cases rx with
              | tup h1 h2 h3 => exact ⟨_, rfl⟩
              | non => cases f3; exact absurd ok2.2 (by simp)
              | int => cases f3; exact absurd ok2.2 (by simp)
              | str => cases f3; exact absurd ok2.2 (by simp)
              | bl => cases f3
              | ty => cases f3
              | fn => cases f3
              | lst => cases f3
              | scr => cases f3
              | ref => cases f3
              | ptp => cases f3
            obtain ⟨b, hb⟩ := tup
            exact ⟨a, b, k, rows, xs, rfl, hb, key b hb, hd', rel, dd, ansN_of pr rel⟩
          · cases f4
        · cases f2
  · cases e
theorem o_dget (hK : g.K = X.K) (hw : g.w = X.w) (hu : X.A.units + 12 < cLine) : ∀ (pins : List (Addr × Obj)) (s : Shared) (st : L2.St) (H : Hp) (x y : V) (v u : Value) (Q : VK), Inv X pins st H s → RelV x v → RelV y u → rG2 g fDGet x y H Q → ∃ a, v = .ref a ∧ s.TypeIs (.ref a) "dict" ∧ wpAny (model X.prog X.w) X.A (getItem (.ref a) u) (EP X pins st Q) X.xe s := by
  intro pins s st H x y v u Q I rx ry h
  obtain ⟨z, r, S, d, k, w, sr, ra, rb, e, q⟩ := h
  simp only [fDGet, Option.bind_eq_some_iff] at e
  obtain ⟨o, e1, e2⟩ := e
  have e2 : o = some w := e2
  subst e2
  rcases ask_dic (g := g.at z) hK hw I sr ra rb e1 with ⟨a, k, kws, rfl, rfl, rd, v', hv, rv⟩ | ⟨a, b, k, rows, xs, rfl, rfl, hk, hd, rel, dd, c, v', u', hv, rv', rv⟩
  · cases rx
    have gg : DGet H a (kV k) (some v') := .inl ⟨kws, k, rd, rfl, hv.symm⟩
    exact ⟨a, rfl, dict_typeIs I gg, d_getItem (by omega) I gg ry fun w' s' I' rw' => ⟨v', H, I', rw', q r H v' (.refl r H) sr rv⟩⟩
  · cases rx
    cases ry
    exact ⟨a, rfl, dd.typeIs, wpAny_getItem_heap (by show X.A.units + 1 + 8 < cLine; omega) hk dd hv ⟨v', H, I.tok _, rv', q r H v' (.refl r H) sr rv⟩⟩
theorem d_dget {a b : Expr} {ma mb : ME} (hK : g.K = X.K) (hw : g.w = X.w) (hu : X.A.units + 12 < cLine) (ha : PE X a (tD g ma)) (hb : PE X b (tD g mb)) (hs : NoSl b := by intro _ _; rfl) : PE X (.Subscript a b pos) (tD g (eOp2 fDGet ma mb)) := by
  refine ⟨fun pins s st H Q I h => ?_⟩
  have h := op2_read h
  refine subD_of PySem.F.slot_dict_getitem.lookup hs (thn (ha.run pins s st H _ I h) fun u s1 ⟨x, H1, I1, rx, q1⟩ => thn (hb.run pins s1 st H1 _ I1 q1) fun iv s2 ⟨y, H2, I2, ry, q2⟩ => ?_)
  obtain ⟨a, rfl, ty, w⟩ := o_dget hK hw hu pins s2 st H2 x y u iv Q I2 rx ry q2
  exact ⟨ty, w⟩
theorem o_din {neg : Bool} (hK : g.K = X.K) (hw : g.w = X.w) (hu : X.A.units + 12 < cLine) : OpR X (compareOp (if neg then .NotIn else .In)) (rG2 g (fDIn neg)) := by
  intro pins s st H x y v u Q I rx ry h
  obtain ⟨z, r, S, k, d, w, sr, ra, rb, e, q⟩ := h
  simp only [fDIn, Option.map_eq_some_iff] at e
  obtain ⟨o, e1, rfl⟩ := e
  rcases ask_dic (g := g.at z) hK hw I sr rb ra e1 with ⟨a, k, kws, rfl, rfl, rd, hv⟩ | ⟨a, b, k, rows, xs, rfl, rfl, hk, hd, rel, dd, hv⟩
  · cases ry
    have gg : DGet H a (kV k) (valV kws k) := .inl ⟨kws, k, rd, rfl, rfl⟩
    have eo := hv.some
    cases neg
    · exact d_in (by omega) I gg rx fun s' I' => ⟨.bl _, H, I', rfl, by rw [eo]; exact q r H _ (.refl r H) sr (by simpa using RV.bl o.isSome)⟩
    · exact d_notIn (by omega) I gg rx fun s' I' => ⟨.bl _, H, I', rfl, by rw [eo]; exact q r H _ (.refl r H) sr (by simpa using RV.bl (!o.isSome))⟩
  · cases ry
    cases rx
    have eo := hv.some
    cases neg
    · exact wpAny_in_heap (by show X.A.units + 1 + 8 < cLine; omega) hk hd dd (by rw [eo]; exact ⟨.bl _, H, I.tok _, rfl, q r H _ (.refl r H) sr (by simpa using RV.bl o.isSome)⟩)
    · exact wpAny_notIn_heap (by show X.A.units + 1 + 8 < cLine; omega) hk hd dd (by rw [eo]; exact ⟨.bl _, H, I.tok _, rfl, q r H _ (.refl r H) sr (by simpa using RV.bl (!o.isSome))⟩)
theorem fDIn_bl {neg : Bool} : ∀ S x y v, fDIn neg S x y = some v → ∃ k, v = .bl k := fun S x y v e => by
  simp only [fDIn, Option.map_eq_some_iff] at e
  obtain ⟨o, _, rfl⟩ := e
  exact ⟨_, rfl⟩
end
end Mp
namespace Mp
open PySem PySem.Spec
      PyProof.Rows L2

/-! ### an object of the store changes -/
def Chg (u : HO) : Prop := (∀ xs, u ≠ .tup xs) ∧ (∀ o x, u ≠ .frz o (.tup x)) ∧ ∀ o x, u ≠ .frz o (.lst x)
section
variable {g : Gx} {r : List Addr} {H : Hp} {a : Addr} {u o : HO}
theorem RVs.updr (ha : a ∈ r) (hu : H a = some u) (c : Chg u) {x : List Val} {v : List V} (h : RVs g r H x v) : RVs g r (upd H a o) x v := by
  have seqT : ∀ {b : Addr} {vs : List V}, SqT g.K H b vs → SqT g.K (upd H a o) b vs := fun {b vs} h => by
    rcases h with (h | ⟨ob, h⟩) | h
    · exact .inl (.inl (by rw [upd_ne (fun e => by rw [e, hu] at h; exact c.1 _ (Option.some.inj h))]; exact h))
    · exact .inl (.inr ⟨ob, by rw [upd_ne (fun e => by rw [e, hu] at h; exact c.2.1 _ _ (Option.some.inj h))]; exact h⟩)
    · exact .inr h
  exact RVs.rec (g := g) (r := r) (H := H) (motive_1 := fun x v _ => RV g r (upd H a o) x v) (motive_2 := fun x v _ => RVs g r (upd H a o) x v)
    .non .bl .int .str .ty (fun h => .fn h) (fun h hl _ ih => .tup (seqT h) hl ih) (fun {b _ _} h hn hz' hl _ ih => .lst (by rw [upd_ne (fun e => hn (by rw [e]; exact ha))]; exact h) hn hz' hl ih)
    (fun {b ob _ _} h hn hl _ ih => .scr (o := ob) (by rw [upd_ne (fun e => hn (by rw [e]; exact ha))]; exact h) hn hl ih) (fun h => .ref h) (fun {b ob _ _} h hd hl _ ih => .ptp (o := ob) (by rw [upd_ne (fun e => by rw [e, hu] at h; exact c.2.1 _ _ (Option.some.inj h))]; exact h) hd hl ih) .nil (fun _ _ a b => .cons a b) h
theorem RV.updr (ha : a ∈ r) (hu : H a = some u) (c : Chg u) {x : Val} {v : V} (h : RV g r H x v) : RV g r (upd H a o) x v := by
  cases RVs.updr (o := o) ha hu c (.cons h .nil) with
  | cons a _ => exact a
theorem RO.updr {b : Addr} (ha : a ∈ r) (hu : H a = some u) (c : Chg u) {x : SO} {v : HO} (h : RO g r H b x v) : RO g r (upd H a o) b x v := by
  cases h with
  | lst hl h => exact .lst hl (h.updr ha hu c)
  | dK h1 hl h2 => exact .dK h1 hl (h2.updr ha hu c)
  | dN h1 hl h0 h2 => exact .dN h1 hl (h0.updr ha hu c) (h2.updr ha hu c)
  | lkK h => cases h with | dK h1 hl h2 => exact .lkK (.dK h1 hl (h2.updr ha hu c))
  | lkN h1 hl h0 h2 => exact .lkN h1 hl (h0.updr ha hu c) (h2.updr ha hu c)
theorem SR.put {S : Sto} {n : Nat} {so : SO} (sr : SR g r H S) (hn : r[n]? = some a) (hu : H a = some u) (c : Chg u) (nf : ∀ ob x, u ≠ .frz ob x) (ro : RO g r (upd H a o) a so o) : SR g r (upd H a o) (S.set n so) ∧ Step r H r (upd H a o) := by
  have ha : a ∈ r := List.mem_of_getElem? hn
  refine ⟨⟨by rw [List.length_set]; exact sr.len, sr.nd, fun p hp => ?_, sr.zr, fun i x b h1 h2 => ?_⟩, ⟨fun b x h hb => ?_, ⟨[], by simp⟩, fun b h => .inl h, fun b ob x h => by rw [upd_ne (fun z => by rw [z, hu] at h; exact nf _ _ (Option.some.inj h))]; exact h⟩⟩
  · obtain ⟨xs, e⟩ := sr.zat p hp
    exact ⟨xs, by rw [upd_ne fun z => sr.zr p hp (by rw [z]; exact ha)]; exact e⟩
  · by_cases hi : n = i
    · subst hi
      rw [hn] at h2
      cases h2
      have hl : n < S.length := by rw [← sr.len]; exact (List.getElem?_eq_some_iff.mp hn).1
      rw [List.getElem?_set_self hl] at h1
      cases h1
      exact ⟨o, upd_same, ro⟩
    · rw [List.getElem?_set_ne hi] at h1
      obtain ⟨y, hy, ro'⟩ := sr.at_ i x b h1 h2
      have ne : b ≠ a := fun z => by
        rw [z] at h2
        have l1 := (List.getElem?_eq_some_iff.mp hn).1
        have l2 := (List.getElem?_eq_some_iff.mp h2).1
        exact hi ((List.getElem?_inj l1 sr.nd).mp (hn.trans h2.symm))
      exact ⟨y, by rw [upd_ne ne]; exact hy, ro'.updr ha hu c⟩
  · rw [upd_ne fun z => hb (by rw [z]; exact ha)]; exact h
end

/-! ### d[k] = v -/
def putM (kvs : List (Key × Val)) (k : Key) (v : Val) : List (Key × Val) := if (kvs.any fun kv => decide (kv.1 = k)) = true then kvs.map (fun kv => if kv.1 = k then (kv.1, v) else kv) else kvs ++ [(k, v)]
def dicPut (S : Sto) (d k v : Val) : Option Sto := match d with
  | .ref n => match S[n]? with
    | some (.dK kvs) => (keyV k).bind fun kk => if kvs.length < sizeLine then some (S.set n (.dK (putM kvs kk v))) else none
    | some (.dN kvs) => (toK k).bind fun kk => if keyOk kk && keysOk kvs && decide (kvs.length < sizeLine) then some (S.set n (.dN (putG kvs kk v))) else none
    | _ => none
  | _ => none
def sDPutM (md mk mv : ME) : MS := fun sl S => (mv sl S).bind fun v => (md sl v.2).bind fun d => (mk sl d.2).bind fun k => (dicPut k.2 d.1 k.1 v.1).map fun S' => (.nxt, sl, S')
theorem putM_rows {g : Gx} {r : List Addr} {H : Hp} {k : Key} {x : Val} {v : V} {kvs : List (Key × Val)} {kws : List (Key × V)} (h1 : kvs.map (·.1) = kws.map (·.1)) (h2 : RVs g r H (kvs.map (·.2)) (kws.map (·.2))) (hx : RV g r H x v) :
    (putM kvs k x).map (·.1) = (putK kws k v).map (·.1) ∧ RVs g r H ((putM kvs k x).map (·.2)) ((putK kws k v).map (·.2)) := by
  have ea : (kvs.any fun kv => decide (kv.1 = k)) = kws.any fun kv => decide (kv.1 = k) := by
    have := congrArg (fun l => l.any fun y => decide (y = k)) h1
    simpa [List.any_map, Function.comp_def] using this
  unfold putM putK
  rw [ea]
  split
  · rename_i yes
    clear ea yes
    induction kvs generalizing kws with
    | nil =>
      cases kws with
      | nil => exact ⟨rfl, .nil⟩
      | cons => cases h1
    | cons p ps ih =>
      cases kws with
      | nil => cases h1
      | cons q qs =>
        simp only [List.map_cons, List.cons.injEq] at h1
        cases h2 with
        | cons a as =>
          obtain ⟨i1, i2⟩ := ih h1.2 as
          by_cases hp : p.1 = k
          · have hq : q.1 = k := h1.1.symm.trans hp
            simp only [List.map_cons, if_pos hp, if_pos hq]
            exact ⟨by rw [h1.1, i1], .cons hx i2⟩
          · have hq : ¬ q.1 = k := fun z => hp (h1.1.trans z)
            simp only [List.map_cons, if_neg hp, if_neg hq]
            exact ⟨by rw [h1.1, i1], .cons a i2⟩
  · exact ⟨by simp [h1], by rw [List.map_append, List.map_append]; exact h2.append (.cons hx .nil)⟩
theorem putM_le (kvs : List (Key × Val)) (k : Key) (v : Val) : (putM kvs k v).length ≤ kvs.length + 1 := by
  unfold putM
  split <;> simp
section
variable {X : Cx} {g : Gx} {pos : Pos}
theorem put_dic {pins : List (Addr × Obj)} {st : L2.St} {H : Hp} {s : Shared} {r : List Addr} {S S' : Sto} {d k x : Val} {hd hk hx : V} {v u w : Value} {Q : Unit → Shared → Prop} (hK : g.K = X.K) (hw : g.w = X.w) (hu : X.A.units + 12 < cLine) (I : Inv X pins st H s) (sr : SR g r H S) (rd : RV g r H d hd) (rk : RV g r H k hk) (rx : RV g r H x hx)
    (ed : RelV hd v) (ek : RelV hk u) (ex : RelV hx w) (e : dicPut S d k x = some S') (q : ∀ r' H' s', Step r H r' H' → SR g r' H' S' → Inv X pins st H' s' → Q () s') : wpAny (model X.prog X.w) X.A (setItem v u w) Q X.xe s := by
  unfold dicPut at e
  split at e
  · rename_i n
    cases rd with
    | @ref _ a ha =>
      obtain rfl : v = .ref a := ed
      split at e
      · rename_i kvs hn
        simp only [Option.bind_eq_some_iff] at e
        obtain ⟨kk, e1, e2⟩ := e
        split at e2
        · rename_i hl
          cases e2
          obtain ⟨o, ho, ro⟩ := sr.at_ _ _ _ hn ha
          cases ro with
          | @dK _ kws h1 hz h2 =>
            have hlw : kws.length < sizeLine := by
              have := congrArg List.length h1
              simp only [List.length_map] at this
              omega
            have c : Chg (.dK kws) := ⟨fun _ z => (nomatch z), fun _ _ z => (nomatch z), fun _ _ z => (nomatch z)⟩
            have ham := List.mem_of_getElem? ha
            obtain ⟨p1, p2⟩ := putM_rows (k := kk) h1 h2 rx
            have ekk := keyV_at rk e1
            subst ekk
            refine d_setItem (by omega) I (DPut.k ho hlw) ek ex fun s' I' => ?_
            obtain ⟨sr', st'⟩ := sr.put (so := .dK (putM kvs kk x)) (o := .dK (putK kws kk hx)) ha ho c (fun _ _ z => nomatch z) (.dK p1 (by have := putM_le kvs kk x; omega) (p2.updr ham ho c))
            exact q r _ s' st' sr' I'
        · cases e2
      · rename_i kvs hn
        simp only [Option.bind_eq_some_iff] at e
        obtain ⟨kk, e1, e2⟩ := e
        split at e2
        · rename_i ok
          cases e2
          simp only [Bool.and_eq_true,
                decide_eq_true_eq] at ok
          obtain ⟨⟨ok1, ok2⟩, hl⟩ := ok
          obtain ⟨o, ho, ro⟩ := sr.at_ _ _ _ hn ha
          cases ro with
          | @dN _ rows h1 hz h2 h3 =>
            have c : Chg (DnHO g.w a rows) := ⟨fun _ z => (nomatch z), fun _ _ z => (nomatch z), fun _ _ z => (nomatch z)⟩
            have ham := List.mem_of_getElem? ha
            have pr := rows_pair h1 h2 h3
            have d0 : DnAt g.w a rows s.heap := (I.hok a _ ho).1
            rw [hw] at d0
            obtain ⟨z1, z2, xs, rel, dd⟩ := dn_dict (P := X.prog) d0 (keys_is hK I pr ok2)
            have tup : ∃ b, hk = .ref b := by
              unfold keyOk at ok1
              rw [Bool.and_eq_true] at ok1
              cases rk with
              | tup h1 h2 h3 => exact ⟨_, rfl⟩
              | non => cases e1; exact absurd ok1.2 (by simp)
              | int => cases e1; exact absurd ok1.2 (by simp)
              | str => cases e1; exact absurd ok1.2 (by simp)
              | bl => cases e1
              | ty => cases e1
              | fn => cases e1
              | lst => cases e1
              | scr => cases e1
              | ref => cases e1
              | ptp => cases e1
            obtain ⟨b, rfl⟩ := tup
            obtain rfl : u = .ref b := ek
            have key : (nestedKind X.prog X.w).is s.heap kk b := ⟨(RV.key hK I rk (show RelV (.ref b) (.ref b) from rfl) e1).1, keyOk_depth ok1⟩
            have el : xs.length = rows.length := (Paired.length rel).symm
            have er : rows.length = kvs.length := (Paired.length pr).symm
            refine wpAny_setItem_heap (hsz := by omega) (by show X.A.units + 1 + 8 < cLine; omega) key dd fun h' dd' sb => ?_
            have pr' := pair_put (k := kk) (b := b) (by rw [ofK_toK e1]; exact rk) rx pr
            have rel' := rel_put (k := kk) (b := b) ex rel (by obtain ⟨_, _, _, _, _, _, _, _, h⟩ := dd; exact h)
            have hl' : (putG kvs kk x).length ≤ sizeLine := by have := putG_length kk x kvs; omega
            have at' : DnAt X.w a (putR rows kk b hx) h' := dn_of (by rw [← Paired.length pr']; exact hl') z2 rel' dd'
            have up : Paired (DRow g r (upd H a (DnHO g.w a (putR rows kk b hx)))) (putG kvs kk x) (putR rows kk b hx) := Paired.mono (fun p q h => ⟨h.1, h.2.1.updr ham ho c, h.2.2.updr ham ho c⟩) pr'
            obtain ⟨sr', st'⟩ := sr.put (so := .dN (putG kvs kk x)) (o := DnHO g.w a (putR rows kk b hx)) ha ho c (fun _ _ z => nomatch z) (ro_dn up hl')
            refine q r _ _ st' sr' (d_write I (by rw [ho]; exact True.intro) sb ?_ (by rw [hw]; exact dn_ok at'))
            obtain ⟨_, _, _, _, o', _, _, e', _⟩ := at'
            exact ⟨o', e'⟩
        · cases e2
      · cases e
  · cases e
theorem ds_dput {o i value : Expr} {pos' : Pos} {md mk mv : ME} (hK : g.K = X.K) (hw : g.w = X.w) (hu : X.A.units + 12 < cLine) (ho : PE X o (tD g md)) (hi : PE X i (tD g mk)) (hv : PE X value (tD g mv)) (hs : swapsWith value (some (.Subscript o i pos')) pos.line X.env = pure false := by rfl) :
    PS X (.Assign [.Subscript o i pos'] value pos) (tDS g (sDPutM md mk mv)) := by
  refine ⟨fun pins s st H D I h => ?_⟩
  obtain ⟨z, r, S, sl, f, sl', S', R, e, q⟩ := h
  simp only [sDPutM, Option.bind_eq_some_iff, Option.map_eq_some_iff] at e
  obtain ⟨⟨v, S1⟩, e1, ⟨d, S2⟩, e2, ⟨k, S3⟩, e3, S4, e4, e5⟩ := e
  cases e5
  refine wpAny_Assign_Subscript (thn (hv.run pins s st H (fun hv H1 => ∃ r1, Step r H r1 H1 ∧ SR (g.at z) r1 H1 S1 ∧ RV (g.at z) r1 H1 v hv) I ⟨z, r, S, sl, v, S1, R, e1, fun r1 H1 hv st1 sr1 rv => ⟨r1, st1, sr1, rv⟩⟩) fun w s1 ⟨hv', H1, I1, rw1, r1, st1, sr1, rv⟩ => ?_) hs
  have R1 := R.step st1 sr1
  refine thn (ho.run pins s1 st H1 (fun hd H2 => ∃ r2, Step r1 H1 r2 H2 ∧ SR (g.at z) r2 H2 S2 ∧ RV (g.at z) r2 H2 d hd) I1 ⟨z, r1, S1, sl, d, S2, R1, e2, fun r2 H2 hv st2 sr2 rv => ⟨r2, st2, sr2, rv⟩⟩) fun u s2 ⟨hd, H2, I2, rw2, r2, st2, sr2, rd⟩ => ?_
  have R2 := R1.step st2 sr2
  refine thn (hi.run pins s2 st H2 (fun hk H3 => ∃ r3, Step r2 H2 r3 H3 ∧ SR (g.at z) r3 H3 S3 ∧ RV (g.at z) r3 H3 k hk) I2 ⟨z, r2, S2, sl, k, S3, R2, e3, fun r3 H3 hv st3 sr3 rv => ⟨r3, st3, sr3, rv⟩⟩) fun iv s3 ⟨hk, H3, I3, rw3, r3, st3, sr3, rk⟩ => ?_
  have R3 := R2.step st3 sr3
  refine put_dic (g := g.at z) hK hw hu I3 sr3 (rd.mono st3 sr2.own) rk ((rv.mono st2 sr1.own).mono st3 sr2.own) rw2 rw3 rw1 e4 fun r4 H4 s4 st4 sr4 I4 => ?_
  exact ⟨st, H4, I4, q r4 H4 st (((st1.trans st2).trans st3).trans st4) (R3.step st4 sr4)⟩
end
end Mp
namespace Mp
open PySem PySem.Spec
      PyProof.Rows L2

/-! ### {} and {k: v, ..} -/
def eNewK : ME := fun _ S => some (.ref S.length, S ++ [.dK []])
def eNewN : ME := fun _ S => some (.ref S.length, S ++ [.dN []])
/-- the values of a display -/
def eDisp (ks : List Key) (ms : MEs) : ME := fun sl S => (ms sl S).bind fun p => if ks.length = p.1.length then some (.ref p.2.length, p.2 ++ [.dK (ks.zip p.1)]) else none
section
variable {X : Cx} {g : Gx} {pos : Pos}
theorem d_newK : PE X (.Dict [] [] pos) (tD g eNewK) := by
  refine PE.weak pe_dnewK fun st H Q h => ?_
  obtain ⟨z, r, S, sl, v, S', R, e, q⟩ := h
  cases e
  intro p hp
  obtain ⟨sr2, st2⟩ := R.sr.grow hp (RO.dK (kvs := []) (kws := []) rfl (Nat.zero_le _) .nil)
  refine q _ _ (.ref p) st2 sr2 (.ref ?_)
  rw [← R.sr.len, List.getElem?_append_right (Nat.le_refl _)]
  simp
theorem d_newN (hw : g.w = X.w) : PE X (.Dict [] [] pos) (tD g eNewN) := by
  refine ⟨fun pins s st H Q I h => ?_⟩
  obtain ⟨z, r, S, sl, v, S', R, e, q⟩ := h
  cases e
  have hp : H s.heap.objs.size = none := I.hok.fresh (Nat.le_refl _)
  obtain ⟨sr2, st2⟩ := R.sr.grow (so := .dN []) (o := DnHO (g.at z).w s.heap.objs.size []) hp (RO.dN (rows := []) rfl (Nat.zero_le _) .nil .nil)
  have d : DnAt X.w s.heap.objs.size [] (s.heap.push { cls := .type "dict", data := .dict #[] }) := ⟨Nat.zero_le _, beq_eq_false_iff_ne.mpr (Ne.symm (Nat.ne_of_lt I.big)), [], .nil, _, #[], 0, Heap.get?_push_size _ rfl, ⟨rfl, rfl, rfl⟩, rfl, rfl, List.nodup_nil⟩
  have I' : Inv X pins st (upd H s.heap.objs.size (DnHO (g.at z).w s.heap.objs.size [])) { s with heap := s.heap.push { cls := .type "dict", data := .dict #[] } } := by
    have e : DnHO (g.at z).w s.heap.objs.size [] = DnHO X.w s.heap.objs.size [] := by rw [show (g.at z).w = X.w from hw]
    rw [e]
    exact I.laid (t' := s.toks) (fun _ _ q => Heap.get?_push_of_some _ q) (Nat.le_refl _) (dn_ok d)
  refine wpAny_Dict_empty ⟨.ref s.heap.objs.size, _, I', rfl, q _ _ (.ref _) st2 sr2 (.ref ?_)⟩
  rw [← R.sr.len, List.getElem?_append_right (Nat.le_refl _)]
  simp
/-- what stands beside stays -/
theorem RVs.updf {r : List Addr} {H : Hp} {p : Addr} {u o : HO} (hu : H p = some u) (c : Chg u) (nl : ∀ xs, u ≠ .lst xs) {x : List Val} {v : List V} (h : RVs g r H x v) : RVs g r (upd H p o) x v := by
  have seqT : ∀ {b : Addr} {vs : List V}, SqT g.K H b vs → SqT g.K (upd H p o) b vs := fun {b vs} h => by
    rcases h with (h | ⟨ob, h⟩) | h
    · exact .inl (.inl (by rw [upd_ne (fun e => by rw [e, hu] at h; exact c.1 _ (Option.some.inj h))]; exact h))
    · exact .inl (.inr ⟨ob, by rw [upd_ne (fun e => by rw [e, hu] at h; exact c.2.1 _ _ (Option.some.inj h))]; exact h⟩)
    · exact .inr h
  exact RVs.rec (g := g) (r := r) (H := H) (motive_1 := fun x v _ => RV g r (upd H p o) x v) (motive_2 := fun x v _ => RVs g r (upd H p o) x v)
    .non .bl .int .str .ty (fun h => .fn h) (fun h hl _ ih => .tup (seqT h) hl ih) (fun {b _ _} h hn hz' hl _ ih => .lst (by rw [upd_ne (fun e => by rw [e, hu] at h; exact nl _ (Option.some.inj h))]; exact h) hn hz' hl ih)
    (fun {b ob _ _} h hn hl _ ih => .scr (o := ob) (by rw [upd_ne (fun e => by rw [e, hu] at h; exact c.2.2 _ _ (Option.some.inj h))]; exact h) hn hl ih) (fun h => .ref h) (fun {b ob _ _} h hd hl _ ih => .ptp (o := ob) (by rw [upd_ne (fun e => by rw [e, hu] at h; exact c.2.1 _ _ (Option.some.inj h))]; exact h) hd hl ih) .nil (fun _ _ a b => .cons a b) h
theorem RO.updf {r : List Addr} {H : Hp} {p b : Addr} {u o : HO} (hu : H p = some u) (c : Chg u) (nl : ∀ xs, u ≠ .lst xs) {x : SO} {v : HO} (h : RO g r H b x v) : RO g r (upd H p o) b x v := by
  cases h with
  | lst hl h => exact .lst hl (h.updf hu c nl)
  | dK h1 hl h2 => exact .dK h1 hl (h2.updf hu c nl)
  | dN h1 hl h0 h2 => exact .dN h1 hl (h0.updf hu c nl) (h2.updf hu c nl)
  | lkK h => cases h with | dK h1 hl h2 => exact .lkK (.dK h1 hl (h2.updf hu c nl))
  | lkN h1 hl h0 h2 => exact .lkN h1 hl (h0.updf hu c nl) (h2.updf hu c nl)
theorem SR.updf {r : List Addr} {H : Hp} {S : Sto} {p : Addr} {u o : HO} (hu : H p = some u) (c : Chg u) (nl : ∀ xs, u ≠ .lst xs) (hr : p ∉ r) (sr : SR g r H S) : SR g r (upd H p o) S := by
  refine ⟨sr.len, sr.nd, fun q hq => ?_, sr.zr, fun i so a h1 h2 => ?_⟩
  · obtain ⟨xs, e⟩ := sr.zat q hq
    exact ⟨xs, by rw [upd_ne (fun z => by rw [z, hu] at e; exact nl _ (Option.some.inj e))]; exact e⟩
  · obtain ⟨y, hy, ro⟩ := sr.at_ i so a h1 h2
    exact ⟨y, by rw [upd_ne (fun z => hr (by rw [← z]; exact List.mem_of_getElem? h2))]; exact hy, ro.updf hu c nl⟩
theorem RVs.wide {r : List Addr} {H : Hp} {p : Addr} (ny : ∀ y, H p = some y → (∀ xs, y ≠ .lst xs) ∧ ∀ ob xs, y ≠ .frz ob (.lst xs)) {x : List Val} {v : List V} (h : RVs g r H x v) : RVs g (r ++ [p]) H x v := by
  have nin : ∀ a, a ∉ r → a ≠ p → a ∉ r ++ [p] := fun a h1 h2 h => by
    rcases List.mem_append.mp h
          with q | q
    · exact h1 q
    · exact h2 (by simpa using q)
  exact RVs.rec (g := g) (r := r) (H := H) (motive_1 := fun x v _ => RV g (r ++ [p]) H x v) (motive_2 := fun x v _ => RVs g (r ++ [p]) H x v)
    .non .bl .int .str .ty (fun h => .fn h) (fun h hl _ ih => .tup h hl ih) (fun {a _ _} h hn hz' hl _ ih => .lst h (nin a hn fun e => by rw [e] at h; exact (ny _ h).1 _ rfl) hz' hl ih)
    (fun {a ob _ _} h hn hl _ ih => .scr (o := ob) h (nin a hn fun e => by rw [e] at h; exact (ny _ h).2 _ _ rfl) hl ih) (fun {n a} h => .ref (by
      have hl : n < r.length := (List.getElem?_eq_some_iff.mp h).1
      rw [List.getElem?_append_left hl]; exact h)) (fun h hd hl _ ih => .ptp h hd hl ih) .nil (fun _ _ a b => .cons a b) h
theorem RO.wide {r : List Addr} {H : Hp} {p b : Addr} (ny : ∀ y, H p = some y → (∀ xs, y ≠ .lst xs) ∧ ∀ ob xs, y ≠ .frz ob (.lst xs)) {x : SO} {v : HO} (h : RO g r H b x v) : RO g (r ++ [p]) H b x v := by
  cases h with
  | lst hl h => exact .lst hl (h.wide ny)
  | dK h1 hl h2 => exact .dK h1 hl (h2.wide ny)
  | dN h1 hl h0 h2 => exact .dN h1 hl (h0.wide ny) (h2.wide ny)
  | lkK h => cases h with | dK h1 hl h2 => exact .lkK (.dK h1 hl (h2.wide ny))
  | lkN h1 hl h0 h2 => exact .lkN h1 hl (h0.wide ny) (h2.wide ny)
/-- an object that stood empty becomes one of the store's -/
theorem SR.own1 {r r0 : List Addr} {H H0 : Hp} {S : Sto} {p : Addr} {u o : HO} {so : SO} (sr : SR g r H S) (hu : H p = some u) (c : Chg u) (nl : ∀ xs, u ≠ .lst xs) (no : (∀ xs, o ≠ .lst xs) ∧ ∀ ob xs, o ≠ .frz ob (.lst xs)) (hr : p ∉ r) (h0 : H0 p = none) (s : Step r0 H0 r H) (ro : RO g r (upd H p o) p so o) :
    SR g (r ++ [p]) (upd H p o) (S ++ [so]) ∧ Step r0 H0 (r ++ [p]) (upd H p o) := by
  have sr1 : SR g r (upd H p o) S := sr.updf hu c nl hr
  have ny : ∀ y, (upd H p o) p = some y → (∀ xs, y ≠ .lst xs) ∧ ∀ ob xs, y ≠ .frz ob (.lst xs) := fun y e => by
    rw [upd_same] at e
    cases e
    exact no
  refine ⟨⟨by simp [sr.len], ?_, sr1.zat, fun q hq m => ?_, fun i x a h1 h2 => ?_⟩, ⟨fun b x h hb => ?_, ?_, fun b hb => ?_, fun b ob x h => by rw [upd_ne (fun z => by rw [z, h0] at h; cases h)]; exact s.frz b ob x h⟩⟩
  · rw [List.nodup_append]
    exact ⟨sr.nd, by simp, fun a ha b hb e => by
      have : b = p := by simpa using hb
      rw [e, this] at ha
      exact hr ha⟩
  · rcases List.mem_append.mp m with m | m
    · exact sr.zr q hq m
    · have e : q = p := by simpa using m
      obtain ⟨xs, hx⟩ := sr.zat q hq
      rw [e, hu] at hx
      exact nl _ (Option.some.inj hx)
  · by_cases hi : i < S.length
    · rw [List.getElem?_append_left hi] at h1
      rw [List.getElem?_append_left (by rw [sr.len]; exact hi)] at h2
      obtain ⟨y, hy, ro'⟩ := sr1.at_ i x a h1 h2
      exact ⟨y, hy, ro'.wide ny⟩
    · rw [List.getElem?_append_right (by omega)] at h1
      rw [List.getElem?_append_right (by rw [sr.len]; omega)] at h2
      have hi' : i - S.length = 0 := by
        have := (List.getElem?_eq_some_iff.mp h1).1
        simp at this
        omega
      rw [hi'] at h1
      rw [sr.len, hi'] at h2
      simp at h1 h2
      subst h1 h2
      exact ⟨o, upd_same, ro.wide ny⟩
  · have ne : b ≠ p := fun z => by rw [z, h0] at h; cases h
    rw [upd_ne ne]
    exact s.ext b x h hb
  · obtain ⟨t, rfl⟩ := s.pre
    exact ⟨t ++ [p], by simp⟩
  · rcases List.mem_append.mp hb with q | q
    · exact s.new b q
    · have e : b = p := by simpa using q
      rw [e]
      exact .inr h0
/-- the pairs of a display whose keys are constants -/
def keysC : List Str → List ME → List (ME × ME)
  | x :: xs, m :: ms => (eCon (.str x), m) :: keysC xs ms
  | _, _ => []
def esAll : List ME → MEs
  | [] => esNil
  | m :: ms => esCons m (esAll ms)
theorem pairs_read {z : List Addr} {st : L2.St} : ∀ (xs : List Str) (ms : List ME) {r : List Addr} {H : Hp} {S S' : Sto} {sl : Sl} {vs : List Val} {Q : List (V × V) → Hp → Prop}, xs.length = ms.length → Rep (g.at z) r H S sl st → esAll ms sl S = some (vs, S') →
    (∀ r' H' hvs, Step r H r' H' → SR (g.at z) r' H' S' → RVs (g.at z) r' H' vs hvs → Q ((xs.map V.str).zip hvs) H') → tPairs ((keysC xs ms).map fun p => (tD g p.1, tD g p.2)) st H Q
  | [], [], r, H, S, S', sl, vs, Q, _, R, e, q => by
    cases e
    exact q r H [] (.refl r H) R.sr .nil
  | x :: xs, m :: ms, r, H, S, S', sl, vs, Q, hl, R, e, q => by
    simp only [esAll, esCons, Option.bind_eq_some_iff] at e
    obtain ⟨⟨v, S1⟩, e1, ⟨ws, S2⟩, e2, e3⟩ := e
    cases e3
    refine ⟨z, r, S, sl, _, _, R, rfl, fun r1 H1 hk st1 sr1 rk => ?_⟩
    cases rk
    refine ⟨z, r1, S, sl, v, S1, R.step st1 sr1, e1, fun r2 H2 hv st2 sr2 rv => ?_⟩
    refine pairs_read xs ms (by simpa using hl) ((R.step st1 sr1).step st2 sr2) e2 fun r3 H3 hvs st3 sr3 rvs => ?_
    exact q r3 H3 (hv :: hvs) ((st1.trans st2).trans st3) sr3 (.cons (rv.mono st3 sr2.own) rvs)
  | [], _ :: _, _, _, _, _, _, _, _, hl, _, _, _ => by cases hl
  | _ :: _, [], _, _, _, _, _, _, _, hl, _, _, _ => by cases hl
theorem merge_new : ∀ (kvs acc : List (Key × V)), ((acc ++ kvs).map (·.1)).Nodup → mergeK acc kvs = acc ++ kvs
  | [], acc, _ => by simp [mergeK]
  | p :: ps, acc, h => by
    have hn : (acc.any fun kv => decide (kv.1 = p.1)) = false := by
      rw [List.any_eq_false]
      intro y hy e
      rw [decide_eq_true_eq] at e
      rw [List.map_append, List.nodup_append] at h
      exact h.2.2 y.1 (List.mem_map_of_mem hy) p.1 (by simp) e
    show mergeK (putK acc p.1 p.2) ps = _
    unfold putK
    rw [hn, if_neg Bool.false_ne_true, merge_new ps (acc ++ [(p.1, p.2)]) (by simpa using h)]
    simp
theorem zip_kv : ∀ (xs : List Str) (hvs : List V), (xs.map V.str).zip hvs = ((xs.map (Sum.inr : Str → Key)).zip hvs).map fun kv => (kV kv.1, kv.2)
  | [], _ => rfl
  | _ :: _, [] => rfl
  | x :: xs, v :: vs => by
    simp only [List.map_cons, List.zip_cons_cons, zip_kv xs vs]
    rfl
theorem zip_fst {α β : Type} : ∀ (xs : List α) (vs : List β), xs.length = vs.length → (xs.zip vs).map (·.1) = xs ∧ (xs.zip vs).map (·.2) = vs
  | [], [], _ => ⟨rfl, rfl⟩
  | [], _ :: _, h => by cases h
  | _ :: _, [], h => by cases h
  | x :: xs, v :: vs, h => by
    obtain ⟨a, b⟩ := zip_fst xs vs (by simpa using h)
    exact ⟨by simp [a], by simp [b]⟩
theorem esAll_length : ∀ (ms : List ME) {sl : Sl} {S S' : Sto} {vs : List Val}, esAll ms sl S = some (vs, S') → vs.length = ms.length
  | [], _, _, _, _, e => by cases e; rfl
  | m :: ms, _, _, _, _, e => by
    simp only [esAll, esCons, Option.bind_eq_some_iff] at e
    obtain ⟨⟨v, S1⟩, e1, ⟨ws, S2⟩, e2, e3⟩ := e
    cases e3
    simp [esAll_length ms e2]
theorem d_disp {keys : List (Option Expr)} {values : List Expr} {xs : List Str} {ms : List ME} (h : PPs X pos keys values ((keysC xs ms).map fun p => (tD g p.1, tD g p.2))) (hx : xs.length = ms.length) (nd : xs.Nodup) (h15 : xs.length ≤ 15) (hall : keys.all (·.isSome) = true := by rfl) (hl : keys.length = values.length := by rfl) (h0 : keys ≠ [] := by intro z; cases z)
    (hk : keys.length ≤ 15 := by decide) : PE X (.Dict keys values pos) (tD g (eDisp (xs.map Sum.inr) (esAll ms))) := by
  refine PE.weak (pe_disp h hall hl h0 hk) fun st H Q h => ?_
  obtain ⟨z, r, S, sl, v, S', R, e, q⟩ := h
  simp only [eDisp, Option.bind_eq_some_iff] at e
  obtain ⟨⟨vs, S1⟩, e1, e2⟩ := e
  have hv := esAll_length ms e1
  rw [if_pos (by simp [hv, hx])] at e2
  cases e2
  intro p hp
  have R1 : Rep (g.at z) r (upd H p (.dK [])) S sl st := R.step (Step.new1 hp) (R.sr.beside hp)
  refine pairs_read xs ms hx R1 e1 fun r2 H2 hvs st2 sr2 rvs => ?_
  have np : p ∉ r := notin_own R.sr.own hp
  have h2 : H2 p = some (.dK []) := st2.ext p _ upd_same np
  have np2 : p ∉ r2 := fun hm => by
    rcases st2.new p hm with c | c
    · exact np c
    · rw [upd_same] at c; cases c
  have lv : hvs.length = xs.length := by rw [← rvs.length, hv, hx]
  have kk : ((xs.map (Sum.inr : Str → Key)).zip hvs).map (·.1) = xs.map Sum.inr := (zip_fst _ _ (by simp [lv])).1
  have kv : ((xs.map (Sum.inr : Str → Key)).zip hvs).map (·.2) = hvs := (zip_fst _ _ (by simp [lv])).2
  refine ⟨h2, (xs.map Sum.inr).zip hvs, zip_kv xs hvs, by simp [lv]; exact h15, ?_⟩
  rw [merge_new _ [] (by rw [List.nil_append, kk]; exact nd.map _ (fun a b h e => h (Sum.inr.inj e)))]
  have c : Chg (.dK []) := ⟨fun _ z => (nomatch z), fun _ _ z => (nomatch z), fun _ _ z => (nomatch z)⟩
  obtain ⟨sr3, st3⟩ := SR.own1 (g := g.at z) (so := .dK ((xs.map Sum.inr).zip vs)) (o := .dK ((xs.map Sum.inr).zip hvs)) sr2 h2 c (fun _ z => nomatch z) ⟨fun _ z => (nomatch z), fun _ _ z => (nomatch z)⟩ np2 hp ((Step.new1 hp).trans st2)
    (RO.dK (by rw [kk]; exact (zip_fst _ _ (by simp [hv, hx])).1) (by rw [sizeLine_eq]; simp; omega) (by rw [kv, (zip_fst _ _ (by simp [hv, hx])).2]; exact rvs.updf h2 c (fun _ z => nomatch z)))
  refine q _ _ (.ref p) st3 sr3 (.ref ?_)
  rw [← sr2.len, List.getElem?_append_right (Nat.le_refl _)]
  simp
end
end Mp
namespace Mp
open PySem PySem.Spec
      PyProof.Rows L2

/-! ### is, is not -/
def fIs (neg : Bool) (_ : Sto) : Val → Val → Option Val
  | .bl a, .bl b => some (.bl (neg ^^ decide (a = b)))
  | .non, .non => some (.bl (neg ^^ true))
  | .int _, .non => some (.bl (neg ^^ false))
  | .str _, .non => some (.bl (neg ^^ false))
  | .tup _, .non => some (.bl (neg ^^ false))
  | .ptp _, .non => some (.bl (neg ^^ false))
  | .lst _, .non => some (.bl (neg ^^ false))
  | .ref _, .non => some (.bl (neg ^^ false))
  | _, _ => none
section
variable {X : Cx} {g : Gx} {pos : Pos}
theorem o_is {neg : Bool} : OpR X (compareOp (if neg then .IsNot else .Is)) (rG2 g (fIs neg)) := by
  intro pins s st H x y v u Q I rx ry h
  obtain ⟨z, r, S, a, b, w, sr, ra, rb, e, q⟩ := h
  have fin : ∀ k, w = .bl k → Q (.bl k) H := fun k hk => q r H _ (.refl r H) sr (by rw [hk]; exact .bl k)
  unfold fIs at e
  split at e
  · rename_i a b
    cases e
    cases ra
    cases rb
    cases neg
    · exact op_isBl pins s st H _ _ v u Q I rx ry ⟨a, b, rfl, rfl, fin _ (by simp)⟩
    · exact op_notBl pins s st H _ _ v u Q I rx ry ⟨a, b, rfl, rfl, fin _ (by simp)⟩
  all_goals first
    | cases e
    | skip
  all_goals
    cases rb
    cases neg
    · refine op_isN pins s st H _ _ v u Q I rx ry ⟨rfl, fin _ ?_⟩
      cases ra <;> simp
    · refine op_notN pins s st H _ _ v u Q I rx ry ⟨rfl, fin _ ?_⟩
      cases ra <;> simp
theorem fIs_bl {neg : Bool} : ∀ S x y v, fIs neg S x y = some v → ∃ k, v = .bl k := fun S x y v e => by
  unfold fIs at e
  split at e <;> cases e <;> exact ⟨_, rfl⟩

/-! ### a, b, c = x, y, z -/
def sPar3 (i j l : Nat) (a b c : ME) : MS := fun sl S => (a sl S).bind fun p => (b sl p.2).bind fun q => (c sl q.2).bind fun t => some (.nxt, ((sl.set i (some p.1)).set j (some q.1)).set l (some t.1), t.2)
theorem ds_par3 {i j l : Nat} {x y w : Str} {a b c : Expr} {ma mb mc : ME} {px py pz pt : Pos} {kt k2 : Nat} {pt2 : Pos} (hc : X.calm = true) (hN : X.N.Nodup) (hi : X.N[i]? = some x) (hj : X.N[j]? = some y) (hl : X.N[l]? = some w) (hij : i ≠ j) (hil : i ≠ l) (hjl : j ≠ l)
    (hx : X.env.scope.names.lookup x = some .local) (hy : X.env.scope.names.lookup y = some .local) (hz : X.env.scope.names.lookup w = some .local) (ha : PE X a (tD g ma)) (hb : PE X b (tD g mb)) (hcc : PE X c (tD g mc))
    (hw : swappedStores [.Tuple [.Name x px, .Name y py, .Name w pz] kt pt] (.Tuple [a, b, c] k2 pt2) X.env = pure (some [x, y, w]))
    (hs : swapsWithSole [.Tuple [.Name x px, .Name y py, .Name w pz] kt pt] (.Tuple [a, b, c] k2 pt2) pos.line X.env = pure false := by rfl)
    (s1 : starEach [a, b, c] X.env = (false, eval a X.env) :: starEach [b, c] X.env := by rfl) (s2 : starEach [b, c] X.env = (false, eval b X.env) :: starEach [c] X.env := by rfl) (s3 : starEach [c] X.env = (false, eval c X.env) :: starEach [] X.env := by rfl) :
    PS X (.Assign [.Tuple [.Name x px, .Name y py, .Name w pz] kt pt] (.Tuple [a, b, c] k2 pt2) pos) (tDS g (sPar3 i j l ma mb mc)) := by
  refine PS.weak (ps_par3 (i := i) (j := j) (l := l) hc hN hi hj hl hij hil hjl hx hy hz (pa_cons ha (pa_cons hb (pa_cons hcc pa_nil s3) s2) s1) hw hs) fun D st H h => ?_
  obtain ⟨z, r, S, sl, f, sl', S', R, e, q⟩ := h
  simp only [sPar3, Option.bind_eq_some_iff] at e
  obtain ⟨⟨a, S1⟩, e1, ⟨b, S2⟩, e2, ⟨c, S3⟩, e3, e4⟩ := e
  cases e4
  refine ⟨z, r, S, sl, a, S1, R, e1, fun r1 H1 x st1 sr1 rx => ⟨z, r1, S1, sl, b, S2, R.step st1 sr1, e2, fun r2 H2 y st2 sr2 ry => ⟨z, r2, S2, sl, c, S3, (R.step st1 sr1).step st2 sr2, e3, fun r3 H3 t st3 sr3 rt => ?_⟩⟩⟩
  have sl3 := (((R.sl.mono st1 R.sr.own).mono st2 sr1.own).mono st3 sr2.own)
  exact ⟨x, y, t, rfl, q r3 H3 _ ((st1.trans st2).trans st3) ⟨sr3, ((sl3.set ((rx.mono st2 sr1.own).mono st3 sr2.own) i).set (ry.mono st3 sr2.own) j).set rt l⟩⟩

/-! ### methods -/
def eMeth (chk : Sto → Val → Bool) (f : Sto → Val → List Val → Option (Val × Sto)) (mo : ME) (ms : MEs) : ME := fun sl S => (mo sl S).bind fun o => if chk o.2 o.1 then (ms sl o.2).bind fun p => f p.2 o.1 p.1 else none
def rMG (g : Gx) (f : Sto → Val → List Val → Option (Val × Sto)) : V → List V → Hp → VK → Prop := fun x vs H Q => ∃ z r S a xs v S', SR (g.at z) r H S ∧ RV (g.at z) r H a x ∧ RVs (g.at z) r H xs vs ∧ f S a xs = some (v, S') ∧
  ∀ r' H' hv, Step r H r' H' → SR (g.at z) r' H' S' → RV (g.at z) r' H' v hv → Q hv H'
theorem meth_read {chk : Sto → Val → Bool} {f : Sto → Val → List Val → Option (Val × Sto)} {mo : ME} {ms : MEs} {T : String} {st : L2.St} {H : Hp} {Q : VK} (ty : ∀ z r H S a x, SR (Gx.at g z) r H S → RV (Gx.at g z) r H a x → chk S a = true → tyV X.K T x H) (h : tD g (eMeth chk f mo ms) st H Q) : tBM X.K T (rMG g f) (tD g mo) (tDs g ms) st H Q := by
  obtain ⟨z, r, S, sl, v, S', R, e, q⟩ := h
  simp only [eMeth, Option.bind_eq_some_iff] at e
  obtain ⟨⟨o, S1⟩, e1, e2⟩ := e
  dsimp only at e2
  split at e2
  · rename_i hc
    simp only [Option.bind_eq_some_iff] at e2
    obtain ⟨⟨xs, S2⟩, e3, e4⟩ := e2
    refine ⟨z, r, S, sl, o, S1, R, e1, fun r1 H1 ho st1 sr1 ro => ⟨ty z r1 H1 S1 o ho sr1 ro hc, z, r1, S1, sl, xs, S2, R.step st1 sr1, e3, fun r2 H2 vs st2 sr2 rvs => ?_⟩⟩
    exact ⟨z, r2, S2, o, xs, v, S', sr2, ro.mono st2 sr1.own, rvs, e4, fun r3 H3 hv st3 sr3 rv => q r3 H3 hv ((st1.trans st2).trans st3) sr3 rv⟩
  · cases e2
def isL (S : Sto) : Val → Bool
  | .ref n => match S[n]? with
    | some (.lst _) => true
    | _ => false
  | _ => false
theorem isL_ty {z r H S a x} (sr : SR (Gx.at g z) r H S) (h : RV (Gx.at g z) r H a x) (e : isL S a = true) : tyV X.K "list" x H := by
  unfold isL at e
  split at e
  · split at e
    · rename_i hx
      cases h with
      | ref ha =>
        obtain ⟨u, hu, ro⟩ := sr.at_ _ _ _ hx ha
        cases ro with
        | lst hl hs => exact .inl ⟨rfl, _, .inl (.inl hu)⟩
    · cases e
  · cases e
def fPop (S : Sto) (a : Val) (xs : List Val) : Option (Val × Sto) := match a, xs with
  | .ref n, [.int i] => match S[n]? with
    | some (.lst ys) => if -(2 ^ 63) ≤ i ∧ i < 2 ^ 63 then (seqIndex? i ys.length).bind fun k => (ys[k]?).map fun y => (y, S.set n (.lst (ys.eraseIdx k))) else none
    | _ => none
  | _, _ => none
def fApp (S : Sto) (a : Val) (xs : List Val) : Option (Val × Sto) := match a, xs with
  | .ref n, [y] => match S[n]? with
    | some (.lst ys) => if ys.length < sizeLine then some (.non, S.set n (.lst (ys ++ [y]))) else none
    | _ => none
  | _, _ => none
theorem RVs.erase {r : List Addr} {H : Hp} : ∀ {xs : List Val} {vs : List V} (k : Nat), RVs g r H xs vs → RVs g r H (xs.eraseIdx k) (vs.eraseIdx k)
  | _, _, _, .nil => .nil
  | _, _, 0, .cons _ t => t
  | _, _, k + 1, .cons h t => .cons h (RVs.erase k t)
theorem chg_lst {vs : List V} : Chg (.lst vs) := ⟨fun _ z => (nomatch z), fun _ _ z => (nomatch z), fun _ _ z => (nomatch z)⟩
theorem m_pop : MtR X "list.pop" (rMG g fPop) := by
  intro pins s st H x vs v us Q I rx rvs h
  obtain ⟨z, r, S, a, xs, w, S', sr, ra, rxs, e, q⟩ := h
  unfold fPop at e
  split at e
  · rename_i n i
    split at e
    · rename_i ys hy
      split at e
      · rename_i hi
        simp only [Option.bind_eq_some_iff, Option.map_eq_some_iff] at e
        obtain ⟨k, e1, y, e2, e3⟩ := e
        cases e3
        cases ra with
        | ref ha =>
          obtain ⟨u, hu, ro⟩ := sr.at_ _ _ _ hy ha
          cases ro with
          | lst hl hs =>
            cases rxs with
            | cons b t =>
              cases t
              cases b
              obtain ⟨hv, g1, g2⟩ := hs.get e2
              have ham := List.mem_of_getElem? ha
              refine mt_popAt pins s st H _ _ v us Q I rx rvs ⟨_, _, i, k, hv, rfl, rfl, hu, hi.1, hi.2, by rw [← hs.length]; exact e1, g1, ?_⟩
              obtain ⟨sr', st'⟩ := sr.put (so := .lst (ys.eraseIdx k)) (o := .lst (_ : List V)) ha hu chg_lst (fun _ _ z => nomatch z) (.lst (by have := len_erase ys k; omega) ((hs.erase k).updr ham hu chg_lst))
              exact q r _ hv st' sr' (g2.updr ham hu chg_lst)
      · cases e
    · cases e
  · cases e
theorem m_app : MtR X "list.append" (rMG g fApp) := by
  intro pins s st H x vs v us Q I rx rvs h
  obtain ⟨z, r, S, a, xs, w, S', sr, ra, rxs, e, q⟩ := h
  unfold fApp at e
  split at e
  · rename_i n y
    split at e
    · rename_i ys hy
      split at e
      · rename_i hi
        cases e
        cases ra with
        | ref ha =>
          obtain ⟨u, hu, ro⟩ := sr.at_ _ _ _ hy ha
          cases ro with
          | lst hl hs =>
            cases rxs with
            | cons b t =>
              cases t
              have ham := List.mem_of_getElem? ha
              refine mt_append pins s st H _ _ v us Q I rx rvs ⟨_, _, _, rfl, rfl, hu, by rw [← hs.length]; exact hi, ?_⟩
              obtain ⟨sr', st'⟩ := sr.put (so := .lst (ys ++ [y])) (o := .lst (_ : List V)) ha hu chg_lst (fun _ _ z => nomatch z) (.lst (by simp; omega) ((hs.append (.cons b .nil)).updr ham hu chg_lst))
              exact q r _ _ st' sr' .non
      · cases e
    · cases e
  · cases e
variable {o e : Expr} {mo : ME} {ms : MEs} {apos cpos : Pos} {es : List Expr}
theorem d_pop (ho : PE X o (tD g mo)) (ha : PA X [e] (tDs g ms)) (hbase : attributeBase o "pop" X.env (eval o X.env) = eval o X.env := by rfl)
    (hfew : ((backTo cpos (starEach [e] X.env)).all (fun x => !x.1) && (backToKw cpos (keywordEach [] X.env)).all (fun x => x.1.isSome) && decide (([e] : List Expr).length + ([] : List Keyword).length + (if ([] : List Keyword).isEmpty then 0 else 1) < 30)) = true := by rfl)
    (hline : (apos.endLine == cpos.line) = true := by rfl) (hs : starEach [e] X.env = (false, eval e X.env) :: starEach [] X.env := by rfl) (hpl : (backTo cpos (starEach [] X.env)).any (·.1) = false := by rfl) : PE X (.Call (.Attribute o "pop" apos) [e] [] cpos) (tD g (eMeth isL fPop mo ms)) :=
  PE.weak (pe_bm F.plainAttrs_list F.slot_list_pop F.type_list_pop m_pop ho ha hbase hfew hline hs hpl) fun _ _ _ h => meth_read (fun _ _ _ _ _ _ a b c => isL_ty a b c) h
theorem d_app (ho : PE X o (tD g mo)) (ha : PA X [e] (tDs g ms)) (hbase : attributeBase o "append" X.env (eval o X.env) = eval o X.env := by rfl)
    (hfew : ((backTo cpos (starEach [e] X.env)).all (fun x => !x.1) && (backToKw cpos (keywordEach [] X.env)).all (fun x => x.1.isSome) && decide (([e] : List Expr).length + ([] : List Keyword).length + (if ([] : List Keyword).isEmpty then 0 else 1) < 30)) = true := by rfl)
    (hline : (apos.endLine == cpos.line) = true := by rfl) (hs : starEach [e] X.env = (false, eval e X.env) :: starEach [] X.env := by rfl) (hpl : (backTo cpos (starEach [] X.env)).any (·.1) = false := by rfl) : PE X (.Call (.Attribute o "append" apos) [e] [] cpos) (tD g (eMeth isL fApp mo ms)) :=
  PE.weak (pe_bm F.plainAttrs_list F.slot_list_append F.type_list_append m_app ho ha hbase hfew hline hs hpl) fun _ _ _ h => meth_read (fun _ _ _ _ _ _ a b c => isL_ty a b c) h
end
end Mp
namespace Mp
open PySem PySem.Spec
      PyProof.Rows L2

/-! ### tuple(list) as a plain tuple; t.index(x) -/
def fTupP : FN := fun S xs => match xs with
  | [x] => (lstOf S x).map .ptp
  | _ => none
section
variable {X : Cx} {g : Gx} {pos : Pos}
theorem Step.newF {r : List Addr} {H : Hp} {p : Addr} {o : HO} (hp : H p = none) : Step r H r (upd H p o) := Step.new1 hp
theorem c_tupleP : CallR X (.type "tuple") (rGn g fTupP) := by
  intro pins s st H vs us Q I rs h
  obtain ⟨z, r, S, xs, v, sr, rx, e, q⟩ := h
  unfold fTupP at e
  split at e
  · simp only [Option.map_eq_some_iff] at e
    obtain ⟨ys, e1, rfl⟩ := e
    cases rx with
    | cons a b =>
      cases b
      obtain ⟨p, ws, rfl, hp, hz, hs⟩ := lstOf_at sr a e1
      obtain ⟨u, rfl, ru⟩ := vals1 rs
      cases ru
      obtain ⟨its, rv, pl, _⟩ := I.list (.inl (.inl hp))
      refine call_tuple_list pl.isList (fun h' kp => ?_) (by
        have := rv.length
        have := hs.length
        simp only [List.size_toArray]
        omega)
      have I1 : Inv X pins st H { s with heap := h' } := I.kept (t' := s.toks) kp
      have hn : H h'.objs.size = none := I1.hok.fresh (Nat.le_refl _)
      have I2 : Inv X pins st (upd H h'.objs.size (.frz { cls := .type "tuple", data := .seq its.toArray } (.tup ws))) { s with heap := h'.push { cls := .type "tuple", data := .seq its.toArray } } :=
        I1.laid (t' := s.toks) (fun b o e => Heap.get?_push_of_some _ e) (Nat.le_refl _) ⟨Heap.get?_push_size _ rfl, show ws.length ≤ sizeLine ∧ _ from ⟨by rw [← hs.length]; exact hz, its, rv, IsTup.new _ _⟩⟩
      refine ⟨.ref h'.objs.size, _, I2, rfl, q r _ (.ref _) (Step.new1 hn) (sr.beside hn) (.ptp upd_same rfl hz (hs.of_none sr.own hn))⟩
  · cases e
variable {o e : Expr} {mo : ME} {ms : MEs} {apos cpos : Pos} {es : List Expr}
/-- a method's call, the receiver's kind said by the machine's state -/
theorem pe_bmS {T : String} {name : Str} {id : String} {r : V → List V → Hp → VK → Prop} {to : TE} {t : TA} {ok : V → Hp → Prop} (tyOk : ∀ (pins : List (Addr × Obj)) (s : Shared) (st : L2.St) (H : Hp) (x : V) (v : Value), Inv X pins st H s → RelV x v → ok x H → s.TypeIs v T ∧ ∀ a, v = .ref a → ∃ ob, s.heap.get? a = some ob ∧ ob.dict = none)
    (pa : PlainAttrs T) (slot : Slot T name id) (hty : typeOf (.builtin id) = pure (.type "method_descriptor")) (hm : MtR X id r) (ho : PE X o to) (ha : PA X (e :: es) t) (hbase : attributeBase o name X.env (eval o X.env) = eval o X.env)
    (hfew : ((backTo cpos (starEach (e :: es) X.env)).all (fun x => !x.1) && (backToKw cpos (keywordEach [] X.env)).all (fun x => x.1.isSome) && decide ((e :: es).length + ([] : List Keyword).length + (if ([] : List Keyword).isEmpty then 0 else 1) < 30)) = true)
    (hline : (apos.endLine == cpos.line) = true) (hs : starEach (e :: es) X.env = (false, eval e X.env) :: starEach es X.env) (hpl : (backTo cpos (starEach es X.env)).any (·.1) = false) :
    PE X (.Call (.Attribute o name apos) (e :: es) [] cpos) (fun st H Q => to st H fun x H1 => ok x H1 ∧ t st H1 fun xs H2 => r x xs H2 Q) := by
  refine ⟨fun pins s st H Q I h => wpAny_Call_method_late hbase hfew hline rfl (thn (ho.run pins s st H _ I h) fun v s1 ⟨x, H1, I1, r1, ty, q1⟩ => ?_)⟩
  obtain ⟨t1, t2⟩ := tyOk pins s1 st H1 x v I1 r1 ty
  have args := ha.run cpos pins s1 st H1 _ I1 q1
  rw [hs] at args ⊢
  refine ⟨T, id, pa, slot, hty, t1, t2, Calls.callWith_builtin ?_ (Calls.evalArgs_plain (thn args fun us s2 ⟨vs, H2, I2, r2, q2⟩ => hm pins s2 st H2 x vs v us Q I2 r1 r2 q2))⟩
  show (false || (backTo cpos (starEach es X.env)).any (·.1)) = false
  rw [hpl]
  rfl
/-- a plain tuple -/
def PlT (x : V) (H : Hp) : Prop := ∃ a ob vs, x = .ref a ∧ H a = some (.frz ob (.tup vs)) ∧ ob.dict = none
theorem plT_ok (pins : List (Addr × Obj)) (s : Shared) (st : L2.St) (H : Hp) (x : V) (v : Value) (I : Inv X pins st H s) (r : RelV x v) (h : PlT x H) : s.TypeIs v "tuple" ∧ ∀ a, v = .ref a → ∃ ob, s.heap.get? a = some ob ∧ ob.dict = none := by
  obtain ⟨a, ob, vs, rfl, ha, hd⟩ := h
  cases r
  obtain ⟨h1, _, its, _, ob', h2, h3, _⟩ := (show ObjOk X.prog X.w H s.heap a (.frz ob (.tup vs)) from I.hok a _ ha)
  refine ⟨⟨ob', h2, h3⟩, fun b e => ?_⟩
  cases e
  exact ⟨ob, h1, hd⟩
def isP (_ : Sto) : Val → Bool
  | .ptp _ => true
  | _ => false
theorem meth_readS {chk : Sto → Val → Bool} {f : Sto → Val → List Val → Option (Val × Sto)} {ok : V → Hp → Prop} {st : L2.St} {H : Hp} {Q : VK} (ty : ∀ z r H S a x, SR (Gx.at g z) r H S → RV (Gx.at g z) r H a x → chk S a = true → ok x H) (h : tD g (eMeth chk f mo ms) st H Q) : tD g mo st H fun x H1 => ok x H1 ∧ tDs g ms st H1 fun xs H2 => rMG g f x xs H2 Q := by
  obtain ⟨z, r, S, sl, v, S', R, e, q⟩ := h
  simp only [eMeth, Option.bind_eq_some_iff] at e
  obtain ⟨⟨o, S1⟩, e1, e2⟩ := e
  dsimp only at e2
  split at e2
  · rename_i hc
    simp only [Option.bind_eq_some_iff] at e2
    obtain ⟨⟨xs, S2⟩, e3, e4⟩ := e2
    refine ⟨z, r, S, sl, o, S1, R, e1, fun r1 H1 ho st1 sr1 ro => ⟨ty z r1 H1 S1 o ho sr1 ro hc, z, r1, S1, sl, xs, S2, R.step st1 sr1, e3, fun r2 H2 vs st2 sr2 rvs => ?_⟩⟩
    exact ⟨z, r2, S2, o, xs, v, S', sr2, ro.mono st2 sr1.own, rvs, e4, fun r3 H3 hv st3 sr3 rv => q r3 H3 hv ((st1.trans st2).trans st3) sr3 rv⟩
  · cases e2
def fIdx (S : Sto) (a : Val) (xs : List Val) : Option (Val × Sto) := match a, xs with
  | .ptp ys, [.str x] => (toT ys).bind fun ts => if x ∈ ts then some (.int (ts.idxOf x), S) else none
  | _, _ => none
theorem vals_strs : ∀ {xs : List Str} {us : List Value}, Vals (xs.map V.str) us → StrsAre us xs
  | [], _, .nil => .nil
  | x :: xs, _, .cons a t => by
    obtain ⟨tk, rfl⟩ := a
    exact .cons x tk (vals_strs t)
theorem m_idx (hK : g.K = X.K) : MtR X "tuple.index" (rMG g fIdx) := by
  intro pins s st H x vs v us Q I rx rvs h
  obtain ⟨z, r, S, a, xs, w, S', sr, ra, rxs, e, q⟩ := h
  unfold fIdx at e
  split at e
  · rename_i ys y
    simp only [Option.bind_eq_some_iff] at e
    obtain ⟨ts, e1, e2⟩ := e
    split at e2
    · rename_i hy
      cases e2
      obtain ⟨p, ws, rfl, h1, h2, h3⟩ := tupOf_at ra rfl
      rw [show (g.at z).K = X.K from hK] at h1
      have ew := toT_at h3 e1
      subst ew
      cases rx
      cases rxs with
      | cons b t =>
        cases t
        cases b
        obtain ⟨u, rfl, ru⟩ := vals1 rvs
        obtain ⟨tk, rfl⟩ := ru
        obtain ⟨its, ri, ht, hz⟩ := I.tuple h1
        exact PySem.SeqAt.tuple_index_strs ht (vals_strs ri) hy ⟨.int _, H, I.tok _, ⟨_, rfl⟩, q r H _ (.refl r H) sr (.int _)⟩
    · cases e2
  · cases e
theorem d_idx (hK : g.K = X.K) (ho : PE X o (tD g mo)) (ha : PA X [e] (tDs g ms)) (hbase : attributeBase o "index" X.env (eval o X.env) = eval o X.env := by rfl)
    (hfew : ((backTo cpos (starEach [e] X.env)).all (fun x => !x.1) && (backToKw cpos (keywordEach [] X.env)).all (fun x => x.1.isSome) && decide (([e] : List Expr).length + ([] : List Keyword).length + (if ([] : List Keyword).isEmpty then 0 else 1) < 30)) = true := by rfl)
    (hline : (apos.endLine == cpos.line) = true := by rfl) (hs : starEach [e] X.env = (false, eval e X.env) :: starEach [] X.env := by rfl) (hpl : (backTo cpos (starEach [] X.env)).any (·.1) = false := by rfl) : PE X (.Call (.Attribute o "index" apos) [e] [] cpos) (tD g (eMeth isP fIdx mo ms)) :=
  PE.weak (pe_bmS plT_ok F.plainAttrs_tuple F.slot_tuple_index F.type_tuple_index (m_idx hK) ho ha hbase hfew hline hs hpl) fun _ _ _ h => meth_readS (fun z r H S a x sr ra hc => by
    unfold isP at hc
    split at hc
    · cases ra with
      | ptp h0 h1 h2 h3 => exact ⟨_, _, _, rfl, h0, h1⟩
    · cases hc) h
end
end Mp
namespace Mp
open PySem PySem.Spec
      PyProof.Rows L2

/-! ### (*a, *b) -/
/-- the items of one that is starred, then the rest -/
def esStar (m : ME) (ms : MEs) : MEs := fun sl S => (m sl S).bind fun p => (seqOf p.2 p.1).bind fun xs => (ms sl p.2).bind fun q => some (xs ++ q.1, q.2)
section
variable {X : Cx} {g : Gx} {pos : Pos}
theorem star_list {M : Model} {A : Around} {E : Value → Shared → Prop} {s : Shared} {a : Addr} {items : Array Value} {Q : List Value → Shared → Prop} {prog : Program} {w : World} (hM : M = model prog w) (h : s.heap.IsList a items) (hz : items.size ≤ sizeLine) (q : ∀ h', (∀ b o, s.heap.get? b = some o → h'.get? b = some o) → Q items.toList { s with heap := h' }) : PySem.W.StarOf M A E (.ref a) Q s := by
  subst hM
  obtain ⟨o, h1, h2, n, h3⟩ := h
  unfold PySem.W.StarOf
        notIterableAtAll
  refine wpAny_bind (wpAny_specialOf (T := "list") ⟨o, h1, h2⟩ slot_list_iter.lookup ?_)
  simp only [Option.isSome_some, if_true]
  refine wpAny_pure ⟨rfl, wpAny_collect_seq a (.inl rfl) h1 h2 h3 q hz⟩
theorem star_tuple {M : Model} {A : Around} {E : Value → Shared → Prop} {s : Shared} {a : Addr} {items : Array Value} {Q : List Value → Shared → Prop} {prog : Program} {w : World} (hM : M = model prog w) (h : IsTup s.heap a items) (hz : items.size ≤ sizeLine) (q : ∀ h', (∀ b o, s.heap.get? b = some o → h'.get? b = some o) → Q items.toList { s with heap := h' }) : PySem.W.StarOf M A E (.ref a) Q s := by
  subst hM
  obtain ⟨o, h1, h2, n, h3⟩ := h
  unfold PySem.W.StarOf
        notIterableAtAll
  refine wpAny_bind (wpAny_specialOf (T := "tuple") ⟨o, h1, h2⟩ F.slot_tuple_iter.lookup ?_)
  simp only [Option.isSome_some, if_true]
  refine wpAny_pure ⟨rfl, wpAny_collect_seq a (.inr rfl) h1 h2 h3 q hz⟩
theorem d_star {e : Expr} {p : Pos} {es : List Expr} {m : ME} {ms : MEs} (hK : g.K = X.K) (he : PE X e (tD g m)) (hr : PA X es (tDs g ms)) (hs : starEach (.Starred e p :: es) X.env = (true, eval e X.env) :: starEach es X.env := by rfl) : PA X (.Starred e p :: es) (tDs g (esStar m ms)) := by
  refine ⟨fun pos pins s st H Q I h => ?_⟩
  obtain ⟨z, r, S, sl, v, S', R, e0, q⟩ := h
  simp only [esStar, Option.bind_eq_some_iff] at e0
  obtain ⟨⟨x, S1⟩, e1, xs, e2, ⟨ys, S2⟩, e3, e4⟩ := e0
  cases e4
  rw [hs]
  refine PySem.W.ks_spliced (thn (he.run pins s st H (fun hx H1 => ∃ r1, Step r H r1 H1 ∧ SR (g.at z) r1 H1 S1 ∧ RV (g.at z) r1 H1 x hx) I ⟨z, r, S, sl, x, S1, R, e1, fun r1 H1 hx st1 sr1 rx => ⟨r1, st1, sr1, rx⟩⟩) fun u s1 ⟨hx, H1, I1, ru, r1, st1, sr1, rx⟩ => ?_)
  obtain ⟨a, vs, rfl, hp, hz, hs'⟩ := seqOf_at sr1 rx e2
  rw [show (g.at z).K = X.K from hK] at hp
  cases ru
  have rest : ∀ (its : List Value), Vals vs its → ∀ h', (∀ b o, s1.heap.get? b = some o → h'.get? b = some o) → wpAny (model X.prog X.w) X.A (spliced (backTo pos (starEach es X.env))) (fun ws s3 => AP X pins st Q (its ++ ws) s3) X.xe { s1 with heap := h' } := fun its rv h' k => by
    have I2 : Inv X pins st H1 { s1 with heap := h' } := I1.kept (t' := s1.toks) k
    refine thn (hr.run pos pins _ st H1 (fun hys H2 => ∃ r2, Step r1 H1 r2 H2 ∧ SR (g.at z) r2 H2 S2 ∧ RVs (g.at z) r2 H2 ys hys) I2 ⟨z, r1, S1, sl, ys, S2, R.step st1 sr1, e3, fun r2 H2 hys st2 sr2 ry => ⟨r2, st2, sr2, ry⟩⟩) fun ws s3 ⟨hys, H2, I3, rw3, r2, st2, sr2, ry⟩ => ?_
    exact ⟨vs ++ hys, H2, I3, rv.append rw3, q r2 H2 _ (st1.trans st2) sr2 ((hs'.mono st2 sr1.own).append ry)⟩
  rcases hp with hp | ⟨hp, _⟩
  · obtain ⟨its, rv, pl, hz'⟩ := I1.list hp
    have e := rest its rv
    exact star_list rfl pl.isList (by have := rv.length; simp only [List.size_toArray]; omega) (fun h' k => e h' k)
  · obtain ⟨its, rv, pl, hz'⟩ := I1.tuple hp
    have e := rest its rv
    exact star_tuple rfl pl (by have := rv.length; simp only [List.size_toArray]; omega) (fun h' k => e h' k)
/-- a tuple display whose length is seen as it runs -/
def eTupV (ms : MEs) : ME := fun sl S => (ms sl S).bind fun p => if p.1.length ≤ sizeLine then some (.tup p.1, p.2) else none
theorem d_tupV {es : List Expr} {ms : MEs} {k : Nat} (h : PA X es (tDs g ms)) : PE X (.Tuple es k pos) (tD g (eTupV ms)) := by
  refine PE.weak (pe_tup h) fun st H Q h => ?_
  obtain ⟨z, r, S, sl, v', S', R, e, q⟩ := h
  simp only [eTupV, Option.bind_eq_some_iff] at e
  obtain ⟨⟨a, S1⟩, e1, e3⟩ := e
  dsimp only at e3
  split at e3
  · rename_i hz
    cases e3
    refine ⟨z, r, S, sl, _, _, R, e1, fun r1 H1 x st1 sr1 rx => ⟨by rw [← rx.length]; exact hz, fun p hp => ?_⟩⟩
    exact q r1 _ (.ref p) (st1.trans (Step.new1 hp)) (sr1.beside hp) (RV.newT sr1 hp hz rx)
  · cases e3
end
end Mp
namespace Mp
open PySem PySem.Spec
      PyProof.Rows L2

/-! ### for k in d, d a dict with nested keys that is locked meanwhile -/
def Itn (w : World) (d : Addr) (o : Obj) (rows : List NRow) : It :=
  ⟨fun i H => H d = some (.frz o (DnHO w d rows)) ∧ i < rows.length, fun i H x H' => H' = H ∧ ∃ p, rows[i]? = some p ∧ x = .ref p.2.1, fun i H => H d = some (.frz o (DnHO w d rows)) ∧ rows.length ≤ i⟩
theorem paired_at {α β : Type} {F : α → β → Prop} : ∀ {l : List α} {m : List β} {i : Nat} {a : α}, Paired F l m → l[i]? = some a → ∃ b, m[i]? = some b ∧ F a b
  | _, _, _, _, .nil,
        e => by simp at e
  | _, _, 0, _, .cons h _, e => by simp at e; subst e; exact ⟨_, rfl, h⟩
  | _, _, i + 1, _, .cons _ t, e => by
    obtain ⟨b, h1, h2⟩ := paired_at (i := i) t (by simpa using e)
    exact ⟨b, by simpa using h1, h2⟩
section
variable {X : Cx} {g : Gx} {pos : Pos}
/-- what a locked dict is -/
theorem frzN {pins : List (Addr × Obj)} {st : L2.St} {H : Hp} {s : Shared} {d : Addr} {o : Obj} {rows : List NRow} {w : World} (I : Inv X pins st H s) (h : H d = some (.frz o (DnHO w d rows))) :
    s.heap.get? d = some o ∧ (d == sysModules) = false ∧ o.ExactDict ∧ rows.length ≤ sizeLine ∧ ∃ es ep xs, o.data = .dict es ep ∧ es.size = rows.length ∧ Paired RowRel rows xs ∧ es.toList = xs.map (entN w) := by
  obtain ⟨h1, ⟨hz, hd, xs, rel, o', es, ep, h2, h3, h4, h5, _⟩, _⟩ := (show ObjOk X.prog X.w H s.heap d (.frz o (DnHO w d rows)) from I.hok d _ h)
  rw [h1] at h2
  cases h2
  refine ⟨h1, hd, h3, hz, es, ep, xs, h4, ?_, rel, h5⟩
  rw [← Array.length_toList, h5, List.length_map, Paired.length rel]
theorem turn_keysN {P : Program} {w w' : World} {K : PySem.W.Frag} {tg : Expr} {d : Addr} {o : Obj} {es : Array DictEntry} {ep : Nat} {rows : List NRow} (it : Addr) (hod : o.data = .dict es ep) : Turn P w K tg (Itn w' d o rows) [it] it (fun i h => h.IsKeyIter it d i rows.length ep) where
  mem := by simp
  obj := fun i h st b hb => by
    obtain rfl : b = it := by simpa using hb
    obtain ⟨oi, e, c, dd⟩ := st
    exact ⟨oi, e, fun v z =>
          by rw [dd] at z; cases z⟩
  keep := fun i h h' st k => st.at
        fun oi e => k it (by simp) oi e
  item := by
    intro X hP hw hK hc i pins s st H E I hf tn hg
    subst hP hw hK
    obtain ⟨hd, hi⟩ := hg
    obtain ⟨f0, f1, f2, f3,
          f4, f5⟩ := hf it (by simp)
    obtain ⟨h1, h2, h3, h4, es', ep', xs, h5, h6, rel, h7⟩ := frzN I hd
    obtain ⟨rfl, rfl⟩ := dict_ep hod h5
    have hr := List.getElem?_eq_getElem hi
    obtain ⟨x, hx, rx⟩ := paired_at rel hr
    have hen : es'[i]? = some (entN w' x) := by
      rw [← Array.getElem?_toList, h7, List.getElem?_map, hx]
      rfl
    refine next_key_item tn h1 h5 h6 hen fun h' tn' sb => ?_
    have I1 : Inv X pins st H { s with heap := h' } := I.turned (t' := s.toks) (fun b ob hb e => (sb.2 b hb).trans e) f0 f1 f3 f4 f5
    obtain ⟨oi, e, c, dd⟩ := id tn'
    exact ⟨_, rfl, go_of (s := { s with heap := h' }) e c dd (by decide) ⟨.ref x.2.1, H, I1, rfl, ⟨rfl, _, hr, by rw [rx.2.1]⟩, tn', fun b hb => (hf b hb).1⟩⟩
  done := by
    intro X hP hw hK hc i pins s st H E I hf tn hg
    subst hP hw hK
    obtain ⟨hd, hi⟩ := hg
    obtain ⟨f0, f1, f2, f3,
          f4, f5⟩ := hf it (by simp)
    obtain ⟨h1, h2, h3, h4, es', ep', xs, h5, h6, rel, h7⟩ := frzN I hd
    obtain ⟨rfl, rfl⟩ := dict_ep hod h5
    exact next_key_end (I.ok.hd hc) tn h1 h5 h6 hi fun h' eb => ⟨rfl, I.turned (t' := s.toks) (fun b ob hb e => eb b ob hb e) f0 f1 f3 f4 f5⟩
  self := fun A i s Q E tn h => wpAny_pyIter_keyiter tn h
/-- the keys of a locked dict -/
def iKeysN (m : ME) : MI := fun sl S => (m sl S).bind fun p => match p.1 with
  | .ref n => match p.2[n]? with
    | some (.lk (.dN kvs)) => some (⟨kvs.map fun q => ofK q.1, none⟩, p.2)
    | _ => none
  | _ => none
theorem di_keysN {t e : Expr} {m : ME} (hw : g.w = X.w) (he : PE X e (tD g m)) : PI X t e (iD g (iKeysN m)) := by
  refine ⟨fun pins s st H R I h => ?_⟩
  obtain ⟨z, r, S, sl, src, S', R0, e0, q⟩ := h
  simp only [iKeysN, Option.bind_eq_some_iff] at e0
  obtain ⟨⟨v, S1⟩, e1, e2⟩ := e0
  dsimp only at e2
  split at e2
  · rename_i n
    split at e2
    · rename_i kvs hx
      cases e2
      refine thn (he.run pins s st H (fun hv H1 => ∃ r1, Step r H r1 H1 ∧ SR (g.at z) r1 H1 S' ∧ RV (g.at z) r1 H1 (.ref n) hv) I ⟨z, r, S, sl, _, S', R0, e1, fun r1 H1 hv st1 sr1 rv => ⟨r1, st1, sr1, rv⟩⟩) fun u s1 ⟨hv, H1, I1, ru, r1, st1, sr1, rv⟩ => ?_
      cases rv with
      | @ref _ a ha =>
        cases ru
        obtain ⟨o, ho, ro⟩ := sr1.at_ _ _ _ hx ha
        cases ro with
        | @lkN _ ob rows h1 hz h2 h3 =>
          obtain ⟨g1, g2, g3, g4, es, ep, xs, g5, g6, rel, g7⟩ := frzN I1 ho
          have pr := rows_pair h1 h2 h3
          have lk : rows.length = kvs.length := (Paired.length pr).symm
          refine iter_keys g2 g1 g3 g5 (pi_one (tk := s1.toks) I1 _ (turn_keysN (w' := (g.at z).w) (d := a) (rows := rows) _ g5) ⟨_, Heap.get?_push_size _ rfl, rfl, ?_⟩ (q r1 H1 _ st1 sr1 ?_))
          · rw [g6]; rfl
          · refine ⟨by simp; exact hz, fun z' r2 H2 S2 s2 zs sr2 _ => ⟨fun i x hx' => ?_, fun i hi => ?_⟩⟩
            · have hi : i < kvs.length := by
                have := (List.getElem?_eq_some_iff.mp hx').1
                simpa using this
              have f2 := s2.frz _ _ _ ho
              refine ⟨⟨f2, by omega⟩, fun hv H3 y => ?_⟩
              obtain ⟨rfl, p, hp, rfl⟩ := y
              refine ⟨fun _ _ q => q, ?_⟩
              rw [List.getElem?_map, Option.map_eq_some_iff] at hx'
              obtain ⟨kv, hk, rfl⟩ := hx'
              obtain ⟨p', hp', rr⟩ := paired_at pr hk
              rw [hp] at hp'
              cases hp'
              exact rr.2.1.monoS s2 sr1 zs
            · have f2 := s2.frz _ _ _ ho
              exact ⟨f2, by simp at hi; omega⟩
    · cases e2
  · cases e2
/-! ### locked while it runs -/
def lockS (S : Sto) (n : Nat) : Option (SO × Sto) := match S[n]? with
  | some (.dK kvs) => some (.dK kvs, S.set n (.lk (.dK kvs)))
  | some (.dN kvs) => some (.dN kvs, S.set n (.lk (.dN kvs)))
  | _ => none
def eLock (i : Nat) (m : ME) : ME := fun sl S => match sl[i]? with
  | some (some (.ref n)) => (lockS S n).bind fun p => (m sl p.2).bind fun q => some (q.1, q.2.set n p.1)
  | _ => none
theorem lockS_at {r : List Addr} {H : Hp} {S S1 : Sto} {n : Nat} {so : SO} {a : Addr} (sr : SR g r H S) (ha : r[n]? = some a) (e : lockS S n = some (so, S1)) : ∃ u, H a = some u ∧ Mut (some u) ∧ Chg u ∧ (∀ ob x, u ≠ .frz ob x) ∧ RO g r H a so u ∧ S1 = S.set n (.lk so) ∧
    ∀ od, RO g r (upd H a (.frz od u)) a (.lk so) (.frz od u) ∧ Chg (.frz od u) := by
  have ham := List.mem_of_getElem? ha
  unfold lockS at e
  split at e
  · rename_i hx
    cases e
    obtain ⟨u, hu, ro⟩ := sr.at_ _ _ _ hx ha
    cases ro with
    | @dK _ kws h1 hl h2 =>
      have c : Chg (.dK kws) := ⟨fun _ z => (nomatch z), fun _ _ z => (nomatch z), fun _ _ z => (nomatch z)⟩
      exact ⟨_, hu, True.intro, c, fun _ _ z => (nomatch z), .dK h1 hl h2, rfl, fun od => ⟨.lkK (.dK h1 hl (h2.updr ham hu c)), fun _ z => (nomatch z), fun _ _ z => (nomatch z), fun _ _ z => (nomatch z)⟩⟩
  · rename_i hx
    cases e
    obtain ⟨u, hu, ro⟩ := sr.at_ _ _ _ hx ha
    cases ro with
    | @dN _ rows h1 hl h0 h2 =>
      have c : Chg (DnHO g.w a rows) := ⟨fun _ z => (nomatch z), fun _ _ z => (nomatch z), fun _ _ z => (nomatch z)⟩
      exact ⟨_, hu, True.intro, c, fun _ _ z => (nomatch z), .dN h1 hl h0 h2, rfl, fun od => ⟨.lkN h1 hl (h0.updr ham hu c) (h2.updr ham hu c), fun _ z => (nomatch z), fun _ _ z => (nomatch z), fun _ _ z => (nomatch z)⟩⟩
  · cases e
theorem d_lock {e : Expr} {i : Nat} {m : ME} (he : PE X e (tD g m)) : PE X e (tD g (eLock i m)) := by
  refine PE.weak (pe_lock he) fun st H Q h => ?_
  obtain ⟨z, r, S, sl, v, S', R, e0, q⟩ := h
  unfold eLock at e0
  split at e0
  · rename_i n hn
    simp only [Option.bind_eq_some_iff] at e0
    obtain ⟨⟨so, S1⟩, e1, ⟨w, S2⟩, e2, e3⟩ := e0
    cases e3
    obtain ⟨hv, _, rv⟩ := R.sl.at_ i _ hn
    cases rv with
    | @ref _ a ha =>
      obtain ⟨u, hu, mu, c, nf, ro, rfl, lk⟩ := lockS_at R.sr ha e1
      have ham := List.mem_of_getElem? ha
      refine ⟨a, u, hu, mu, fun od => ?_⟩
      obtain ⟨ro1, c1⟩ := lk od
      obtain ⟨sr1, st1⟩ := R.sr.put (so := .lk so) (o := .frz od u) ha hu c nf ro1
      refine ⟨z, r, S.set n (.lk so), sl, _, S2, R.step st1 sr1, e2, fun r2 H2 hv2 st2 sr2 rv2 => ?_⟩
      have hf : H2 a = some (.frz od u) := st2.frz _ _ _ upd_same
      have ha2 : r2[n]? = some a := st2.get ha
      have ham2 := List.mem_of_getElem? ha2
      have ro2 : RO (g.at z) r2 (upd H2 a u) a so u := ((RO.updr ham hu c ro).mono st2 sr1.own).updr ham2 hf c1
      have sr3 : SR (g.at z) r2 (upd H2 a u) (S2.set n so) := by
        have sr' := sr2
        refine ⟨by rw [List.length_set]; exact sr'.len, sr'.nd, fun p hp => ?_, sr'.zr, fun j x b h1 h2 => ?_⟩
        · obtain ⟨xs, e⟩ := sr'.zat p hp
          exact ⟨xs, by rw [upd_ne fun z => sr'.zr p hp (by rw [z]; exact ham2)]; exact e⟩
        · by_cases hj : n = j
          · subst hj
            rw [ha2] at h2
            cases h2
            have hl : n < S2.length := by rw [← sr'.len]; exact (List.getElem?_eq_some_iff.mp ha2).1
            rw [List.getElem?_set_self hl] at h1
            cases h1
            exact ⟨u, upd_same, ro2⟩
          · rw [List.getElem?_set_ne hj] at h1
            obtain ⟨y, hy, ro'⟩ := sr'.at_ j x b h1 h2
            have ne : b ≠ a := fun z => by
              rw [z] at h2
              have l1 := (List.getElem?_eq_some_iff.mp ha2).1
              exact hj ((List.getElem?_inj l1 sr'.nd).mp (ha2.trans h2.symm))
            exact ⟨y, by rw [upd_ne ne]; exact hy, ro'.updr ham2 hf c1⟩
      have keepN : ∀ b x, H b = some x → b ≠ a → (upd H a (.frz od u)) b = some x := fun b x h ne => by rw [upd_ne ne]; exact h
      refine ⟨hf, q r2 _ hv2 ⟨fun b x h hb => ?_, st2.pre, fun b hb => ?_, fun b ob x h => ?_⟩ sr3 (rv2.updr ham2 hf c1)⟩
      · have ne : b ≠ a := fun z => hb (by rw [z]; exact ham)
        rw [upd_ne ne]
        exact st2.ext b x (keepN b x h ne) hb
      · rcases st2.new b hb with y | y
        · exact .inl y
        · by_cases ne : b = a
          · rw [ne]; exact .inl ham
          · rw [upd_ne ne] at y; exact .inr y
      · have ne : b ≠ a := fun z => by rw [z, hu] at h; exact nf _ _ (Option.some.inj h)
        rw [upd_ne ne]
        exact st2.frz b ob x (keepN b _ h ne)
  · cases e0
end
end Mp
namespace Mp
open PySem PySem.Spec PySem.Calls PyProof.Rows L2

/-! ### sorted(d), min(d) of a dict with nested keys -/
def rowsK (rows : List NRow) : List Row := rows.map fun p => (p.2.1, p.1)
def minRow (p : Row) (ps : List Row) : Row := ps.foldl (fun a y => if PySem.W.dataLt y.2.data a.2.data then y else a) p
def minKey (k : NestedKey) (ks : List NestedKey) : NestedKey := ks.foldl (fun a y => if PySem.W.dataLt y.data a.data then y else a) k
theorem minRow_key : ∀ (ps : List Row) (p : Row), (minRow p ps).2 = minKey p.2 (ps.map (·.2))
  | [], _ => rfl
  | q :: ps, p => by
    have ih := minRow_key ps (if PySem.W.dataLt q.2.data p.2.data then q else p)
    unfold minRow minKey at ih ⊢
    simp only [List.foldl_cons, List.map_cons]
    rw [ih]
    split <;> rfl
theorem minRow_mem : ∀ (ps : List Row) (p : Row), minRow p ps ∈ p :: ps
  | [], _ => List.mem_cons_self
  | q :: ps, p => by
    have ih := minRow_mem ps (if PySem.W.dataLt q.2.data p.2.data then q else p)
    unfold minRow at ih ⊢
    simp only [List.foldl_cons]
    rcases List.mem_cons.mp ih with e | h
    · rw [e]
      split
      · exact List.mem_cons_of_mem _ List.mem_cons_self
      · exact List.mem_cons_self
    · exact List.mem_cons_of_mem _ (List.mem_cons_of_mem _ h)
section
variable {P : Program} {w : World} {A : Around} {E : Value → Shared → Prop} {s : Shared} {d : Addr} {es : Array DictEntry} {ep : Nat} {L : List Row}
/-- the i-th key -/
def KeyIs (es : Array DictEntry) (L : List Row) : Prop := es.size = L.length ∧ ∀ (i : Nat) (hi : i < es.size), ∃ p, L[i]? = some p ∧ es[i].key = .ref p.1
theorem keys_of_rows {rows : List NRow} {xs : List (NestedKey × Addr × Value)} (rel : Paired RowRel rows xs) (e : es.toList = xs.map (entN w)) : KeyIs es (rowsK rows) := by
  have hl : es.size = rows.length := by rw [← Array.length_toList, e, List.length_map, Paired.length rel]
  refine ⟨by unfold rowsK; rw [List.length_map]; exact hl, fun i hi => ?_⟩
  obtain ⟨x, hx, rx⟩ := paired_at rel (List.getElem?_eq_getElem (hl ▸ hi))
  refine ⟨(x.2.1, rows[i].1), ?_, ?_⟩
  · unfold rowsK
    rw [List.getElem?_map, List.getElem?_eq_getElem (hl ▸ hi), Option.map_some, rx.2.1]
  · have : es[i]? = some (entN w x) := by rw [← Array.getElem?_toList, e, List.getElem?_map, hx]; rfl
    rw [Array.getElem?_eq_getElem hi] at this
    rw [Option.some.inj this]
    rfl
theorem sorted_of_dict {Q : Value → Shared → Prop} (lo : (d == sysModules) = false) (raw : s.heap.DictRaw d es ep) (ks : KeyIs es L) (hz : L.length ≤ sizeLine) (hh : A.handled = none) (rd : ∀ p ∈ L, Reads s.heap (.ref p.1) p.2.data []) (hu : A.units + 20 < cLine)
    (al : PySem.W.AllAlike (L.map fun p => p.2.data)) (so : Mt.Sort2 (L.map fun p => p.2.data)) (dp : ∀ p ∈ L, p.2.data.depth ≤ 16)
    (q : ∀ (h1 h' : Heap) tk (out : Array Value) (c : Nat), (∀ b o, s.heap.get? b = some o → h1.get? b = some o) → (∀ b o, h1.get? b = some o → h'.get? b = some o) → h'.get? h1.objs.size = some (seqObj "list" out c) → out.toList = (L.mergeSort rowLe).map (fun p => Value.ref p.1) → Q (.ref h1.objs.size) { s with heap := h', toks := tk }) :
    wpAny (model P w) A (call (.builtin "sorted") [.ref d]) Q E s := by
  refine Calls.call_function_entry kind_sorted
        plain_sorted entry_sorted (args_sorted1 _) ?_
  unfold Builtin.«sorted»
  refine wpAny_bind
        (m := checkCount "sorted" 1 1 _) (wpAny_pure ?_)
  refine wpAny_bind (PySem.W.kdu_collect (A := A.in1) (KdlSrc.rawDict (es := es) (ep := ep) lo) hh raw (by rw [ks.1]; exact hz) fun h1 tk acc k1 hacc => ?_)
  have ea : acc.toList = L.map fun p => Value.ref p.1 := by
    refine List.ext_getElem? fun i => ?_
    by_cases hi : i < es.size
    · obtain ⟨p, hp, hk⟩ := ks.2 i hi
      have ha : i < acc.size := by rw [hacc.1]; exact hi
      obtain ⟨_, e⟩ := hacc.2 i acc[i] (Array.getElem?_eq_getElem ha)
      rw [Array.getElem?_toList, Array.getElem?_eq_getElem ha, List.getElem?_map, hp, e, hk]
      rfl
    · rw [List.getElem?_eq_none (by rw [Array.length_toList, hacc.1]; omega), List.getElem?_eq_none (by rw [List.length_map, ← ks.1]; omega)]
  rw [ea]
  refine wpAny_bind (wpAny_newList ?_ (by rw [List.length_map]; exact hz))
  have hl : (h1.push (seqObj "list" (L.map fun q => Value.ref q.1).toArray 0)).get? h1.objs.size = some (seqObj "list" (L.map fun q => Value.ref q.1).toArray 0) := Heap.get?_push_size _ rfl
  have rd1 : ∀ p ∈ L, ∃ as, Reads (h1.push (seqObj "list" (L.map fun q => Value.ref q.1).toArray 0)) (.ref p.1) p.2.data as ∧ h1.objs.size ∉ as := fun p hp => ⟨[], PyProof.Rows.Reads.keeps (fun b u e => Heap.get?_push_of_some _ (k1 b u e)) (rd p hp), by simp⟩
  refine wpAny_bind (wpAny_holding (Mt.sort_data2 (s := { s with heap := h1.push (seqObj "list" (L.map fun q => Value.ref q.1).toArray 0), toks := tk }) (bs := L) (enc := fun p => p.2.data) (R := fun v p => v = Value.ref p.1) hl (refs_each fun p _ => rfl) (refs_each rd1) al so hz
    (fun p hp => by have := dp p hp; show A.units + 1 + 1 + p.2.data.depth < cLine; omega) fun out a1 a2 => ?_))
  obtain ⟨c, hc⟩ := sortedHeap_at (vs := L.map fun q => Value.ref q.1) (out := out.toArray) hl
  refine wpAny_pure ⟨_, rfl, q h1 _ _ out.toArray c k1 (fun b u e => ?_) hc (each_refs a2)⟩
  have hlt := Heap.lt_size e
  show (sortedHeap (h1.push (seqObj "list" _ 0)) h1.objs.size _ out.toArray).get? b = some u
  rw [sortedHeap_old (Nat.ne_of_lt hlt) (by rw [size_push']; exact Nat.lt_succ_of_lt hlt), Heap.get?_push_of_some _ e]
theorem min_of_dict {Q : Value → Shared → Prop} {p0 : Row} {ps : List Row} (lo : (d == sysModules) = false) (raw : s.heap.DictRaw d es ep) (ks : KeyIs es (p0 :: ps)) (hh : A.handled = none) (rd : ∀ p ∈ p0 :: ps, Reads s.heap (.ref p.1) p.2.data []) (hu : A.units + 20 < cLine)
    (al : ∀ p ∈ p0 :: ps, ∀ q ∈ p0 :: ps, PySem.W.alike p.2.data q.2.data = true) (nn : ∀ p ∈ p0 :: ps, p.2.data ≠ .none) (dp : ∀ p ∈ p0 :: ps, p.2.data.depth ≤ 16)
    (q : ∀ h' tk, (∀ b o, s.heap.get? b = some o → h'.get? b = some o) → Q (.ref (minRow p0 ps).1) { s with heap := h', toks := tk }) :
    wpAny (model P w) A (call (.builtin "min") [.ref d]) Q E s := by
  have hlt : d < s.heap.objs.size := by obtain ⟨_, e, _⟩ := raw; exact Heap.lt_size e
  refine PySem.call_min_walkH (PySem.wpAny_pyIter_dict_raw lo raw ?_)
  have sz := ks.1
  refine ⟨_, _, _, _, _, _, _, s.heap, (fun i j => PySem.W.dataLt ((p0 :: ps).getD i p0).2.data ((p0 :: ps).getD j p0).2.data), rfl, (Walks.rawKeys (A := A.in1) hh _ d (Nat.ne_of_lt hlt) es ep).toS, ⟨⟨_, Heap.get?_push_size _ rfl, rfl, rfl⟩, raw.push _⟩, fun b hb => ?_, by rw [sz]; simp, fun b o e hb => ?_, fun b o e => Heap.get?_push_of_some _ e, fun i j vi vj s' Q' E' hk hi hj hq => ?_, fun v s' hP m => ?_⟩
  · show b <
          (s.heap.push _).objs.size
    rw [Heap.size_push]
    simp only [List.mem_cons,
          List.not_mem_nil, or_false] at hb
    rcases hb with rfl | rfl
    · exact Nat.lt_succ_self _
    · exact Nat.lt_succ_of_lt hlt
  · exact absurd (Heap.lt_size e)
          ((List.mem_singleton.mp hb) ▸ Nat.lt_irrefl _)
  · obtain ⟨hi, rfl⟩ := hi
    obtain ⟨hj, rfl⟩ := hj
    obtain ⟨p, hp, ep1⟩ := ks.2 i hi
    obtain ⟨p', hp', ep2⟩ := ks.2 j hj
    have m1 := List.mem_of_getElem? hp
    have m2 := List.mem_of_getElem? hp'
    rw [ep1, ep2]
    have e1 : (p0 :: ps).getD i p0 = p := by rw [List.getD_eq_getElem?_getD, hp]; rfl
    have e2 : (p0 :: ps).getD j p0 = p' := by rw [List.getD_eq_getElem?_getD, hp']; rfl
    refine PySem.W.rcLt_alike p.2.data p'.2.data A.in1 s' _ _ _ _ (PyProof.Rows.Reads.keeps hk (rd p m1)) (PyProof.Rows.Reads.keeps hk (rd p' m2)) (al p m1 p' m2) (nn p m1) ?_ P w E' Q' (by dsimp only at hq; rw [e1, e2] at hq; exact hq)
    have := dp p m1
    have := Nat.min_le_left p.2.data.depth p'.2.data.depth
    show A.units + 1 + _ < cLine
    omega
  · obtain ⟨h', tk, rfl, hk'⟩ := PySem.W.moved_old rfl rfl m
    have eb := (PySem.W.argBest_fold (fun a b : Row => PySem.W.dataLt a.2.data b.2.data) p0 p0 ps ps.length (Nat.le_refl _)).2
    rw [List.take_length] at eb
    obtain ⟨hi, rfl⟩ := hP
    obtain ⟨p, hp, ep1⟩ := ks.2 _ hi
    rw [ep1]
    have e1 : p = minRow p0 ps := by
      unfold minRow
      rw [← eb, List.getD_eq_getElem?_getD]
      have e2 : es.size - 1 = ps.length := by rw [sz]; simp
      rw [e2] at hp
      rw [hp]
      rfl
    rw [e1]
    exact q h' tk hk'
end
/-! as words -/
def dnKeys (S : Sto) : Val → Option (List NestedKey)
  | .ref n => (dnOf S n).bind fun kvs => if keysOk kvs then some (kvs.map (·.1)) else none
  | _ => none
def fSortD : FN := fun S xs => match xs with
  | [x] => (dnKeys S x).bind fun ks => if sortOk ks then some (.lst (ofKs (ks.mergeSort keyLe))) else none
  | _ => none
def fMinD : FN := fun S xs => match xs with
  | [x] => (dnKeys S x).bind fun ks => match ks with
    | k :: ks => if sortOk (k :: ks) then some (ofK (minKey k ks)) else none
    | [] => none
  | _ => none
section
variable {X : Cx} {g : Gx} {pos : Pos}
theorem dn_raw {h : Heap} {a : Addr} {rows : List NRow} {w : World} (d : DnAt w a rows h) : ∃ es ep xs, h.DictRaw a es ep ∧ (a == sysModules) = false ∧ Paired RowRel rows xs ∧ es.toList = xs.map (entN w) := by
  obtain ⟨_, hd, xs, rel, o, es, ep, h1, h2, h3, h4, _⟩ := d
  exact ⟨es, ep, xs, ⟨o, h1, h2, h3⟩, hd, rel, h4⟩
theorem keys_at {pins : List (Addr × Obj)} {st : L2.St} {H : Hp} {s : Shared} {r : List Addr} {S : Sto} {x : Val} {v : V} {ks : List NestedKey} (hK : g.K = X.K) (hw : g.w = X.w) (I : Inv X pins st H s) (sr : SR g r H S) (rx : RV g r H x v) (e : dnKeys S x = some ks) :
    ∃ d rows es ep, v = .ref d ∧ s.heap.DictRaw d es ep ∧ (d == sysModules) = false ∧ KeyIs es (rowsK rows) ∧ (rowsK rows).map (·.2) = ks ∧ (rowsK rows).length ≤ sizeLine ∧ (∀ p ∈ rowsK rows, RV g r H (ofK p.2) (.ref p.1)) ∧ (∀ p ∈ rowsK rows, Reads s.heap (.ref p.1) p.2.data []) := by
  unfold dnKeys at e
  split at e
  · simp only [Option.bind_eq_some_iff] at e
    obtain ⟨kvs, e1, e2⟩ := e
    split at e2
    · rename_i ok
      cases e2
      cases rx with
      | @ref _ a ha =>
        obtain ⟨rows, rd, hl, hd, pr, xs, rel, dd⟩ := dn_at hK hw I sr ha e1 ok
        obtain ⟨es, ep, xs', raw, _, rel', ee⟩ := dn_raw (rd.ok I.hok).1
        obtain ⟨e3, _, _⟩ := pair_rows pr
        have rvs : ∀ p ∈ rowsK rows, RV g r H (ofK p.2) (.ref p.1) := fun p hp => by
          unfold rowsK at hp
          obtain ⟨q, hq, rfl⟩
                := List.mem_map.mp hp
          have all : ∀ {kvs : List (NestedKey × Val)} {rows : List NRow}, Paired (DRow g r H) kvs rows → ∀ q ∈ rows, RV g r H (ofK q.1) (.ref q.2.1) := by
            intro kvs rows pr
            induction pr with
            | nil => intro q hq; cases hq
            | @cons a b as bs h t ih =>
              intro q hq
              rcases List.mem_cons.mp hq
                    with rfl | hq
              · rw [← h.1]; exact h.2.1
              · exact ih q hq
          exact all pr q hq
        refine ⟨a, rows, es, ep, rfl, raw, hd, keys_of_rows rel' ee, ?_, ?_, rvs, fun p hp => (RV.key hK I (rvs p hp) (show RelV (.ref p.1) (.ref p.1) from rfl) (toK_ofK p.2)).2⟩
        · unfold rowsK
          rw [List.map_map, e3]
          rfl
        · unfold rowsK
          rw [List.length_map, ← Paired.length pr]
          exact hl
    · cases e2
  · cases e
theorem c_sortD (hK : g.K = X.K) (hw : g.w = X.w) (hc : X.calm = true) (hu : X.A.units + 20 < cLine) : CallR X (.builtin "sorted") (rGn g fSortD) := by
  intro pins s st H vs us Q I rs h
  obtain ⟨z, r, S, xs, v, sr, rx, e, q⟩ := h
  unfold fSortD at e
  split at e
  · simp only [Option.bind_eq_some_iff] at e
    obtain ⟨ks, e1, e2⟩ := e
    split at e2
    · rename_i ok
      cases e2
      unfold sortOk at ok
      simp only
            [Bool.and_eq_true] at ok
      obtain ⟨⟨al, so⟩, dp⟩ := ok
      cases rx with
      | cons a b =>
        cases b
        obtain ⟨d, rows, es, ep, rfl, raw, hd, kk, ek, hl, rvs, rds⟩ := keys_at (g := g.at z) hK hw I sr a e1
        obtain ⟨u, rfl, ru⟩ := vals1 rs
        cases ru
        have sub : ∀ p ∈ rowsK rows, p.2 ∈ ks := fun p hp => by rw [← ek]; exact List.mem_map_of_mem hp
        have deep : ∀ p ∈ rowsK rows, p.2.data.depth ≤ 16 := fun p hp => by
          have := List.all_eq_true.mp dp p.2 (sub p hp)
          rw [data_depth]
          simp at this
          omega
        refine sorted_of_dict hd raw kk hl (I.ok.hd hc) rds hu (alike_rows sub al) (sortable_rows sub so) deep fun h1 h' tk out c k1 k2 hg eo => ?_
        have I1 : Inv X pins st H { s with heap := h1 } := I.kept (t' := s.toks) k1
        have hn : H h1.objs.size = none := I1.hok.fresh (Nat.le_refl _)
        have vs' : Vals (((rowsK rows).mergeSort rowLe).map fun p => V.ref p.1) out.toList := by rw [eo]; exact vals_refs _
        have len : ((rowsK rows).mergeSort rowLe).length = (rowsK rows).length := List.length_mergeSort _
        have J : Inv X pins st (upd H h1.objs.size (.lst (((rowsK rows).mergeSort rowLe).map fun p => V.ref p.1))) { s with heap := h', toks := tk } :=
          I1.laid (t' := tk) k2 (Nat.le_refl _) ⟨by rw [List.length_map, len]; exact hl, out.toList, c, vs', hg⟩
        have keys : ((rowsK rows).mergeSort rowLe).map (·.2) = ks.mergeSort keyLe := by
          rw [List.map_mergeSort (r := rowLe) (s := keyLe) (f := fun p : Row => p.2) (l := rowsK rows) (fun a _ b _ => rfl), ek]
        refine ⟨.ref h1.objs.size, _, J, rfl, q r _ (.ref _) (Step.new1 hn) (sr.beside hn) ?_⟩
        rw [← keys]
        refine RV.newL sr hn ?_ (rows_rvs fun p hp => rvs p ((List.mergeSort_perm _ _).mem_iff.mp hp))
        rw [ofKs_map, List.length_map, List.length_map, len]
        exact hl
    · cases e2
  · cases e
theorem c_minD (hK : g.K = X.K) (hw : g.w = X.w) (hc : X.calm = true) (hu : X.A.units + 20 < cLine) : CallR X (.builtin "min") (rGn g fMinD) := by
  intro pins s st H vs us Q I rs h
  obtain ⟨z, r, S, xs, v, sr, rx, e, q⟩ := h
  unfold fMinD at e
  split at e
  · simp only [Option.bind_eq_some_iff] at e
    obtain ⟨ks, e1, e2⟩ := e
    split at e2
    · rename_i k ks
      split at e2
      · rename_i ok
        cases e2
        unfold sortOk at ok
        simp only
              [Bool.and_eq_true] at ok
        obtain ⟨⟨al, so⟩, dp⟩ := ok
        cases rx with
        | cons a b =>
          cases b
          obtain ⟨d, rows, es, ep, rfl, raw, hd, kk, ek, hl, rvs, rds⟩ := keys_at (g := g.at z) hK hw I sr a e1
          obtain ⟨u, rfl, ru⟩ := vals1 rs
          cases ru
          generalize rowsK rows = L at kk ek hl rvs rds
          cases L with
          | nil => cases ek
          | cons p0 ps =>
            have sub : ∀ p ∈ p0 :: ps, p.2 ∈ k :: ks := fun p hp => by rw [← ek]; exact List.mem_map_of_mem hp
            have deep : ∀ p ∈ p0 :: ps, p.2.data.depth ≤ 16 := fun p hp => by
              have := List.all_eq_true.mp dp p.2 (sub p hp)
              rw [data_depth]
              simp at this
              omega
            have nn : ∀ p ∈ p0 :: ps, p.2.data ≠ .none := fun p hp => by
              have hm : p.2.data ∈ (k :: ks).map NestedKey.data := List.mem_map_of_mem (sub p hp)
              rcases sortableKeys_ok so with h | h
              · obtain ⟨x, e⟩ := h _ hm
                rw [e]; exact fun z => nomatch z
              · exact (h _ hm).1
            refine min_of_dict hd raw kk (I.ok.hd hc) rds hu (fun p hp p' hp' => alikeKeys_at al (sub p hp) (sub p' hp')) nn deep fun h' tk k1 => ?_
            have em : minKey k ks = (minRow p0 ps).2 := by
              rw [minRow_key]
              simp only [List.map_cons, List.cons.injEq] at ek
              rw [ek.1, ek.2]
            refine ⟨.ref (minRow p0 ps).1, H, I.kept (t' := tk) k1, rfl, q r H _ (.refl r H) sr ?_⟩
            rw [em]
            exact rvs _ (minRow_mem ps p0)
      · cases e2
    · cases e2
  · cases e
end
end Mp
namespace Mp
open PySem PySem.Spec
      PyProof.Rows L2

/-! ### sorted(list) -/
abbrev KV1 := NestedKey × V
theorem kv_each {g : Gx} {r : List Addr} {H : Hp} : ∀ {xs : List Val} {vs : List V} {ks : List NestedKey}, RVs g r H xs vs → toKs xs = some ks → ∃ L : List KV1, L.map (·.1) = ks ∧ L.map (·.2) = vs ∧ ∀ p ∈ L, RV g r H (ofK p.1) p.2
  | _, _, _, .nil, e => by cases e; exact ⟨[], rfl, rfl, fun p hp => (by cases hp)⟩
  | x :: _, v :: _, _, .cons h t, e => by
    simp only [toKs, Option.bind_eq_some_iff, Option.map_eq_some_iff] at e
    obtain ⟨k, e1, ks, e2, rfl⟩ := e
    obtain ⟨L, l1, l2, l3⟩ := kv_each t e2
    refine ⟨(k, v) :: L, by simp [l1], by simp [l2], fun p hp => ?_⟩
    rcases List.mem_cons.mp hp
          with rfl | hp
    · show RV g r H (ofK k) v
      rw [ofK_toK e1]; exact h
    · exact l3 p hp
theorem kv_rvs {g : Gx} {r : List Addr} {H : Hp} : ∀ {L : List KV1}, (∀ p ∈ L, RV g r H (ofK p.1) p.2) → RVs g r H (ofKs (L.map (·.1))) (L.map (·.2))
  | [], _ => .nil
  | p :: L, h => .cons (h p List.mem_cons_self) (kv_rvs fun q hq => h q (List.mem_cons_of_mem _ hq))
theorem vals_each : ∀ {L : List KV1} {us : List Value}, Vals (L.map (·.2)) us → PySem.W.EachIs (fun u (p : KV1) => RelV p.2 u) us L
  | [], _, .nil => .nil
  | _ :: _, _, .cons a t => .cons a (vals_each t)
theorem each_vals : ∀ {L : List KV1} {us : List Value}, PySem.W.EachIs (fun u (p : KV1) => RelV p.2 u) us L → Vals (L.map (·.2)) us
  | _, _, .nil => .nil
  | _, _, .cons a t => .cons a (each_vals t)
theorem each_and {R S : Value → KV1 → Prop} : ∀ {L : List KV1} {us : List Value}, PySem.W.EachIs R us L → (∀ u p, p ∈ L → R u p → S u p) → PySem.W.EachIs S us L
  | _, _, .nil, _ => .nil
  | _, _, .cons a t, h => .cons (h _ _ List.mem_cons_self a) (each_and t fun u p hp => h u p (List.mem_cons_of_mem _ hp))
def fSortL : FN := fun S xs => match xs with
  | [x] => (lstOf S x).bind fun ys => (toKs ys).bind fun ks => if sortOk ks then some (.lst (ofKs (ks.mergeSort keyLe))) else none
  | _ => none
section
variable {X : Cx} {g : Gx} {pos : Pos}
theorem c_sort (hK : g.K = X.K) (hu : X.A.units + 20 < cLine) : CallR X (.builtin "sorted") (rGn g fSortL) := by
  intro pins s st H vs us Q I rs h
  obtain ⟨z, r, S, xs, v, sr, rx, e, q⟩ := h
  unfold fSortL at e
  split at e
  · simp only [Option.bind_eq_some_iff] at e
    obtain ⟨ys, e1, ks, e2, e3⟩ := e
    split at e3
    · rename_i ok
      cases e3
      unfold sortOk at ok
      simp only
            [Bool.and_eq_true] at ok
      obtain ⟨⟨al, so⟩, dp⟩ := ok
      cases rx with
      | cons a b =>
        cases b
        obtain ⟨p, ws, rfl, hp, hz, hs⟩ := lstOf_at sr a e1
        obtain ⟨L, l1, rfl, l3⟩ := kv_each hs e2
        obtain ⟨u, rfl, ru⟩ := vals1 rs
        cases ru
        obtain ⟨its, rv, pl, _⟩ := I.list (.inl (.inl hp))
        have ea := vals_each rv
        have lL : L.length ≤ sizeLine := by rw [← hs.length.trans (List.length_map _)]; exact hz
        have dat : L.map (fun p => p.1.data) = ks.map NestedKey.data := by rw [← l1, List.map_map]; rfl
        have sub : ∀ p ∈ L, p.1 ∈ ks := fun p hp => by rw [← l1]; exact List.mem_map_of_mem hp
        refine Mt.sorted_data2 (bs := L) (enc := fun p => p.1.data) (R := fun u p => RelV p.2 u) pl.isList ea (each_and ea fun u p hp hr => ⟨[], (RV.key (g := g.at z) hK I (l3 p hp) hr (toK_ofK p.1)).2⟩) ?_ ?_ lL (fun p hp => ?_) fun out h1 h2 => ?_
        · rw [dat]
          intro d hd d' hd'
          obtain ⟨k, hk, rfl⟩ := List.mem_map.mp hd
          obtain ⟨k', hk', rfl⟩ := List.mem_map.mp hd'
          exact alikeKeys_at al hk hk'
        · rw [dat]
          exact sortableKeys_ok so
        · have := List.all_eq_true.mp dp p.1 (sub p hp)
          rw [data_depth]
          simp at this
          omega
        · obtain ⟨c, hc⟩ := PyProof.Rows.sortedAll_at s.heap its out.toArray
          have hn : H (s.heap.objs.size + 1) = none := I.hok.fresh (Nat.le_succ _)
          have vs' := each_vals h2
          have len : (L.mergeSort (PySem.W.dataLe false fun p => p.1.data)).length = L.length := List.length_mergeSort _
          have J : Inv X pins st (upd H (s.heap.objs.size + 1) (.lst ((L.mergeSort (PySem.W.dataLe false fun p => p.1.data)).map (·.2)))) { s with heap := PyProof.Rows.sortedAll s.heap its out.toArray } :=
            I.laid (t' := s.toks) (fun _ _ => PyProof.Rows.sortedAll_old) (Nat.le_succ _) ⟨by rw [List.length_map, len]; exact lL, out, c, vs', hc⟩
          have keys : (L.mergeSort (PySem.W.dataLe false fun p => p.1.data)).map (·.1) = ks.mergeSort keyLe := by
            rw [List.map_mergeSort (r := PySem.W.dataLe false fun p : KV1 => p.1.data) (s := keyLe) (f := fun p : KV1 => p.1) (l := L) (fun a _ b _ => rfl), l1]
          refine ⟨.ref (s.heap.objs.size + 1), _, J, rfl, q r _ (.ref _) (Step.new1 hn) (sr.beside hn) ?_⟩
          rw [← keys]
          refine RV.newL sr hn ?_ (kv_rvs fun p hp => l3 p ((List.mergeSort_perm _ _).mem_iff.mp hp))
          rw [ofKs_map, List.length_map, List.length_map, len]
          exact lL
    · cases e3
  · cases e
end
end Mp
namespace Mp
open PySem PySem.Spec
      PyProof.Rows L2

/-! ### [e for x in a for y in b] -/
def lc2X (t : Tn) (tt : MT) (it1 : MI) (t1 : Tn) (tt1 : MT) (m : ME) (vs1 : List Nat) (s : Src) (sl : Sl) : List Val → Sto → Option (List Val × Sto)
  | [], S => if s.ok S then some ([], S) else none
  | x :: xs, S => if s.ok S then (t.m sl S x).bind fun sl1 => (tt sl1 S).bind fun p => if p.1 then (it1 sl1 p.2).bind fun q => (lcX t1 tt1 m q.1 (wipeS sl1 vs1) q.1.l q.2).bind fun y => (lc2X t tt it1 t1 tt1 m vs1 s sl xs y.2).bind fun w => some (y.1 ++ w.1, w.2) else lc2X t tt it1 t1 tt1 m vs1 s sl xs p.2
    else none
def eLc2 (t : Tn) (it : MI) (tt : MT) (it1 : MI) (t1 : Tn) (tt1 : MT) (m : ME) (vs vs1 : List Nat) : ME := fun sl S => (it sl S).bind fun p => (lc2X t tt it1 t1 tt1 m vs1 p.1 (wipeS sl vs) p.1.l p.2).bind fun w => if w.1.length ≤ sizeLine then some (.lst w.1, w.2) else none
theorem lcX_ok {t : Tn} {tt : MT} {m : ME} {s : Src} {sl : Sl} {l : List Val} {S : Sto} {w : List Val × Sto} (e : lcX t tt m s sl l S = some w) : s.ok S = true := by
  cases l with
  | nil =>
    simp only [lcX] at e
    split at e
    · assumption
    · cases e
  | cons =>
    simp only [lcX] at e
    split at e
    · assumption
    · cases e
theorem lc2X_ok {t t1 : Tn} {tt tt1 : MT} {it1 : MI} {m : ME} {vs1 : List Nat} {s : Src} {sl : Sl} {l : List Val} {S : Sto} {w : List Val × Sto} (e : lc2X t tt it1 t1 tt1 m vs1 s sl l S = some w) : s.ok S = true := by
  cases l with
  | nil =>
    simp only [lc2X] at e
    split at e
    · assumption
    · cases e
  | cons =>
    simp only [lc2X] at e
    split at e
    · assumption
    · cases e
section
variable {X : Cx} {g : Gx} {pos : Pos}
theorem lc2_read {st : L2.St} {H : Hp} {t t1 : Tn} {it it1 : MI} {tt tt1 : MT} {m : ME} {vs vs1 : List Nat} (hK : g.K = X.K) (hm : ∀ i ∈ t.all, i ∈ vs) (hm1 : ∀ i ∈ t1.all, i ∈ vs1) (hv : ∀ i ∈ vs1, i ∈ vs) {z r : List Addr} {S S' : Sto} {sl : Sl} {res : List Val} (R : Rep (g.at z) r H S sl st)
    (e : ((it sl S).bind fun p => lc2X t tt it1 t1 tt1 m vs1 p.1 (wipeS sl vs) p.1.l p.2) = some (res, S')) (hres0 : res.length ≤ sizeLine) {Q : VK}
    (q : ∀ r' H' D ys, Step r H r' H' → SR (g.at z) r' H' S' → H' D = some (.lst ys) → D ∉ r' → D ∉ z → H D = none → RVs (g.at (D :: z)) r' H' res ys → Q (.ref D) H') :
    tLc2 (iD g it) (t.t X.K) (tDt g tt) (iD g it1) (t1.t X.K) (tDt g tt1) (tD g m) vs vs1 st H Q := by
  simp only [Option.bind_eq_some_iff] at e
  obtain ⟨⟨src, S1⟩, e1, e2⟩ := e
  refine ⟨z, r, S, sl, src, S1, R, e1, fun r1 H1 J s01 sr1 ok D hD => ?_⟩
  have sD : Step r1 H1 r1 (upd H1 D (.lst [])) := Step.new1 hD
  have zs : Zs z (D :: z) H1 := fun p hp => by
    rcases List.mem_cons.mp hp
          with e | e
    · right; rw [e]; exact hD
    · exact .inl e
  have sl1 : SlR (g.at z) r1 H1 (wipeS sl vs) (wipe st vs) := (R.sl.mono s01 R.sr.own).wipe vs
  have hm0 : ∀ p ∈ z, p ∈ D :: z := fun p hp => List.mem_cons_of_mem _ hp
  have hzD : D ∈ (g.at (D :: z)).z := List.mem_cons_self
  let Wi : Nat → Hp → Prop := fun i H2 => i ≤ src.l.length ∧ ∃ r2 S2 acc ys rest, Step r1 H1 r2 H2 ∧ Rep (g.at (D :: z)) r2 H2 S2 (wipeS sl vs) (wipe st vs) ∧ H2 D = some (.lst ys) ∧ RVs (g.at (D :: z)) r2 H2 acc ys ∧ res = acc ++ rest ∧ lc2X t tt it1 t1 tt1 m vs1 src (wipeS sl vs) (src.l.drop i) S2 = some (rest, S')
  refine ⟨fun i n H2 => n = src.l.length - i ∧ Wi i H2, ⟨_, rfl, Nat.zero_le _, r1, S1, [], [], res, sD, ⟨SR.addz (g := g.at z) sr1 hD, SlR.monoZ (g := g.at z) sD sr1.own zs sl1⟩, upd_same, .nil, rfl, by simpa using e2⟩, ?_⟩
  rintro i n H2 ⟨rfl, hle, r2, S2, acc, ys, rest, s2, R2, hDy, rys, hres, e3⟩
  have oks := lc2X_ok e3
  obtain ⟨hgo, hstop⟩ := ok.2 (D :: z) r2 H2 S2 s2.z zs R2.sr oks
  by_cases hlt : i < src.l.length
  · right
    have hd : src.l.drop i = src.l[i] :: src.l.drop (i + 1) := List.drop_eq_getElem_cons hlt
    rw [hd] at e3
    simp only [lc2X, oks, if_true, Option.bind_eq_some_iff] at e3
    obtain ⟨sl3, e4, ⟨k, S3⟩, e5, e6⟩ := e3
    obtain ⟨go, yl⟩ := hgo i src.l[i] (List.getElem?_eq_getElem hlt)
    refine ⟨go, Wi (i + 1), fun H5 w => ⟨src.l.length - (i + 1), by omega, rfl, w⟩, fun hx H3 hy => ?_⟩
    obtain ⟨mo, rx⟩ := yl hx H3 hy
    refine Tn.read (g := g.at (D :: z)) (ws := vs) (hK : g.K = X.K) hm (R2.more mo) rx e4 fun st6 R6 hw => ⟨by rw [hw, wipe_sub fun _ h => h], ?_⟩
    refine ⟨D :: z, r2, S2, sl3, k, S3, R6, e5, fun r7 H7 st7 sr7 => ?_⟩
    have hD7 : H7 D = some (.lst ys) := st7.ext _ _ (mo _ _ hDy) (R2.sr.zr D List.mem_cons_self)
    have s27 : Step r2 H2 r7 H7 := mo.step.trans st7
    cases k with
    | false =>
      simp only [Bool.false_eq_true, if_false] at e6
      refine iteF ?_
      exact ⟨by omega, r7, S3, acc, ys, rest, s2.trans s27, R2.step s27 sr7, hD7, rys.mono s27 R2.sr.own, hres, e6⟩
    | true =>
      simp only [if_true, Option.bind_eq_some_iff] at e6
      refine iteT ?_
      obtain ⟨⟨src1, S4⟩, f1, ⟨ys1, S5⟩, f2, ⟨rest', S6⟩, f3, f4⟩ := e6
      cases f4
      have R7 : Rep (g.at (D :: z)) r7 H7 S3 sl3 st6 := R6.step st7 sr7
      refine ⟨D :: z, r7, S3, sl3, src1, S4, R7, f1, fun r8 H8 J1 st8 sr8 ok1 => ?_⟩
      have hD8 : H8 D = some (.lst ys) := st8.ext _ _ hD7 (sr7.zr D List.mem_cons_self)
      have s28 := s27.trans st8
      have slI : SlR (g.at (D :: z)) r8 H8 (wipeS sl3 vs1) (wipe st6 vs1) := (R7.sl.mono st8 sr7.own).wipe vs1
      have slO : SlR (g.at (D :: z)) r8 H8 (wipeS sl vs) (wipe st vs) := R2.sl.mono s28 R2.sr.own
      let Wj : Nat → Hp → Prop := fun j H9 => j ≤ src1.l.length ∧ ∃ r9 S9 accI ysI restI, Step r1 H1 r9 H9 ∧ StepZ (D :: z) r8 H8 r9 H9 ∧ SR (g.at (D :: z)) r9 H9 S9 ∧ SlR (g.at (D :: z)) r9 H9 (wipeS sl3 vs1) (wipe st6 vs1) ∧ SlR (g.at (D :: z)) r9 H9 (wipeS sl vs) (wipe st vs) ∧ H9 D = some (.lst ysI) ∧ RVs (g.at (D :: z)) r9 H9 (acc ++ accI) ysI ∧
        ys1 = accI ++ restI ∧ lcX t1 tt1 m src1 (wipeS sl3 vs1) (src1.l.drop j) S9 = some (restI, S5)
      refine ⟨fun j k H9 => k = src1.l.length - j ∧ Wj j H9, ⟨_, rfl, Nat.zero_le _, r8, S4, [], ys, ys1, s2.trans s28, (Step.refl _ _).z, sr8, slI, slO, hD8, by simpa using rys.mono s28 R2.sr.own, rfl, by simpa using f2⟩, ?_⟩
      rintro j k H9 ⟨rfl, hlej, r9, S9, accI, ysI, restI, s9, s89, sr9, slI9, slO9, hD9, rysI, hresI, f5⟩
      have oks1 := lcX_ok f5
      obtain ⟨hgo1, hstop1⟩ := ok1.2 (D :: z) r9 H9 S9 s89 (.refl _ _) sr9 oks1
      have nD9 : D ∉ r9 := sr9.zr D List.mem_cons_self
      by_cases hlj : j < src1.l.length
      · right
        have hd1 : src1.l.drop j = src1.l[j] :: src1.l.drop (j + 1) := List.drop_eq_getElem_cons hlj
        rw [hd1] at f5
        simp only [lcX, oks1, if_true, Option.bind_eq_some_iff] at f5
        obtain ⟨sl10, g4, ⟨k1, S10⟩, g5, g6⟩ := f5
        obtain ⟨go1, yl1⟩ := hgo1 j src1.l[j] (List.getElem?_eq_getElem hlj)
        refine ⟨go1, Wj (j + 1), fun H5 w => ⟨src1.l.length - (j + 1), by omega, rfl, w⟩, fun hx1 H10 hy1 => ?_⟩
        obtain ⟨mo1, rx1⟩ := yl1 hx1 H10 hy1
        have R9 : Rep (g.at (D :: z)) r9 H9 S9 (wipeS sl3 vs1) (wipe st6 vs1) := ⟨sr9, slI9⟩
        refine Tn.read (g := g.at (D :: z)) (ws := vs1) (hK : g.K = X.K) hm1 (R9.more mo1) rx1 g4 fun st11 R11 hw1 => ⟨by rw [hw1, wipe_sub fun _ h => h], ?_⟩
        refine ⟨D :: z, r9, S9, sl10, k1, S10, R11, g5, fun r12 H12 st12 sr12 => ?_⟩
        have hD12 : H12 D = some (.lst ysI) := st12.ext _ _ (mo1 _ _ hD9) nD9
        have s912 : Step r9 H9 r12 H12 := mo1.step.trans st12
        have more : ∀ {r13 : List Addr} {H13 : Hp}, Step r9 H9 r13 H13 → StepZ (D :: z) r8 H8 r13 H13 := fun {r13 H13} s => by
          refine ⟨fun b o h h1 h2 => ?_, ?_, fun b hb => ?_, fun b o u h => s.frz b o u (s89.frz b o u h)⟩
          · have h9 := s89.ext b o h h1 h2
            refine s.ext b o h9 (s89.nin h1 h)
          · obtain ⟨t9, e9⟩ := s89.pre
            obtain ⟨t13, e13⟩ := s.pre
            exact ⟨t9 ++ t13, by rw [e13, e9, List.append_assoc]⟩
          · rcases s.new b hb with y | y
            · exact s89.new b y
            · by_cases h8 : b ∈ r8
              · exact .inl h8
              · right
                cases q8 : H8 b with
                | none => rfl
                | some o =>
                  by_cases hbz : b ∈ D :: z
                  · obtain ⟨xs, e9⟩ := sr9.zat b hbz
                    rw [y] at e9; cases e9
                  · rw [s89.ext b o q8 h8 hbz] at y; cases y
        cases k1 with
        | false =>
          simp only [Bool.false_eq_true, if_false] at g6
          refine iteF ?_
          exact ⟨by omega, r12, S10, accI, ysI, restI, s9.trans s912, more s912, sr12, slI9.mono s912 sr9.own, slO9.mono s912 sr9.own, hD12, rysI.mono s912 sr9.own, hresI, g6⟩
        | true =>
          simp only [if_true, Option.bind_eq_some_iff] at g6
          refine iteT ?_
          obtain ⟨⟨y, S13⟩, g7, ⟨rest13, S14⟩, g8, g9⟩ := g6
          cases g9
          refine ⟨D :: z, r12, S10, sl10, y, S13, R11.step st12 sr12, g7, fun r13 H13 hv13 st13 sr13 rv => ?_⟩
          have nD12 : D ∉ r12 := sr12.zr D List.mem_cons_self
          have nD13 : D ∉ r13 := sr13.zr D List.mem_cons_self
          have hD13 : H13 D = some (.lst ysI) := st13.ext _ _ hD12 nD12
          have s913 : Step r9 H9 r13 H13 := s912.trans st13
          have ra13 := rysI.mono s913 sr9.own
          have hlen : ysI.length < sizeLine := by
            rw [← ra13.length]
            have : res.length = (acc ++ accI).length + (1 + rest13.length + rest'.length) := by
              rw [hres, hresI]
              simp only [List.length_append, List.length_cons]
              omega
            omega
          have s13 := s9.trans s913
          have sU : Step r1 H1 r13 (upd H13 D (.lst (ysI ++ [hv13]))) := ⟨fun b o hb hn => by rw [upd_ne (ne_of_none hb hD)]; exact s13.ext b o hb hn, s13.pre, s13.new, fun b o u hb => by rw [upd_ne (ne_of_none hb hD)]; exact s13.frz b o u hb⟩
          have m13 := more s913
          have sU8 : StepZ (D :: z) r8 H8 r13 (upd H13 D (.lst (ysI ++ [hv13]))) := ⟨fun b o hb h1 h2 => by rw [upd_ne (fun e => h2 (by rw [e]; exact List.mem_cons_self))]; exact m13.ext b o hb h1 h2, m13.pre, m13.new, fun b o u hb => by rw [upd_ne (fun e => by rw [e, hD8] at hb; cases hb)]; exact m13.frz b o u hb⟩
          have slU : ∀ {sl' : Sl} {st' : L2.St}, SlR (g.at (D :: z)) r9 H9 sl' st' → SlR (g.at (D :: z)) r13 (upd H13 D (.lst (ysI ++ [hv13]))) sl' st' := fun {sl' st'} x => ⟨x.len, fun i w hj => by
            obtain ⟨hw', e', q'⟩ := (x.mono s913 sr9.own).at_ i w hj
            exact ⟨hw', e', RV.updz (g := g.at (D :: z)) List.mem_cons_self hD13 q'⟩⟩
          refine ⟨ysI, hD13, hlen, by omega, r13, S13, accI ++ [y], ysI ++ [hv13], rest13, sU, sU8, SR.updz (g := g.at (D :: z)) List.mem_cons_self hD13 sr13, slU slI9, slU slO9, upd_same, ?_, by rw [hresI]; simp, g8⟩
          rw [← List.append_assoc]
          exact (RVs.updz (g := g.at (D :: z)) List.mem_cons_self hD13 ra13).append (.cons (RV.updz (g := g.at (D :: z)) List.mem_cons_self hD13 rv) .nil)
      · left
        have hd1 : src1.l.drop j = [] := List.drop_eq_nil_of_le (by omega)
        rw [hd1] at f5
        simp only [lcX, oks1, if_true] at f5
        cases f5
        rw [List.append_nil] at hresI
        subst hresI
        exact ⟨hstop1 j (by omega), by omega, r9, _, acc ++ ys1, ysI, rest', s9, ⟨sr9, slO9⟩, hD9, rysI, by rw [hres]; simp, f3⟩
  · left
    have hd : src.l.drop i = [] := List.drop_eq_nil_of_le (by omega)
    rw [hd] at e3
    simp only [lc2X, oks, if_true] at e3
    cases e3
    rw [List.append_nil] at hres
    subst hres
    have hDH : H D = none := by
      cases hh : H D with
      | none => rfl
      | some o =>
        have hr : D ∈ r := by
          by_cases hr : D ∈ r
          · exact hr
          · have := s01.ext D o hh hr
            rw [hD] at this; cases this
        obtain ⟨t', rfl⟩ := s01.pre
        obtain ⟨u, hu, _⟩ := sr1.own D (List.mem_append_left _ hr)
        rw [hD] at hu; cases hu
    exact ⟨hstop i (by omega), q r2 H2 D ys (s01.trans s2) (SR.fewz (g := g.at (D :: z)) hm0 R2.sr) hDy (R2.sr.zr D List.mem_cons_self) (fun hz => by
      obtain ⟨xs, e'⟩ := sr1.zat D hz
      rw [hD] at e'; cases e') hDH rys⟩
theorem d_lc2 {elt tg iter tg1 iter1 : Expr} {ifs ifs1 : List Expr} {scope : Scope} {own : List (Str × Nat)} {vs1 : List Nat} {it it1 : MI} {t t1 : Tn} {tt tt1 : MT} {m : ME} (hK : g.K = X.K) (hc : X.calm = true) (hN : X.N.Nodup) (hi : PI X tg iter (iD g it)) (ok : BlkOk X.N X.env.scope scope own) (hm : ∀ i ∈ t.all, i ∈ own.map (·.2)) (hm1 : ∀ i ∈ t1.all, i ∈ vs1) (hv : ∀ i ∈ vs1, i ∈ own.map (·.2))
    (hg : ∀ (s : Shared) (H : Hp) (C : Addr) (cl : List (Str × Addr)) (fp : List Addr), PG (X.blk s H scope (compEnvC scope cl C X.env) fp) tg (t.t X.K)) (ht : ∀ (s : Shared) (H : Hp) (C : Addr) (cl : List (Str × Addr)) (fp : List Addr), PTs (X.blk s H scope (compEnvC scope cl C X.env) fp) ifs (tDt g tt))
    (hi1 : ∀ (s : Shared) (H : Hp) (C : Addr) (cl : List (Str × Addr)) (fp : List Addr), PI (X.blk s H scope (compEnvC scope cl C X.env) fp) tg1 iter1 (iD g it1)) (hg1 : ∀ (s : Shared) (H : Hp) (C : Addr) (cl : List (Str × Addr)) (fp : List Addr), PG (X.blk s H scope (compEnvC scope cl C X.env) fp) tg1 (t1.t X.K))
    (ht1 : ∀ (s : Shared) (H : Hp) (C : Addr) (cl : List (Str × Addr)) (fp : List Addr), PTs (X.blk s H scope (compEnvC scope cl C X.env) fp) ifs1 (tDt g tt1)) (he : ∀ (s : Shared) (H : Hp) (C : Addr) (cl : List (Str × Addr)) (fp : List Addr), PE (X.blk s H scope (compEnvC scope cl C X.env) fp) elt (tD g m))
    (hs : ∀ x, foldedSetIterable iter X.env x = pure x := by intro _; rfl) (hs1 : ∀ env x, foldedSetIterable iter1 env x = pure x := by intro _ _; rfl) : PE X (.ListComp elt [⟨tg, iter, ifs, 0⟩, ⟨tg1, iter1, ifs1, 0⟩] scope pos) (tD g (eLc2 t it tt it1 t1 tt1 m (own.map (·.2)) vs1)) := by
  refine PE.weak (pe_lc2 hc hN hi ok hv hg ht hi1 hg1 ht1 he hs hs1) fun st H Q h => ?_
  obtain ⟨z, r, S, sl, v, S', R, e, q⟩ := h
  simp only [eLc2, Option.bind_eq_some_iff] at e
  obtain ⟨p, e1, w, e2, e3⟩ := e
  split at e3
  · rename_i hz
    cases e3
    refine lc2_read (res := w.1) (S' := w.2) hK hm hm1 hv R (by simp [e1, e2]) hz fun r' H' D ys st' sr' hD hnr hnz hn rv => ?_
    exact q r' H' (.ref D) st' sr' (.lst hD hnr hnz hz (RVs.fewz (g := g.at (D :: z)) (fun p hp => List.mem_cons_of_mem _ hp) rv))
  · cases e3
end
end Mp
namespace Mp
open PySem PySem.Spec
      PyProof.Rows L2

/-! ### d.update(list of pairs) -/
def prsOf : List Val → Option (List (NestedKey × Val))
  | [] => some []
  | .tup [k, v] :: xs => (toK k).bind fun kk => (prsOf xs).map fun ps => (kk, v) :: ps
  | _ => none
def putAll (kvs ps : List (NestedKey × Val)) : List (NestedKey × Val) := ps.foldl (fun acc p => putG acc p.1 p.2) kvs
def putAllR (rows qs : List NRow) : List NRow := qs.foldl (fun acc q => putR acc q.1 q.2.1 q.2.2) rows
theorem pair_putAll {g : Gx} {r : List Addr} {H : Hp} : ∀ {ps : List (NestedKey × Val)} {qs : List NRow} {kvs : List (NestedKey × Val)} {rows : List NRow}, Paired (DRow g r H) ps qs → Paired (DRow g r H) kvs rows → Paired (DRow g r H) (putAll kvs ps) (putAllR rows qs)
  | _, _, _, _, .nil, h => h
  | p :: _, q :: _, _, _, .cons ⟨e, a, b⟩ t, h => by
    unfold putAll putAllR
    simp only [List.foldl_cons]
    rw [← e]
    exact pair_putAll t (pair_put a b h)
theorem putAll_le : ∀ (ps kvs : List (NestedKey × Val)), (putAll kvs ps).length ≤ kvs.length + ps.length
  | [], kvs => by simp [putAll]
  | p :: ps, kvs => by
    have h1 := putAll_le ps (putG kvs p.1 p.2)
    have h2 := putG_length p.1 p.2 kvs
    show (putAll (putG kvs p.1 p.2) ps).length ≤ _
    rw [List.length_cons]
    omega
theorem atKey_none {xs : List (NestedKey × Addr × Value)} {k : NestedKey} (h : ¬ (atKey xs k).isSome = true) : k ∉ xs.map (·.1) := fun hm => by
  obtain ⟨x, hx, rfl⟩
        := List.mem_map.mp hm
  apply h
  unfold atKey
  rw [Option.isSome_map]
  exact List.find?_isSome.mpr ⟨x, hx, by simp⟩
theorem nodup_stored {xs : List (NestedKey × Addr × Value)} {k : NestedKey} {b : Addr} {u : Value} (nd : (xs.map (·.1)).Nodup) : ((storedH xs k b u).map (·.1)).Nodup := by
  unfold storedH
  split
  · have : (xs.map (putAt k u)).map (·.1) = xs.map (·.1) := by
      rw [List.map_map]
      refine List.map_congr_left
            fun x _ => ?_
      show (putAt k u x).1 = x.1
      unfold putAt
      split <;> rfl
    rw [this]; exact nd
  · rename_i h
    rw [List.map_append,
          List.nodup_append]
    refine ⟨nd, by simp, fun a ha c hc e => ?_⟩
    have : c = k := by simpa using hc
    rw [e, this] at ha
    exact atKey_none h ha
theorem rel_putAll : ∀ {qs : List NRow} {zs : List (NestedKey × Addr × Value)} {rows : List NRow} {xs : List (NestedKey × Addr × Value)}, Paired RowRel qs zs → Paired RowRel rows xs → (xs.map (·.1)).Nodup → Paired RowRel (putAllR rows qs) (storedAllH xs zs)
  | _, _, _, _, .nil, h, _ => h
  | q :: _, z :: _, _, _, .cons ⟨e1, e2, e3⟩ t, h, nd => by
    unfold putAllR storedAllH
    simp only [List.foldl_cons]
    rw [← e1, ← e2]
    exact rel_putAll t (rel_put e3 h nd) (nodup_stored nd)
theorem prs_cons : ∀ {x : Val} {xs : List Val} {ps : List (NestedKey × Val)}, prsOf (x :: xs) = some ps → ∃ kx v k ps', x = .tup [kx, v] ∧ toK kx = some k ∧ prsOf xs = some ps' ∧ ps = (k, v) :: ps'
  | .tup [kx, v], xs, ps, e => by
    simp only [prsOf, Option.bind_eq_some_iff, Option.map_eq_some_iff] at e
    obtain ⟨k, e1, ps', e2, rfl⟩ := e
    exact ⟨kx, v, k, ps', rfl, e1, e2, rfl⟩
  | .tup [], _, _, e => by simp [prsOf] at e
  | .tup [_], _, _, e => by simp [prsOf] at e
  | .tup (_ :: _ :: _ :: _), _, _, e => by simp [prsOf] at e
  | .non, _, _, e => by simp [prsOf] at e
  | .bl _, _, _, e => by simp [prsOf] at e
  | .int _, _, _, e => by simp [prsOf] at e
  | .str _, _, _, e => by simp [prsOf] at e
  | .ty _, _, _, e => by simp [prsOf] at e
  | .fn _, _, _, e => by simp [prsOf] at e
  | .lst _, _, _, e => by simp [prsOf] at e
  | .scr _, _, _, e => by simp [prsOf] at e
  | .ref _, _, _, e => by simp [prsOf] at e
  | .ptp _, _, _, e => by simp [prsOf] at e
/-- the pairs as they stand -/
theorem prs_at {X : Cx} {g : Gx} {r : List Addr} {H : Hp} {pins : List (Addr × Obj)} {st : L2.St} {s : Shared} (hK : g.K = X.K) (I : Inv X pins st H s) : ∀ {xs : List Val} {vs : List V} {us : List Value} {ps : List (NestedKey × Val)}, RVs g r H xs vs → Vals vs us → prsOf xs = some ps → (ps.all fun p => keyOk p.1) = true →
    ∃ (qs : List NRow) (zs : List (NestedKey × Addr × Value)) (Ts : List Addr), Paired (DRow g r H) ps qs ∧ Paired RowRel qs zs ∧ us = Ts.map Value.ref ∧ Ts.length = zs.length ∧ ∀ (j : Nat) (T : Addr) (z : NestedKey × Addr × Value), Ts[j]? = some T → zs[j]? = some z → IsTup s.heap T #[.ref z.2.1, z.2.2]
  | _, _, _, _, .nil, rv, e, _ => by cases e; cases rv; exact ⟨[], [], [], .nil, .nil, rfl, rfl, fun j T z h => by simp at h⟩
  | y :: _, _, _, _, .cons hy t, .cons r1 rt, e, ok => by
    obtain ⟨kx, x, k, ps', rfl, e1, e2, rfl⟩ := prs_cons e
    simp only [List.all_cons, Bool.and_eq_true] at ok
    obtain ⟨qs, zs, Ts, i1, i2, rfl, i4, i5⟩ := prs_at hK I t rt e2 ok.2
    cases hy with
    | @tup a _ ws h1 h2 h3 =>
      cases r1
      rw [hK] at h1
      obtain ⟨its, rv, it, _⟩ := I.tuple h1
      cases h3 with
      | @cons _ hk _ _ rk h3 =>
        cases h3 with
        | @cons _ hx _ _ rx h3 =>
          cases h3
          cases rv with
          | @cons _ uk _ _ ru rv =>
            cases rv with
            | @cons _ ux _ _ rux rv =>
              cases rv
              have tup : ∃ b, hk = .ref b := by
                have ok1 := ok.1
                unfold keyOk at ok1
                rw [Bool.and_eq_true] at ok1
                cases rk with
                | tup => exact ⟨_, rfl⟩
                | non => cases e1; exact absurd ok1.2 (by simp)
                | int => cases e1; exact absurd ok1.2 (by simp)
                | str => cases e1; exact absurd ok1.2 (by simp)
                | bl => cases e1
                | ty => cases e1
                | fn => cases e1
                | lst => cases e1
                | scr => cases e1
                | ref => cases e1
                | ptp => cases e1
              obtain ⟨b, rfl⟩ := tup
              cases ru
              refine ⟨(k, b, hx) :: qs, (k, b, ux) :: zs, a :: Ts, .cons ⟨rfl, by show RV g r H (ofK k) (.ref b); rw [ofK_toK e1]; exact rk, rx⟩ i1, .cons ⟨rfl, rfl, rux⟩ i2, rfl, by simp [i4], fun j T z hT hz => ?_⟩
              cases j with
              | zero => simp at hT hz; subst hT hz; exact it
              | succ j => exact i5 j T z (by simpa using hT) (by simpa using hz)
def fUpd (S : Sto) (a : Val) (xs : List Val) : Option (Val × Sto) := match a, xs with
  | .ref n, [x] => match S[n]? with
    | some (.dN kvs) => (lstOf S x).bind fun ys => (prsOf ys).bind fun ps => if keysOk kvs && keysOk ps && decide (kvs.length + ps.length ≤ sizeLine) then some (.non, S.set n (.dN (putAll kvs ps))) else none
    | _ => none
  | _, _ => none
def isDn (S : Sto) : Val → Bool
  | .ref n => match S[n]? with
    | some (.dN _) => true
    | _ => false
  | _ => false
section
variable {X : Cx} {g : Gx} {pos : Pos}
def DnT (w : World) (x : V) (H : Hp) : Prop := ∃ a rows, x = .ref a ∧ H a = some (DnHO w a rows)
theorem dnT_ok {w : World} (pins : List (Addr × Obj)) (s : Shared) (st : L2.St) (H : Hp) (x : V) (v : Value) (I : Inv X pins st H s) (r : RelV x v) (h : DnT w x H) : s.TypeIs v "dict" ∧ ∀ a, v = .ref a → ∃ ob, s.heap.get? a = some ob ∧ ob.dict = none := by
  obtain ⟨a, rows, rfl, ha⟩ := h
  cases r
  obtain ⟨_, _, _, _, o, _, _, h1, h2, _⟩ := (show DnAt w a rows s.heap from (I.hok a _ ha).1)
  refine ⟨⟨o, h1, h2.1⟩, fun b e => ?_⟩
  cases e
  exact ⟨o, h1, h2.2.1⟩
theorem m_upd (hK : g.K = X.K) (hw : g.w = X.w) (hc : X.calm = true) (hu : X.A.units + 12 < cLine) : MtR X "dict.update" (rMG g fUpd) := by
  intro pins s st H x vs v us Q I rx rvs h
  obtain ⟨z, r, S, a, xs, w, S', sr, ra, rxs, e, q⟩ := h
  unfold fUpd at e
  split at e
  · rename_i n y
    split at e
    · rename_i kvs hy
      simp only [Option.bind_eq_some_iff] at e
      obtain ⟨ys, e1, ps, e2, e3⟩ := e
      split at e3
      · rename_i ok
        cases e3
        simp only [Bool.and_eq_true,
              decide_eq_true_eq] at ok
        obtain ⟨⟨ok1, ok2⟩, hz⟩ := ok
        cases ra with
        | @ref _ d ha =>
          obtain ⟨u, hu', ro⟩ := sr.at_ _ _ _ hy ha
          cases ro with
          | @dN _ rows h1 hl h0 h2 =>
            have pr := rows_pair h1 h0 h2
            have d0 : DnAt (g.at z).w d rows s.heap := (I.hok d _ hu').1
            rw [show (g.at z).w = X.w from hw] at d0
            obtain ⟨_, hd, xs', rel, dd⟩ := dn_dict (P := X.prog) d0 (keys_is (g := g.at z) hK I pr ok1)
            cases rxs with
            | cons b t =>
              cases t
              obtain ⟨p, ws, rfl, hp, hzl, hs⟩ := lstOf_at sr b e1
              obtain ⟨u1, rfl, ru1⟩ := vals1 rvs
              cases ru1
              cases rx
              obtain ⟨zl, its, nn, rv, ho⟩ := (show ObjOk X.prog X.w H s.heap p (.lst ws) from I.hok p _ hp)
              obtain ⟨qs, zs, Ts, p1, p2, rfl, p4, p5⟩ := prs_at (g := g.at z) hK I hs rv e2 ok2
              have lz : zs.length = ps.length := by rw [← Paired.length p2, ← Paired.length p1]
              let prs : List (Value × Value) := zs.map fun z => (Value.ref z.2.1, z.2.2)
              have lp : prs.length = zs.length := List.length_map _
              have dob : ∃ o es ep, s.heap.get? d = some o ∧ o.data = .dict es ep := by
                obtain ⟨o, es, ep, o1, _, o3, _⟩ := dd
                exact ⟨o, es, ep, o1, o3⟩
              obtain ⟨od, des, dep, od1, od2⟩ := dob
              have hT : ∀ j, j < prs.length → ∃ T z, Ts[j]? = some T ∧ zs[j]? = some z := fun j hj => by
                have h1 : j < zs.length := by omega
                have h2 : j < Ts.length := by omega
                exact ⟨_, _, List.getElem?_eq_getElem h2, List.getElem?_eq_getElem h1⟩
              have items : PairItems s.heap (Ts.map Value.ref).toArray (fun j => Ts.getD j 0) prs := by
                refine ⟨by simp [lp, p4], fun j k v hj => ?_⟩
                have hjl := (List.getElem?_eq_some_iff.mp hj).1
                obtain ⟨T, zz, t1, t2⟩ := hT j hjl
                have hj' : (zs.map fun z : NestedKey × Addr × Value => (Value.ref z.2.1, z.2.2))[j]? = some (k, v) := hj
                rw [List.getElem?_map, t2] at hj'
                cases hj'
                have eT : Ts.getD j 0 = T := by rw [List.getD_eq_getElem?_getD, t1]; rfl
                refine ⟨by simp [t1, eT], ?_⟩
                show PairAt s.heap (Ts.getD j 0) _ _
                rw [eT]
                exact .inl (p5 j T zz t1 t2)
              have P := PairArg.list (prog := X.prog) (w := X.w) p (Ts.map Value.ref).toArray (fun j => Ts.getD j 0) prs
              have keyZ : ∀ x ∈ zs, (nestedKind X.prog X.w).is s.heap x.1 x.2.1 := fun x hx => by
                have all : ∀ {qs : List NRow} {zs : List (NestedKey × Addr × Value)}, Paired RowRel qs zs → (∀ p ∈ qs, (nestedKind X.prog X.w).is s.heap p.1 p.2.1) → ∀ x ∈ zs, (nestedKind X.prog X.w).is s.heap x.1 x.2.1 := by
                  intro qs zs q
                  induction q with
                  | nil => intro _ x hx; cases hx
                  | @cons a b as bs hq t ih =>
                    intro k x hx
                    rcases List.mem_cons.mp hx
                          with rfl | hx
                    · rw [← hq.1, ← hq.2.1]
                      exact k a List.mem_cons_self
                    · exact ih (fun p hp => k p (List.mem_cons_of_mem _ hp)) x hx
                exact all p2 (keys_is (g := g.at z) hK I p1 ok2) x hx
              have keyX : ∀ x ∈ xs', (nestedKind X.prog X.w).is s.heap x.1 x.2.1 := by
                obtain ⟨_, _, _, _, _, _, _, h, _⟩ := dd
                exact h
              have ndx : (xs'.map (·.1)).Nodup := by
                obtain ⟨_, _, _, _, _, _, _, _, h⟩ := dd
                exact h
              have pd : p ≠ d := fun e => by
                rw [e, hu'] at hp
                exact nomatch hp
              refine call_update_pairsH (acc := xs') (ps := zs) P (I.ok.hd hc) (by show X.A.units + 1 + 8 < cLine; omega) ⟨⟨_, _, ho, rfl, rfl, rfl⟩, items⟩ (fun hm => ?_) ⟨lp.symm, fun i key v hr => ?_⟩ (fun h' k x hx => ?_) dd (by have := Paired.length rel; have := Paired.length pr; omega) fun h' tk dd' k => ?_
              · rcases List.mem_cons.mp hm
                      with e | hm
                · exact pd e.symm
                · obtain ⟨j, hj, e⟩ := List.mem_map.mp hm
                  obtain ⟨T, zz, t1, t2⟩ := hT j (List.mem_range.mp hj)
                  obtain ⟨ot, o1, o2, n, o3⟩ := p5 j T zz t1 t2
                  have eT : Ts.getD j 0 = T := by rw [List.getD_eq_getElem?_getD, t1]; rfl
                  have e : Ts.getD j 0 = d := e
                  rw [eT] at e
                  rw [e, od1] at o1
                  cases o1
                  rw [od2] at o3
                  exact nomatch o3
              · have hr' : (zs.map fun z : NestedKey × Addr × Value => (Value.ref z.2.1, z.2.2))[i]? = some (key, v) := hr
                rw [List.getElem?_map, Option.map_eq_some_iff] at hr'
                obtain ⟨zz, h1, h2⟩ := hr'
                cases h2
                exact ⟨zz.1, zz.2.1, h1, rfl⟩
              · have base : (nestedKind X.prog X.w).is s.heap x.1 x.2.1 := by
                  rcases List.mem_append.mp hx
                        with hx | hx
                  · exact keyX x hx
                  · exact keyZ x hx
                exact Mem1.kept (P := X.prog) (w := X.w) base fun b o vs n hb hdat => k b o (fun e => by
                  rw [e, od1] at hb
                  cases hb
                  rw [od2] at hdat
                  exact nomatch hdat) (by simp) hb
              · have c : Chg (DnHO (g.at z).w d rows) := ⟨fun _ z => (nomatch z), fun _ _ z => (nomatch z), fun _ _ z => (nomatch z)⟩
                have ham := List.mem_of_getElem? ha
                have pr' := pair_putAll p1 pr
                have rel' := rel_putAll p2 rel ndx
                have hl' : (putAll kvs ps).length ≤ sizeLine := by have := putAll_le ps kvs; omega
                have at' : DnAt X.w d (putAllR rows qs) h' := dn_of (by rw [← Paired.length pr']; exact hl') hd rel' dd'
                have up : Paired (DRow (g.at z) r (upd H d (DnHO (g.at z).w d (putAllR rows qs)))) (putAll kvs ps) (putAllR rows qs) := Paired.mono (fun p q h => ⟨h.1, h.2.1.updr ham hu' c, h.2.2.updr ham hu' c⟩) pr'
                obtain ⟨sr', st'⟩ := sr.put (so := .dN (putAll kvs ps)) (o := DnHO (g.at z).w d (putAllR rows qs)) ha hu' c (fun _ _ z => nomatch z) (ro_dn up hl')
                have I' : Inv X pins st (upd H d (DnHO (g.at z).w d (putAllR rows qs))) { s with heap := h', toks := tk } := by
                  refine I.write (x := d) (e := d) (t' := tk) (by rw [hu']; exact True.intro) (.inl rfl) (fun b o hb e => k b o hb (by simp) e) ?_ (by rw [show (g.at z).w = X.w from hw]; exact dn_ok at')
                  obtain ⟨_, _, _, _, o', _, _, e', _⟩ := at'
                  exact ⟨o', e'⟩
                exact ⟨.non, _, I', rfl, q r _ _ st' sr' .non⟩
      · cases e3
    · cases e
  · cases e
variable {o e : Expr} {mo : ME} {ms : MEs} {apos cpos : Pos}
theorem d_upd (hK : g.K = X.K) (hw : g.w = X.w) (hc : X.calm = true) (hu : X.A.units + 12 < cLine) (ho : PE X o (tD g mo)) (ha : PA X [e] (tDs g ms)) (hbase : attributeBase o "update" X.env (eval o X.env) = eval o X.env := by rfl)
    (hfew : ((backTo cpos (starEach [e] X.env)).all (fun x => !x.1) && (backToKw cpos (keywordEach [] X.env)).all (fun x => x.1.isSome) && decide (([e] : List Expr).length + ([] : List Keyword).length + (if ([] : List Keyword).isEmpty then 0 else 1) < 30)) = true := by rfl)
    (hline : (apos.endLine == cpos.line) = true := by rfl) (hs : starEach [e] X.env = (false, eval e X.env) :: starEach [] X.env := by rfl) (hpl : (backTo cpos (starEach [] X.env)).any (·.1) = false := by rfl) : PE X (.Call (.Attribute o "update" apos) [e] [] cpos) (tD g (eMeth isDn fUpd mo ms)) :=
  PE.weak (pe_bmS (dnT_ok (w := g.w)) F.plainAttrs_dict F.slot_dict_update F.type_dict_update (m_upd hK hw hc hu) ho ha hbase hfew hline hs hpl) fun _ _ _ h => meth_readS (fun z r H S a x sr ra hc => by
    unfold isDn at hc
    split at hc
    · split at hc
      · rename_i hx
        cases ra with
        | ref ha =>
          obtain ⟨u, hu, ro⟩ := sr.at_ _ _ _ hx ha
          cases ro with
          | dN => exact ⟨_, _, rfl, hu⟩
      · cases hc
    · cases hc) h
end
end Mp
namespace Mz
open PySem PySem.Spec PyProof.Rows RZ
open PySem.W (kdx_alive)

/-! ### zip over two tuples while its handed out pair lives; tuple(zip(..)) -/
abbrev ZipK (h : Heap) (z TI TO a : Addr) (f : Bool) : Prop :=
  h.get? z = some { cls := .type "zip", dict := none, data := .fields #[rawInt a, .bool f, .bool false, .ref TI, .ref TO], slots := #[] }
section
variable {prog : Program}
      {w : World} {A : Around} {E : Value → Shared → Prop} {s : Shared}
theorem zk_free {z TI TO a : Addr} {f : Bool} {oa : Obj} {Q : Bool → Shared → Prop} (hz : ZipK s.heap z TI TO a f) (ha : s.heap.get? a = some oa)
    (h : ∀ h₁, ZipK h₁ z TI TO a true → Heap.SameBut z s.heap h₁ → Q false { s with heap := h₁ }) : wpAny (model prog w) A (Builtin.SmallTypes.ownedTupleIsFree (.ref z)) Q E s := by
  unfold
        Builtin.SmallTypes.ownedTupleIsFree
  refine wpAny_bind (wpAny_field hz rfl (x := rawInt a) rfl ?_)
  show wpAny _ _ (loadIfAlive
        ((a : Int).toNat) >>= _) _ _ _
  rw [Int.toNat_natCast]
  refine wpAny_bind (kdx_alive ha ?_)
  simp only [Option.isNone_some,
        Bool.false_eq_true, if_false]
  refine wpAny_bind (wpAny_field hz rfl
        (x := .bool f) rfl ?_)
  cases f with
  | true =>
    rw [if_neg (show ¬ ((Value.bool true != Value.bool true)
          = true) from Bool.false_ne_true)]
    exact wpAny_pure (h _ hz (Heap.SameBut.refl _ _))
  | false =>
    rw [if_pos (show (Value.bool false !=
          Value.bool true) = true from rfl)]
    exact wpAny_bind (wpAny_setField_rec hz (by simp) fun h₃ he₃ hs₃ => wpAny_pure (h h₃ he₃ hs₃))
theorem zk_next_item {z TI TO i1 i2 l1 l2 a : Addr} {f : Bool} {oa : Obj} {k1 k2 : Nat} {xs ys : Array Value} {x y : Value} {Q : Value → Shared → Prop} (D : ZipApart z TI TO i1 i2 l1 l2)
    (hz : ZipK s.heap z TI TO a f) (ha : s.heap.get? a = some oa) (haz : a ≠ z) (hTI : IsPair s.heap TI (.ref i1) (.ref i2))
    (h1 : s.heap.IsTupleIter i1 l1 k1) (h2 : s.heap.IsTupleIter i2 l2 k2) (hl1 : s.heap.IsTuple l1 xs)
          (hl2 : s.heap.IsTuple l2 ys) (hx : xs[k1]? = some x) (hy : ys[k2]? = some y)
    (hQ : ∀ h', ZipK h' z TI TO a true → h'.IsTupleIter i1 l1 (k1 + 1) → h'.IsTupleIter i2 l2 (k2 + 1) → IsPair h' s.heap.objs.size x y → h'.objs.size = s.heap.objs.size + 1 →
      (∀ c o, c ≠ z → c ≠ i1 → c ≠ i2 → s.heap.get? c = some o → h'.get? c
            = some o) → Q (.ref s.heap.objs.size) { s with heap := h' }) :
    wpAny (model prog w) A (Builtin.«zip.__next__» ⟨[.ref z], []⟩)
          (fun fin s' => ∃ v, fin = .done (.ret v) ∧ Q v s') E s := by
  show wpAny _ _ (field
        (.ref z) 2 >>= _) _ _ _
  refine wpAny_bind (wpAny_field hz rfl
        (x := .bool false) rfl ?_)
  show wpAny _ _ (field
        (.ref z) 3 >>= _) _ _ _
  refine wpAny_bind (wpAny_field hz rfl
        (x := .ref TI) rfl ?_)
  refine wpAny_bind
        (wpAny_seqItems hTI rfl ?_)
  show wpAny _ _ (Builtin.SmallTypes.ownedTupleIsFree
        (.ref z) >>= _) _ _ _
  refine wpAny_bind (zk_free hz ha fun h₁ hz₁ hs₁ => ?_)
  simp only [Bool.false_eq_true, if_false, List.forIn_toArray, List.forIn_cons, List.forIn_nil]
  refine wpAny_bind (wpAny_bind (wpAny_bind (wpAny_holding ?_)))
  show wpAny _ _ (Builtin.SmallTypes.nextOf
        (.ref i1) >>= _) _ _ _
  refine wpAny_bind (nextOf_tuple_item (h1.extBut hs₁.extBut D.i1z) (hl1.extBut hs₁.extBut D.l1z) hx fun h₂ h1₂ hs₂ => wpAny_pure (wpAny_pure ?_))
  refine wpAny_bind (wpAny_bind
        (wpAny_holding ?_))
  show wpAny _ _ (Builtin.SmallTypes.nextOf
        (.ref i2) >>= _) _ _ _
  refine wpAny_bind (nextOf_tuple_item ((h2.extBut hs₁.extBut D.i2z).extBut hs₂.extBut D.i12.symm) ((hl2.extBut hs₁.extBut D.l2z).extBut hs₂.extBut D.l2i1) hy fun h₃ h2₃ hs₃ => wpAny_pure (wpAny_pure (wpAny_pure ?_)))
  show wpAny _ _ (newTuple
        [x, y] >>= _) _ _ _
  refine wpAny_bind
        (wpAny_newTuple ?_)
  have hsz : h₃.objs.size
        = s.heap.objs.size := by rw [hs₃.1, hs₂.1, hs₁.1]
  have up : ∀ c o, c ≠ z → c ≠ i1 → c ≠ i2 → s.heap.get? c = some o → h₃.get? c = some o := fun c o c1 c2 c3 e => hs₃.extBut _ _ c3 (hs₂.extBut _ _ c2 (hs₁.extBut _ _ c1 e))
  refine wpAny_pure
        ⟨_, rfl, ?_⟩
  show Q (.ref h₃.objs.size) _
  rw [hsz]
  refine hQ _ (Heap.get?_push_of_some _ (hs₃.extBut _ _ D.i2z.symm (hs₂.extBut _ _ D.i1z.symm hz₁))) ((h1₂.extBut hs₃.extBut D.i12).at fun o e => Heap.get?_push_of_some _ e) (h2₃.at fun o e => Heap.get?_push_of_some _ e) ?_ (by rw [Heap.size_push, hsz]) fun c o c1 c2 c3 e => Heap.get?_push_of_some _ (up c o c1 c2 c3 e)
  rw [← hsz]
  exact Heap.get?_push_size
        _ rfl
theorem zk_next_end {z TI TO i1 i2 l1 l2 a : Addr} {f : Bool} {oa : Obj} {k1 k2 : Nat} {xs ys : Array Value} {Q : Fin → Shared → Prop} (hh : A.handled = none) (D : ZipApart z TI TO i1 i2 l1 l2)
    (hz : ZipK s.heap z TI TO a f) (ha : s.heap.get? a = some oa) (hTI : IsPair s.heap TI (.ref i1) (.ref i2))
    (h1 : s.heap.IsTupleIter i1 l1 k1) (h2 : s.heap.IsTupleIter i2 l2 k2) (hl1 : s.heap.IsTuple l1 xs)
          (hl2 : s.heap.IsTuple l2 ys) (hend : xs[k1]? = none ∨ ys[k2]? = none)
    (hE : ∀ h' e, (∀ c o, c ≠ z → c ≠ TO → c ≠ i1 → c ≠ i2 → s.heap.get? c = some o → h'.get? c = some o)
          → (∃ o, h'.get? e = some o ∧ o.cls = .type "StopIteration") → E (.ref e) { s with heap := h' }) :
    wpAny (model prog w) A (Builtin.«zip.__next__»
          ⟨[.ref z], []⟩) Q E s := by
  show wpAny _ _ (field
        (.ref z) 2 >>= _) _ _ _
  refine wpAny_bind (wpAny_field hz rfl
        (x := .bool false) rfl ?_)
  show wpAny _ _ (field
        (.ref z) 3 >>= _) _ _ _
  refine wpAny_bind (wpAny_field hz rfl
        (x := .ref TI) rfl ?_)
  refine wpAny_bind
        (wpAny_seqItems hTI rfl ?_)
  show wpAny _ _ (Builtin.SmallTypes.ownedTupleIsFree
        (.ref z) >>= _) _ _ _
  refine wpAny_bind (zk_free hz ha fun h₁ hz₁ hs₁ => ?_)
  simp only [Bool.false_eq_true, if_false, List.forIn_toArray, List.forIn_cons, List.forIn_nil]
  refine wpAny_bind (wpAny_bind (wpAny_bind (wpAny_holding ?_)))
  show wpAny _ _ (Builtin.SmallTypes.nextOf
        (.ref i1) >>= _) _ _ _
  cases hx : xs[k1]? with
  | none =>
    exact wpAny_bind (nextOf_tuple_end hh (h1.extBut hs₁.extBut D.i1z) (hl1.extBut hs₁.extBut D.l1z) hx fun h₂ e hs₂ he => hE h₂ e (fun c o c1 _ c3 _ x => hs₂ _ _ c3 (hs₁.extBut _ _ c1 x)) he)
  | some x =>
    have hy : ys[k2]?
          = none := by rcases hend with h | h; rw [hx] at h; cases h; exact h
    refine wpAny_bind (nextOf_tuple_item (h1.extBut hs₁.extBut D.i1z) (hl1.extBut hs₁.extBut D.l1z) hx fun h₂ h1₂ hs₂ => wpAny_pure (wpAny_pure ?_))
    refine wpAny_bind (wpAny_bind
          (wpAny_holding ?_))
    show wpAny _ _ (Builtin.SmallTypes.nextOf
          (.ref i2) >>= _) _ _ _
    exact wpAny_bind (nextOf_tuple_end hh ((h2.extBut hs₁.extBut D.i2z).extBut hs₂.extBut D.i12.symm) ((hl2.extBut hs₁.extBut D.l2z).extBut hs₂.extBut D.l2i1) hy fun h₃ e hs₃ he => hE h₃ e (fun c o c1 _ c3 c4 x => hs₃ _ _ c4 (hs₂.extBut _ _ c3 (hs₁.extBut _ _ c1 x))) he)

/-- where zip stands, at whatever place: its own pair free to use, or one handed out that lives -/
def ZSt (h : Heap) (z TI TO i1 i2 l1 l2 S : Addr) (i : Nat) (xs ys : Array Value) : Prop :=
  IsPair h TI (.ref i1) (.ref i2) ∧ h.IsTupleIter i1 l1 i ∧ h.IsTupleIter i2 l2 i ∧ h.IsTuple l1 xs ∧ h.IsTuple l2 ys ∧
    ((IsZip h z TI TO .none ∧ ∃ a b, IsPair h TO a b) ∨ ∃ a f oa, ZipK h z TI TO a f ∧ h.get? a = some oa ∧ a ≠ z ∧ a ≠ i1 ∧ a ≠ i2 ∧ a ≠ S)
theorem ZSt.type {z TI TO i1 i2 l1 l2 S : Addr} {i : Nat} {xs ys : Array Value} (x : ZSt s.heap z TI TO i1 i2 l1 l2 S i xs ys) : s.TypeIs (.ref z) "zip" := by
  obtain ⟨_, _, _, _, _, ⟨h, _⟩ | ⟨_, _, _, h, _⟩⟩ := x
  · exact ⟨_, h, rfl⟩
  · exact ⟨_, h, rfl⟩
/-- the addresses of a zip, all apart from the list that collects -/
structure ZOff (z TI TO i1 i2 l1 l2 S : Addr) : Prop where
  a : z ≠ S
  b : TI ≠ S
  c : TO ≠ S
  d : i1 ≠ S
  e : i2 ≠ S
  f : l1 ≠ S
  g : l2 ≠ S
theorem ZSt.keep {h h' : Heap} {z TI TO i1 i2 l1 l2 S : Addr} {i : Nat} {xs ys : Array Value} (O : ZOff z TI TO i1 i2 l1 l2 S) (x : ZSt h z TI TO i1 i2 l1 l2 S i xs ys) (hk : ∀ b o, b ≠ S → h.get? b = some o → h'.get? b = some o) : ZSt h' z TI TO i1 i2 l1 l2 S i xs ys := by
  obtain ⟨x1, x2, x3, x4, x5, x6⟩ := x
  refine ⟨hk _ _ O.b x1, x2.at fun o e => hk _ _ O.d e, x3.at fun o e => hk _ _ O.e e, x4.at fun o e => hk _ _ O.f e, x5.at fun o e => hk _ _ O.g e, ?_⟩
  rcases x6 with ⟨h1, a, b, h2⟩ | ⟨a, f, oa, h1, h2, h3, h4, h5, h6⟩
  · exact .inl ⟨hk _ _ O.a h1, a, b, hk _ _ O.c h2⟩
  · exact .inr ⟨a, f, oa, hk _ _ O.a h1, hk _ _ h6 h2, h3, h4, h5, h6⟩
theorem zst_item {z TI TO i1 i2 l1 l2 S : Addr} {i : Nat} {xs ys : Array Value} {x y : Value} {Q : Option Value → Shared → Prop} (D : ZipApart z TI TO i1 i2 l1 l2) (hS : S < s.heap.objs.size) (st : ZSt s.heap z TI TO i1 i2 l1 l2 S i xs ys) (hx : xs[i]? = some x) (hy : ys[i]? = some y)
    (hQ : ∀ h', ZSt h' z TI TO i1 i2 l1 l2 S (i + 1) xs ys → IsPair h' s.heap.objs.size x y → h'.objs.size = s.heap.objs.size + 1 →
      (∀ c o, c ≠ z → c ≠ TO → c ≠ i1 → c ≠ i2 → s.heap.get? c = some o → h'.get? c
            = some o) → Q (some (.ref s.heap.objs.size)) { s with heap := h' }) :
    wpAny (model prog w) A
          (pyNext (.ref z)) Q E s := by
  have hT := st.type
  obtain ⟨x1, x2, x3, x4, x5, x6⟩ := st
  have hi1 : i1 < s.heap.objs.size := by obtain ⟨o, e, _⟩ := x2; exact Heap.lt_size e
  have hi2 : i2 < s.heap.objs.size := by obtain ⟨o, e, _⟩ := x3; exact Heap.lt_size e
  rcases x6 with ⟨h1, a, b, h2⟩ | ⟨a, f, oa, h1, h2, h3, h4, h5, h6⟩
  · refine pyNext_zipT_item D h1 x1 h2 x2 x3 x4 x5 hx hy fun h' a1 a2 a3 a4 a5 a6 a7 => hQ h' ⟨a7 _ _ D.TIz D.TITO D.TIi1 D.TIi2 x1, a3, a4, x4.at fun o e => a7 _ _ D.l1z D.l1TO D.l1i1 D.l1i2 e, x5.at fun o e => a7 _ _ D.l2z D.l2TO D.l2i1 D.l2i2 e, .inr ⟨_, false, _, a1, a5, Nat.ne_of_gt (Heap.lt_size h1), Nat.ne_of_gt hi1, Nat.ne_of_gt hi2, Nat.ne_of_gt hS⟩⟩ a5 a6 a7
  · unfold pyNext
    refine wpAny_bind (wpAny_attempt (wpAny_callSpecial?_slot
          (name := Str.ofString "__next__") hT F.slot_zip_next
      (wpAny_call_entry F.slot_zip_next
            hT F.entry_zip_next
        (zk_next_item D h1 h2 h3 x1 x2 x3 x4 x5 hx hy fun h' a1 a3 a4 a5 a6 a7 => wpAny_pure (hQ h' ⟨a7 _ _ D.TIz D.TIi1 D.TIi2 x1, a3, a4, x4.at fun o e => a7 _ _ D.l1z D.l1i1 D.l1i2 e, x5.at fun o e => a7 _ _ D.l2z D.l2i1 D.l2i2 e, .inr ⟨a, true, oa, a1, a7 _ _ h3 h4 h5 h2, h3, h4, h5, h6⟩⟩ a5 a6 fun c o c1 _ c3 c4 e => a7 c o c1 c3 c4 e)) (F.args_zip_next_1 _))))
theorem zst_done {z TI TO i1 i2 l1 l2 S : Addr} {i : Nat} {xs ys : Array Value} {Q : Option Value → Shared → Prop} (hh : A.handled = none) (D : ZipApart z TI TO i1 i2 l1 l2) (st : ZSt s.heap z TI TO i1 i2 l1 l2 S i xs ys) (hend : xs[i]? = none ∨ ys[i]? = none)
    (hQ : ∀ h', (∀ c o, c ≠ z → c ≠ TO → c ≠ i1 → c ≠ i2 → s.heap.get? c = some o → h'.get? c
          = some o) → Q none { s with heap := h' }) : wpAny (model prog w) A (pyNext (.ref z)) Q E s := by
  have hT := st.type
  obtain ⟨x1, x2, x3, x4, x5, x6⟩ := st
  rcases x6 with ⟨h1, a, b, h2⟩ | ⟨a, f, oa, h1, h2, h3, h4, h5, h6⟩
  · exact pyNext_zipT_end hh D h1 x1 h2 x2 x3 x4 x5 hend hQ
  · unfold pyNext
    refine wpAny_bind (wpAny_attempt (wpAny_callSpecial?_slot
          (name := Str.ofString "__next__") hT F.slot_zip_next
      (wpAny_call_entry F.slot_zip_next hT F.entry_zip_next (zk_next_end hh D h1 h2 x1 x2 x3 x4 x5 hend fun h' e hk he => ?_) (F.args_zip_next_1 _))))
    obtain ⟨o, ho, hc⟩ := he
    refine wpAny_bind (wpAny_isInstance (T := "StopIteration")
          (b := true) ⟨o, ho, hc⟩ isSubtype_stop ?_)
    exact wpAny_pure (hQ _ hk)
end
end Mz
namespace Mz
open PySem PySem.Spec PyProof.Rows RZ

/-! ### the list that collects a zip, and tuple(zip(..)) -/
/-- the pairs collected so far -/
structure ZPs (xs ys : Array Value) (lo : Addr) (h : Heap) (as : List Addr) : Prop where
  rise : as.Pairwise (· < ·)
  above : ∀ a ∈ as, lo < a
  pairs : ∀ (j : Nat) (a : Addr), as[j]? = some a → ∃ x y, xs[j]? = some x ∧ ys[j]? = some y ∧ IsPair h a x y
theorem ZPs.there {xs ys : Array Value} {lo : Addr} {h : Heap} {as : List Addr} (g : ZPs xs ys lo h as) {a : Addr} (ha : a ∈ as) : a < h.objs.size := by
  obtain ⟨j, hj⟩ :=
        List.mem_iff_getElem?.mp ha
  obtain ⟨_, _, _, _, e⟩ := g.pairs j a hj
  exact Heap.lt_size e
section
variable {prog : Program} {w : World} {A : Around} {E : Value → Shared → Prop} {s : Shared} {R : Result → Shared → Prop} {xs ys : Array Value}
theorem zip_loop {S z TI TO i1 i2 l1 l2 : Addr} (hh : A.handled = none) (D : ZipApart z TI TO i1 i2 l1 l2) (O : ZOff z TI TO i1 i2 l1 l2 S) (hn : min xs.size ys.size ≤ sizeLine) (res : Value) {h₁ : Heap} {lo : Addr}
    (hlo : z ≤ lo ∧ TO ≤ lo ∧ i1 ≤ lo ∧ i2 ≤ lo ∧ S ≤ lo)
    (hR : ∀ h' tk acc c as, (∀ b o, b ≠ S → b ≠ z → b ≠ TO → b ≠ i1 → b ≠ i2 → h₁.get? b = some o → h'.get? b = some o) → h'.get? S = some { cls := .type "list", dict := none, data := .seq acc c, slots := #[] } → as.length = min xs.size ys.size → ZPs xs ys lo h' as →
      acc.toList = as.map Value.ref → R (.ok
            (.ret res)) { s with heap := h', toks := tk }) :
    ∀ (k i : Nat) (h : Heap) (tk c : Nat) (acc : Array Value) (as : List Addr), min xs.size ys.size - i = k → i ≤ min xs.size ys.size → ZSt h z TI TO i1 i2 l1 l2 S i xs ys → (∀ b o, b ≠ S → b ≠ z → b ≠ TO → b ≠ i1 → b ≠ i2 → h₁.get? b = some o → h.get? b = some o) →
      h.get? S = some { cls := .type "list", dict := none, data := .seq acc c, slots := #[] } → acc.toList = as.map Value.ref → as.length = i → ZPs xs ys lo h as → lo < h.objs.size →
      codeAny (model prog w) A (.builtin "list.extend.loop" ⟨[.ref S, .ref z, res], []⟩) R { s with heap := h, toks := tk } := by
  obtain ⟨o1, o2, o3, o4, o5⟩ := hlo
  intro k
  induction k with
  | zero =>
    intro i h tk c acc as hk hi hst hkeep hS hacc hal hG hIs
    have hin : i = min xs.size ys.size := by omega
    refine codeAny_builtin
          F.entry_extend_loop ?_
    rw [Around.under_plainId
          F.plain_extend_loop _]
    show wpAny _ A.in1 (pyNext (.ref z) >>= _) _ _ _
    have hend : xs[i]? = none ∨ ys[i]? = none := by
      by_cases h : xs.size ≤ ys.size
      · exact .inl (Array.getElem?_eq_none (by omega))
      · exact .inr (Array.getElem?_eq_none (by omega))
    refine wpAny_bind (zst_done (s := { s with heap := h, toks := tk }) (A := A.in1) hh D hst hend fun h' he => ?_)
    refine wpAny_pure (hR h' tk acc c as (fun b o h0 h1 h2 h3 h4 e => he b o h1 h2 h3 h4 (hkeep b o h0 h1 h2 h3 h4 e)) (he S _ (Ne.symm O.a) (Ne.symm O.c) (Ne.symm O.d) (Ne.symm O.e) hS) (by omega) ⟨hG.rise, hG.above, fun j a hj => ?_⟩ hacc)
    obtain ⟨x, y, e1, e2, e3⟩ := hG.pairs j a hj
    have hb := hG.above a (List.mem_of_getElem? hj)
    exact ⟨x, y, e1, e2, he a _ (Nat.ne_of_gt (Nat.lt_of_le_of_lt o1 hb)) (Nat.ne_of_gt (Nat.lt_of_le_of_lt o2 hb)) (Nat.ne_of_gt (Nat.lt_of_le_of_lt o3 hb)) (Nat.ne_of_gt (Nat.lt_of_le_of_lt o4 hb)) e3⟩
  | succ k ih =>
    intro i h tk c acc as hk hi hst hkeep hS hacc hal hG hIs
    have hlt : i < min xs.size ys.size := by omega
    obtain ⟨x, hx⟩ : ∃ x, xs[i]? = some x := ⟨xs[i]'(by omega), Array.getElem?_eq_getElem (by omega)⟩
    obtain ⟨y, hy⟩ : ∃ y, ys[i]? = some y := ⟨ys[i]'(by omega), Array.getElem?_eq_getElem (by omega)⟩
    have hsz : acc.size
          = i := by rw [← Array.length_toList, hacc, List.length_map, hal]
    refine codeAny_builtin
          F.entry_extend_loop ?_
    rw [Around.under_plainId
          F.plain_extend_loop _]
    show wpAny _ A.in1 (pyNext (.ref z) >>= _) _ _ _
    refine wpAny_bind (zst_item (s := { s with heap := h, toks := tk }) (S := S) D (Heap.lt_size hS) hst hx hy fun h' hst' ht hz hkp => ?_)
    dsimp only at ht hz hkp ⊢
    have hS' := hkp S _ (Ne.symm O.a) (Ne.symm O.c) (Ne.symm O.d) (Ne.symm O.e) hS
    have up : ∀ b o, b ≠ S → h'.get? b = some o → (h'.update S (Obj.mapSeq (·.push (Value.ref
          h.objs.size)))).get? b = some o := fun b o hb e => (Heap.get?_update_other _ _ (Ne.symm hb)).trans e
    have hSl : S < h.objs.size
          := Heap.lt_size hS
    show wpAny _ A.in1 (updateSeq S (·.push
          (Value.ref h.objs.size)) >>= _) _ _ _
    refine wpAny_bind ?_
    refine wpAny_updateSeq hS' rfl (wpAny_pure ⟨plainId_quiet F.plain_extend_loop _, ih (i + 1) _ tk _ (acc.push (Value.ref h.objs.size)) (as ++ [h.objs.size]) (by omega) hlt (hst'.keep O up)
      (fun b o h0 h1 h2 h3 h4 e => up b o h0 (hkp b o h1 h2 h3 h4 (hkeep b o h0 h1 h2 h3 h4 e))) (Heap.get?_update_self _ hS' rfl) (by rw [Array.toList_push, hacc, List.map_append]; rfl) (by rw [List.length_append, hal]; rfl) ⟨?_, ?_, ?_⟩ ?_⟩) (by rw [hsz]; omega) (by show (acc.push (Value.ref h.objs.size)).size ≤ sizeLine + 1; rw [Array.size_push, hsz]; omega)
    · refine List.pairwise_append.mpr ⟨hG.rise,
            List.pairwise_singleton _ _, fun a ha b hb => ?_⟩
      rw [List.mem_singleton.mp hb]
      exact hG.there ha
    · intro a ha
      rcases List.mem_append.mp ha
            with ha | ha
      · exact hG.above a ha
      · rw [List.mem_singleton.mp
              ha]; exact hIs
    · intro j b hj
      rcases Nat.lt_trichotomy j as.length
            with h1 | h1 | h1
      · rw [List.getElem?_append_left h1]
              at hj
        obtain ⟨x', y', e1, e2, e3⟩ := hG.pairs j b hj
        have hb := hG.above b
              (List.mem_of_getElem? hj)
        exact ⟨x', y', e1, e2, up b _ (Nat.ne_of_gt (Nat.lt_of_le_of_lt o5 hb)) (hkp b _ (Nat.ne_of_gt (Nat.lt_of_le_of_lt o1 hb)) (Nat.ne_of_gt (Nat.lt_of_le_of_lt o2 hb)) (Nat.ne_of_gt (Nat.lt_of_le_of_lt o3 hb)) (Nat.ne_of_gt (Nat.lt_of_le_of_lt o4 hb)) e3)⟩
      · subst h1
        have hb : h.objs.size
              = b := by simpa using hj
        subst hb
        exact ⟨x, y, by rw [hal]; exact hx, by rw [hal]; exact hy, up _ _ (Nat.ne_of_gt hSl) ht⟩
      · have hnone : (as ++ [h.objs.size])[j]? = none := List.getElem?_eq_none
              (by rw [List.length_append, List.length_singleton]; omega)
        rw [hnone] at hj; cases hj
    · have e : (h'.update S (Obj.mapSeq (·.push (Value.ref
            h.objs.size)))).get? h.objs.size = _ := up _ _ (Nat.ne_of_gt hSl) ht
      exact Nat.lt_trans hIs
            (Heap.lt_size e)

theorem nolen_zip : typeLookup (.type "zip") "__len__" = pure none := by rw [typeLookup_type, builtinLookup_eq_fast]; kernel_rfl
theorem nohint_zip : typeLookup (.type "zip") "__length_hint__" = pure none := by rw [typeLookup_type, builtinLookup_eq_fast]; kernel_rfl
theorem collect_zip {z TI TO i1 i2 l1 l2 : Addr} {Q : List Value → Shared → Prop} (hh : A.handled = none) (D : ZipApart z TI TO i1 i2 l1 l2) (hz : IsZip s.heap z TI TO .none) (hTO : IsPair s.heap TO .none .none) (hTI : IsPair s.heap TI (.ref i1) (.ref i2))
    (h1 : s.heap.IsTupleIter i1 l1 0) (h2 : s.heap.IsTupleIter i2 l2 0) (hl1 : s.heap.IsTuple l1 xs) (hl2 : s.heap.IsTuple l2 ys) (hn : min xs.size ys.size ≤ sizeLine)
    (hQ : ∀ (h' : Heap) (tk : Nat) (as : List Addr), (∀ b o, b ≠ z → b ≠ TO → b ≠ i1 → b ≠ i2 → s.heap.get? b = some o → h'.get? b = some o) → as.length = min xs.size ys.size → ZPs xs ys s.heap.objs.size h' as → Q (as.map Value.ref) { s with heap := h', toks := tk }) :
    wpAny (model prog w) A (collect (.ref z)) Q E s := by
  have lz : z < s.heap.objs.size := Heap.lt_size hz
  have lTI : TI < s.heap.objs.size := Heap.lt_size hTI
  have lTO : TO < s.heap.objs.size := Heap.lt_size hTO
  have li1 : i1 < s.heap.objs.size := by obtain ⟨o, e, _⟩ := h1; exact Heap.lt_size e
  have li2 : i2 < s.heap.objs.size := by obtain ⟨o, e, _⟩ := h2; exact Heap.lt_size e
  have ll1 : l1 < s.heap.objs.size := by obtain ⟨o, e, _⟩ := hl1; exact Heap.lt_size e
  have ll2 : l2 < s.heap.objs.size := by obtain ⟨o, e, _⟩ := hl2; exact Heap.lt_size e
  have hSz : s.heap.objs.size ≠ z := Nat.ne_of_gt lz
  have O : ZOff z TI TO i1 i2 l1 l2 s.heap.objs.size := ⟨Nat.ne_of_lt lz, Nat.ne_of_lt lTI, Nat.ne_of_lt lTO, Nat.ne_of_lt li1, Nat.ne_of_lt li2, Nat.ne_of_lt ll1, Nat.ne_of_lt ll2⟩
  unfold collect
  refine wpAny_bind (wpAny_runValue
        (codeAny_builtin F.entry_proto_collect ?_))
  rw [Around.under_plainId
        F.plain_proto_collect _]
  show wpAny _ A.in1 (newList [] >>= fun l' => again (.builtin "list.__iadd__" ⟨[l', .ref z], []⟩)) _ _ s
  refine wpAny_bind
        (wpAny_newObj_type ?_)
  refine wpAny_pure ⟨plainId_quiet F.plain_list_iadd
        _, codeAny_builtin F.entry_list_iadd ?_⟩
  rw [Around.under_plainId
        F.plain_list_iadd _]
  have hS₁ : (s.heap.push { cls := .type "list", data := .seq ([] : List Value).toArray }).get? s.heap.objs.size
        = some { cls := .type "list", data := .seq ([] : List Value).toArray } := Heap.get?_push_size _ rfl
  have p : ∀ b o, s.heap.get? b = some o → (s.heap.push { cls := .type "list", data := .seq ([] : List Value).toArray }).get? b = some o := fun b o e => Heap.get?_push_of_some _ e
  have st1 : ZSt (s.heap.push { cls := .type "list", data := .seq ([] : List Value).toArray }) z TI TO i1 i2 l1 l2 s.heap.objs.size 0 xs ys := ⟨p _ _ hTI, h1.at fun o e => p _ _ e, h2.at fun o e => p _ _ e, hl1.at fun o e => p _ _ e, hl2.at fun o e => p _ _ e, .inl ⟨p _ _ hz, _, _, p _ _ hTO⟩⟩
  have hT : ({ s with heap := s.heap.push { cls := .type "list", data := .seq ([] : List Value).toArray } } : Shared).TypeIs (.ref z) "zip" := ⟨_, p _ _ hz, rfl⟩
  have e1 : Builtin.List.listSameRef (.ref s.heap.objs.size) (.ref z) = false := by simp [Builtin.List.listSameRef, hSz]
  show wpAny _ A.in1 (Builtin.List.listExtendWith (.ref s.heap.objs.size) (.ref z) (.ref s.heap.objs.size)) _ _ _
  unfold
        Builtin.List.listExtendWith
  refine wpAny_bind
        (wpAny_typeOf hT ?_)
  have e2 : (Value.type "zip" == Value.type "list") = false := by decide
  have e3 : (Value.type "zip" == Value.type "tuple") = false := by decide
  simp only [e1, e2, e3, Bool.or_false, Bool.false_eq_true, if_false]
  refine wpAny_bind (wpAny_pyIter_slot hT F.slot_zip_iter (wpAny_call_entry F.slot_zip_iter hT F.entry_zip_iter ?_ (F.args_zip_iter_1 _)))
  refine wpAny_pure ⟨_, rfl, "zip", _, hT, F.slot_zip_next.lookup, ?_⟩
  refine wpAny_bind
        (wpAny_holding ?_)
  unfold
        Builtin.List.listLengthHint
  refine wpAny_bind (wpAny_specialOf hT nolen_zip ?_)
  show wpAny _ A.in1 (specialOf (Value.ref z) (Str.ofString "__length_hint__") >>= _) _ _ _
  refine wpAny_bind (wpAny_specialOf hT nohint_zip ?_)
  refine wpAny_pure ?_
  show wpAny _ A.in1 (rule "list.extend.makes-room" >>= fun _ =>
        Builtin.List.listTouch (.ref s.heap.objs.size) >>= fun _ =>
    again (.builtin "list.extend.loop" ⟨[.ref s.heap.objs.size, .ref z, .ref s.heap.objs.size], []⟩)) _ _ _
  refine wpAny_bind
        (wpAny_rule ?_)
  refine wpAny_bind ?_
  show wpAny _ A.in1 (updateSeq s.heap.objs.size (·.push .none)
        >>= fun _ => updateSeq s.heap.objs.size (·.pop)) _ _ _
  refine wpAny_bind
        (wpAny_updateSeq hS₁ rfl ?_)
  have hS₂ := Heap.get?_update_self
        (Obj.mapSeq (·.push Value.none)) hS₁ rfl
  refine wpAny_updateSeq
        hS₂ rfl ?_
  have hS₃ := Heap.get?_update_self
        (Obj.mapSeq (·.pop)) hS₂ rfl
  have oth : ∀ b o, b ≠ s.heap.objs.size → (s.heap.push
        { cls := .type "list", data := .seq ([] : List Value).toArray }).get? b = some o →
      (((s.heap.push { cls := .type "list", data := .seq ([] : List Value).toArray }).update s.heap.objs.size
            (Obj.mapSeq (·.push Value.none))).update s.heap.objs.size (Obj.mapSeq (·.pop))).get? b = some o :=
    fun b o hb e => (Heap.get?_update_other _ _ (Ne.symm hb)).trans
          ((Heap.get?_update_other _ _ (Ne.symm hb)).trans e)
  refine wpAny_pure ⟨plainId_quiet F.plain_extend_loop _, zip_loop (s := s) (h₁ := s.heap) (lo := s.heap.objs.size) hh D O hn _ ⟨Nat.le_of_lt lz, Nat.le_of_lt lTO, Nat.le_of_lt li1, Nat.le_of_lt li2, Nat.le_refl _⟩ (fun h' tk acc c as hk hS' hal hG hacc => ?_) _ 0 _ s.toks _ #[] [] rfl (Nat.zero_le _) (st1.keep O oth) (fun b o b0 _ _ _ _ e => oth b o b0 (p b o e)) hS₃ rfl rfl ⟨List.Pairwise.nil, fun a ha => by simp at ha, fun j a hj => by simp at hj⟩ ?_⟩
  · show wpAny _ A (load s.heap.objs.size >>= _) _ _ _
    refine wpAny_bind
          (wpAny_load hS' ?_)
    refine wpAny_pure ?_
    show Q acc.toList _
    rw [hacc]
    exact hQ h' tk as (fun b o b1 b2 b3 b4 e => hk b o (Nat.ne_of_lt (Heap.lt_size e)) b1 b2 b3 b4 e) hal hG
  · exact Heap.lt_size hS₃
theorem code_tuple_new_zip {z TI TO i1 i2 l1 l2 : Addr} {Q₁ : Value → Shared → Prop} (hh : A.handled = none) (D : ZipApart z TI TO i1 i2 l1 l2) (hz : IsZip s.heap z TI TO .none) (hTO : IsPair s.heap TO .none .none) (hTI : IsPair s.heap TI (.ref i1) (.ref i2))
    (h1 : s.heap.IsTupleIter i1 l1 0) (h2 : s.heap.IsTupleIter i2 l2 0) (hl1 : s.heap.IsTuple l1 xs) (hl2 : s.heap.IsTuple l2 ys) (hn : min xs.size ys.size ≤ sizeLine)
    (h : ∀ (h' : Heap) (tk : Nat) (as : List Addr), (∀ b o, b ≠ z → b ≠ TO → b ≠ i1 → b ≠ i2 → s.heap.get? b = some o → h'.get? b = some o) → as.length = min xs.size ys.size → ZPs xs ys s.heap.objs.size h' as →
      Q₁ (.ref h'.objs.size) { s with heap := h'.push { cls := .type "tuple", data := .seq (as.map Value.ref).toArray }, toks := tk }) :
    codeAny (model prog w) A (.call (.builtin "tuple.__new__") ⟨[.type "tuple", .ref z], []⟩) (wants Q₁ E) s := by
  refine codeAny_of_tree ?_
  show wpAny _ A.in1 (do checkBuiltinCall "tuple.__new__" ⟨[.type "tuple", .ref z], []⟩; again (.builtin "tuple.__new__" ⟨[.type "tuple", .ref z], []⟩)) _ _ s
  refine wpAny_bind (wpAny_of_eq (F.newCall_tuple_1 _) (wpAny_pure
        ⟨plainId_quiet F.plain_tuple_new _, codeAny_builtin F.entry_tuple_new ?_⟩))
  rw [Around.under_plainId
        F.plain_tuple_new _]
  have hsub := sub_tuple_self
  have hinit :=
        init_tuple_lookup
  have hmh := madeHere_tuple
  have hTI' : s.TypeIs (.ref z) "zip" := ⟨_, hz, rfl⟩
  have hh1 : A.in1.handled
        = none := hh
  wp_walk using wpAny_typeOf hTI', collect_zip (A := A.in1) hh1 D hz hTO hTI h1 h2 hl1 hl2 hn
  intro h' tk as hk hl hG
  show wpAny _ _ (Builtin.Tuple.tupleExact (as.map Value.ref).toArray >>= fun v => ret v) _ _ _
  unfold
        Builtin.Tuple.tupleExact
  refine wpAny_bind (wpAny_newObj_type ?_ (by show (as.map Value.ref).toArray.size ≤ sizeLine; simp only [List.size_toArray, List.length_map]; omega))
  exact wpAny_pure (h h' tk as hk hl hG)
theorem call_tuple_zip {z TI TO i1 i2 l1 l2 : Addr} {Q : Value → Shared → Prop} (hh : A.handled = none) (D : ZipApart z TI TO i1 i2 l1 l2) (hz : IsZip s.heap z TI TO .none) (hTO : IsPair s.heap TO .none .none) (hTI : IsPair s.heap TI (.ref i1) (.ref i2))
    (h1 : s.heap.IsTupleIter i1 l1 0) (h2 : s.heap.IsTupleIter i2 l2 0) (hl1 : s.heap.IsTuple l1 xs) (hl2 : s.heap.IsTuple l2 ys) (hn : min xs.size ys.size ≤ sizeLine)
    (hQ : ∀ (h' : Heap) (tk : Nat) (as : List Addr), (∀ b o, b ≠ z → b ≠ TO → b ≠ i1 → b ≠ i2 → s.heap.get? b = some o → h'.get? b = some o) → as.length = min xs.size ys.size → ZPs xs ys s.heap.objs.size h' as →
      Q (.ref h'.objs.size) { s with heap := h'.push { cls := .type "tuple", data := .seq (as.map Value.ref).toArray }, toks := tk }) :
    wpAny (model prog w) A (call (.type "tuple") [.ref z]) Q E s := by
  refine callType_codes (Q₁ := fun obj s₁ => s₁.TypeIs obj "tuple"
        ∧ Q obj s₁) F.called_tuple (F.typeCall_tuple_1 _) F.entry_object_init
    (code_tuple_new_zip (A := A.in1) hh D hz hTO hTI h1 h2 hl1 hl2 hn fun h' tk as hk hl hG => ⟨⟨_, Heap.get?_push_size _ rfl, rfl⟩, hQ h' tk as hk hl hG⟩) fun obj s₁ h₁ => ?_
  exact ⟨h₁.1, F.args_object_init_2 obj _, object_init_meets F.called_tuple.init.lookup
        F.called_tuple.made (by decide) prog w A.in1 _ s₁ ⟨h₁.1, rfl, h₁.2⟩⟩
end
end Mz
namespace Mp
open PySem PySem.Spec PyProof.Rows L2 RZ

/-! ### tuple(zip(a, b)) over two tuples: a new tuple of new pairs -/
section
variable {X : Cx} {g : Gx} {pos : Pos}
/-- objects that stand in the heap, untracked, are tracked one after another -/
theorem lay_pairs {pins : List (Addr × Obj)} {st : L2.St} {s : Shared} {h' : Heap} {tk : Nat} : ∀ (as : List Addr) (ps : List (V × V)) (H : Hp) (G : Heap), as.Nodup → Inv X pins st H { s with heap := G, toks := tk } → (∀ b, b ∉ as → G.get? b = h'.get? b) → (∀ b ∈ as, G.get? b = none) → (∀ b ∈ as, H b = none) → as.length = ps.length →
    (∀ (j : Nat) (a : Addr) (p : V × V), as[j]? = some a → ps[j]? = some p → ∃ u v, RelV p.1 u ∧ RelV p.2 v ∧ IsPair h' a u v) →
    ∃ H', Inv X pins st H' { s with heap := h', toks := tk } ∧ (∀ b, b ∉ as → H' b = H b) ∧ ∀ (j : Nat) (a : Addr) (p : V × V), as[j]? = some a → ps[j]? = some p → H' a = some (.tup [p.1, p.2])
  | [], ps, H, G, _, I, e, _, _, _, _ => ⟨H, I.kept (t' := tk) fun b u q => by rw [← e b (by simp)]; exact q, fun _ _ => rfl, fun j a p q => by simp at q⟩
  | a :: as, [], _, _, _, _, _, _, _, l, _ => by simp at l
  | a :: as, p :: ps, H, G, nd, I, e, hn, hH, l, hp => by
    obtain ⟨na, nd'⟩ := List.nodup_cons.mp nd
    obtain ⟨G2, g1, g2⟩ := restrict h' fun b => decide (b ∉ as)
    have g1' : ∀ b, b ∉ as → G2.get? b = h'.get? b := fun b hb => g1 b (decide_eq_true hb)
    have g2' : ∀ b ∈ as, G2.get? b = none := fun b hb => g2 b (decide_eq_false fun q => q hb)
    obtain ⟨u, v, ru, rv, hT⟩ := hp 0 a p rfl rfl
    have k : ∀ b o, G.get? b = some o → G2.get? b = some o := fun b o q => by
      have hb : b ∉ a :: as := fun z => by rw [hn b z] at q; cases q
      rw [g1' b fun z => hb (List.mem_cons_of_mem _ z), ← e b hb]
      exact q
    have hT2 : IsPair G2 a u v := (g1' a na).trans hT
    have I2 : Inv X pins st (upd H a (.tup [p.1, p.2])) { s with heap := G2, toks := tk } := Inv.laidN (s := { s with heap := G, toks := tk }) (t' := tk) I k (hn a List.mem_cons_self) (hH a List.mem_cons_self)
      (show ObjOk X.prog X.w _ G2 a (.tup [p.1, p.2]) from ⟨by show 2 ≤ sizeLine; decide, [u, v], .cons ru (.cons rv .nil), ⟨_, hT2, rfl, _, rfl⟩⟩)
    have ne : ∀ b ∈ as, b ≠ a := fun b hb z => na (z ▸ hb)
    obtain ⟨H', I3, q1, q2⟩ := lay_pairs as ps _ G2 nd' I2 g1' g2' (fun b hb => by rw [upd_ne (ne b hb)]; exact hH b (List.mem_cons_of_mem _ hb)) (by simpa using l) fun j a' p' x y => hp (j + 1) a' p' x y
    refine ⟨H', I3, fun b hb => ?_, fun j a' p' x y => ?_⟩
    · rw [q1 b fun z => hb (List.mem_cons_of_mem _ z), upd_ne fun z => hb (by rw [z]; exact List.mem_cons_self)]
    · cases j with
      | zero =>
        cases x
        cases y
        rw [q1 a na]
        exact upd_same
      | succ j => exact q2 j a' p' x y

/-- the reading of tuple(zip(a, b)) -/
def tTupZip (K : PySem.W.Frag) (ta : TA) : TE := fun st H Q => ta st H fun vs H1 => ∃ a b xs ys, vs = [.ref a, .ref b] ∧ SqT K H1 a xs ∧ SqT K H1 b ys ∧
  ∀ (as : List Addr) (H2 : Hp) (q : Addr), as.length = min xs.length ys.length → as.length ≤ sizeLine → (∀ b ∈ as, H1 b = none) → (∀ b, b ∉ as → H2 b = H1 b) →
    (∀ (j : Nat) (a : Addr) (x y : V), as[j]? = some a → xs[j]? = some x → ys[j]? = some y → H2 a = some (.tup [x, y])) → H2 q = none → Q (.ref q) (upd H2 q (.tup (as.map .ref)))
theorem vals_addrs : ∀ (as : List Addr), Vals (as.map V.ref) (as.map Value.ref)
  | [] => .nil
  | _ :: as => .cons rfl (vals_addrs as)
theorem pe_tupZip {e e2 : Expr} {ta : TA} {p p2 pos2 : Pos} (hc : X.calm = true) (hg : Gl X "tuple") (hm : X.mg "tuple" = none) (hg2 : Gl X "zip") (hm2 : X.mg "zip" = none) (ha : PA X [e, e2] ta)
    (hs : starEach [e, e2] X.env = (false, eval e X.env) :: starEach [e2] X.env := by rfl) (hpl : (backTo pos2 (starEach [e2] X.env)).any (·.1) = false := by rfl)
    (hs2 : starEach [.Call (.Name "zip" p2) [e, e2] [] pos2] X.env = (false, eval (.Call (.Name "zip" p2) [e, e2] [] pos2) X.env) :: starEach [] X.env := by rfl) :
    PE X (.Call (.Name "tuple" p) [.Call (.Name "zip" p2) [e, e2] [] pos2] [] pos) (tTupZip X.K ta) := by
  refine ⟨fun pins s
        σ H Q I h => ?_⟩
  refine Call_ (ld_blt I hg hm boot_tuple (PyProof.Rows.callWith_type1 (args_cons (Call_ (ld_blt I hg2 hm2 PyProof.Rows.boot_zip (PyProof.Rows.callWith_type1 (thn (ha.run pos2 pins s σ H _ I h) fun us s1 ⟨vs, H1, I1, r1, q1⟩ => ?_) hs hpl))) hs2) hs2 rfl))
  obtain ⟨a, b, xs, ys,
        ex, hqx, hqy, q⟩ := q1
  subst ex
  cases r1 with
  | cons r rr =>
    cases rr with
    | cons r' rr =>
      cases rr
      cases r
      cases r'
      obtain ⟨its, rv, p1, hzx⟩ := I1.tuple hqx
      obtain ⟨its2, rv2, p3, hzy⟩ := I1.tuple hqy
      obtain ⟨o1, ho1, _⟩ := id p1
      obtain ⟨o2, ho2, _⟩ := id p3
      have D := PySem.W.ktu_apart s1.heap.objs.size a b (Heap.lt_size ho1) (Heap.lt_size ho2)
      refine call_zipT (show s1.heap.IsTuple a its.toArray from p1) (show s1.heap.IsTuple b its2.toArray from p3) fun h0 hz hTI hTO h1 h2 hsz hk => args_nil ?_
      have t1 : h0.IsTuple a its.toArray := (show s1.heap.IsTuple a its.toArray from p1).at fun o e => hk _ _ e
      have t2 : h0.IsTuple b its2.toArray := (show s1.heap.IsTuple b its2.toArray from p3).at fun o e => hk _ _ e
      have lx := rv.length
      have ly := rv2.length
      have hn : min its.toArray.size its2.toArray.size ≤ sizeLine := by simp only [List.size_toArray]; omega
      refine Mz.call_tuple_zip (s := { s1 with heap := h0 }) (I1.ok.hd hc) D hz hTO hTI h1 h2 t1 t2 hn fun h' tk as hk' hl hG => ?_
      dsimp only at hk' hG ⊢
      have above : ∀ c ∈ as, s1.heap.objs.size + 5 < c := fun c hcm => by have := hG.above c hcm; rw [hsz] at this; exact this
      have hHn : ∀ c ∈ as, H1 c = none := fun c hcm => I1.hok.fresh (Nat.le_of_lt (Nat.lt_of_le_of_lt (Nat.le_add_right _ 5) (above c hcm)))
      obtain ⟨G, g1, g2⟩ := restrict h' fun b => decide (b ∉ as)
      have g1' : ∀ b, b ∉ as → G.get? b = h'.get? b := fun b hb => g1 b (decide_eq_true hb)
      have I2 : Inv X pins σ H1 { s1 with heap := G, toks := tk } := I1.kept (t' := tk) fun c u e => by
        have hlt : c < s1.heap.objs.size := Heap.lt_size e
        rw [g1' c fun z => Nat.lt_irrefl c (Nat.lt_trans hlt (Nat.lt_of_le_of_lt (Nat.le_add_right _ 5) (above c z)))]
        exact hk' c u (Nat.ne_of_lt (Nat.lt_of_lt_of_le hlt (Nat.le_add_right _ 4))) (Nat.ne_of_lt (Nat.lt_of_lt_of_le hlt (Nat.le_add_right _ 3))) (Nat.ne_of_lt hlt) (Nat.ne_of_lt (Nat.lt_of_lt_of_le hlt (Nat.le_add_right _ 1))) (hk c u e)
      have nd : as.Nodup := hG.rise.imp fun h => Nat.ne_of_lt h
      obtain ⟨ps, hps⟩ : ∃ ps : List (V × V), ps = List.zip xs ys := ⟨_, rfl⟩
      have lps : as.length = ps.length := by rw [hl, hps, List.length_zip, List.size_toArray, List.size_toArray, lx, ly]
      obtain ⟨H2, I3, e1, e2⟩ := lay_pairs (h' := h') as ps H1 G nd I2 g1' (fun c hcm => g2 c (decide_eq_false fun z => z hcm)) hHn lps fun j c pr x y => by
        rw [hps, List.getElem?_zip_eq_some] at y
        obtain ⟨u, v, f1, f2, f3⟩ := hG.pairs j c x
        obtain ⟨u', f4, f5⟩ := rv.get y.1
        obtain ⟨v', f6, f7⟩ := rv2.get y.2
        have f1' : its[j]? = some u := by simpa using f1
        have f2' : its2[j]? = some v := by simpa using f2
        rw [f4] at f1'
        rw [f6] at f2'
        cases f1'
        cases f2'
        exact ⟨_, _, f5, f7, f3⟩
      have lz : as.length ≤ sizeLine := by rw [hl]; exact hn
      refine ⟨.ref h'.objs.size, upd H2 h'.objs.size (.tup (as.map .ref)), I3.laid (t' := tk) (fun c o e => Heap.get?_push_of_some _ e) (Nat.le_refl _) (show ObjOk X.prog X.w _ _ _ (.tup (as.map .ref)) from ⟨by rw [List.length_map]; exact lz, as.map Value.ref, vals_addrs as, IsTup.new _ _⟩), rfl,
        q as H2 _ (by rw [hl, List.size_toArray, List.size_toArray, lx, ly]) lz hHn e1 (fun j c x y z1 z2 z3 => e2 j c (x, y) z1 (by rw [hps, List.getElem?_zip_eq_some]; exact ⟨z2, z3⟩)) (I3.hok.fresh (Nat.le_refl _))⟩

theorem RVs.of_get {r : List Addr} {H : Hp} : ∀ {xs : List Val} {vs : List V}, xs.length = vs.length → (∀ (j : Nat) x v, xs[j]? = some x → vs[j]? = some v → RV g r H x v) → RVs g r H xs vs
  | [], [], _, _ => .nil
  | [], _ :: _, e, _ => by simp at e
  | _ :: _, [], e, _ => by simp at e
  | x :: xs, v :: vs, e, h => .cons (h 0 x v rfl rfl) (RVs.of_get (by simpa using e) fun j a b p q => h (j + 1) a b p q)
/-- tuple(zip(a, b)) -/
def eTupZip (a b : ME) : ME := fun sl S => (a sl S).bind fun p => (b sl p.2).bind fun q => (tupOf p.1).bind fun xs => (tupOf q.1).map fun ys => (.tup (zipL xs ys), q.2)
theorem d_tupZip {e e2 : Expr} {m m2 : ME} {p p2 pos2 : Pos} (hK : g.K = X.K) (hc : X.calm = true) (hg : Gl X "tuple") (hm : X.mg "tuple" = none) (hg2 : Gl X "zip") (hm2 : X.mg "zip" = none) (ha : PE X e (tD g m)) (hb : PE X e2 (tD g m2))
    (hs : starEach [e, e2] X.env = (false, eval e X.env) :: starEach [e2] X.env := by rfl) (hs' : starEach [e2] X.env = (false, eval e2 X.env) :: starEach [] X.env := by rfl) (hpl : (backTo pos2 (starEach [e2] X.env)).any (·.1) = false := by rfl)
    (hs2 : starEach [.Call (.Name "zip" p2) [e, e2] [] pos2] X.env = (false, eval (.Call (.Name "zip" p2) [e, e2] [] pos2) X.env) :: starEach [] X.env := by rfl) :
    PE X (.Call (.Name "tuple" p) [.Call (.Name "zip" p2) [e, e2] [] pos2] [] pos) (tD g (eTupZip m m2)) := by
  refine PE.weak (pe_tupZip hc hg hm hg2 hm2 (d_cons ha (d_cons hb d_nil hs') hs) hs hpl hs2) fun st H Q h => ?_
  obtain ⟨z, r, S, sl, v, S', R0, e, q⟩ := h
  simp only [eTupZip, Option.bind_eq_some_iff, Option.map_eq_some_iff] at e
  obtain ⟨⟨v1, S1⟩, e1, ⟨w, S2⟩, e3, xs, f1, ys, f2, f3⟩ := e
  cases f3
  dsimp only at e3 f1 f2 q
  refine ⟨z, r, S, sl, [v1, w], S2, R0, by simp [esCons, esNil, e1, e3], fun r1 H1 hv s1 sr1 rv => ?_⟩
  cases rv with
  | cons a b =>
    cases b with
    | cons b c =>
      cases c
      obtain ⟨p, vs, rfl, h1, h2, h3⟩ := tupOf_at a f1
      obtain ⟨p', ws, rfl, k1, k2, k3⟩ := tupOf_at b f2
      have h1' := h1
      have k1' := k1
      rw [show (g.at z).K = X.K from hK] at h1' k1'
      refine ⟨_, _, _, _, rfl, h1', k1', fun as H2 q' la lz hn ho hp hq => ?_⟩
      have more : ∀ b o, H1 b = some o → H2 b = some o := fun b o e => by
        rw [ho b fun hb => by rw [hn b hb] at e; cases e]
        exact e
      have s2 : Step r1 H1 r1 H2 := ⟨fun b o e _ => more b o e, ⟨[], by simp⟩, fun _ x => .inl x, fun b o u e => more b _ e⟩
      have sr2 : SR (g.at z) r1 H2 _ := sr1.more more
      have h3' := h3.mono s2 sr1.own
      have k3' := k3.mono s2 sr1.own
      have rs : RVs (g.at z) r1 H2 (zipL xs ys) (as.map .ref) := by
        refine RVs.of_get ?_ fun j x v hx hv => ?_
        · rw [zipL_len, List.length_map, la, h3.length, k3.length]
        · obtain ⟨x1, y1, hx1, hy1, rfl⟩ := zipL_get _ _ _ _ hx
          rw [List.getElem?_map, Option.map_eq_some_iff] at hv
          obtain ⟨c, hc1, rfl⟩ := hv
          obtain ⟨v1, hv1, rv1⟩ := h3'.get hx1
          obtain ⟨v2, hv2, rv2⟩ := k3'.get hy1
          exact .tup (.inl (.inl (hp j c v1 v2 hc1 hv1 hv2))) (by show 2 ≤ sizeLine; decide) (.cons rv1 (.cons rv2 .nil))
      exact q r1 _ _ (s1.trans (s2.trans (Step.new1 hq))) (sr2.beside hq) (RV.newT sr2 hq (by rw [zipL_len, h3.length, k3.length, ← la]; exact lz) rs)
end
end Mp
namespace Mp
open PySem PySem.Spec
      PyProof.Rows L2

/-! ### a comprehension's conditions: none, one -/
/-- no condition -/
def tYesM : MT := fun _ S => some (true, S)
section
variable {X : Cx} {g : Gx}
theorem dts_nil : PTs X [] (tDt g tYesM) := by
  refine ⟨fun pins s st H Q I h => pts_nil.run pins s st H Q I ?_⟩
  obtain ⟨z, r, S, sl, v, S', R, e, q⟩ := h
  cases e
  exact q r H (.refl r H) R.sr
theorem dts_one {c : Expr} {t : MT} (h : PT X c (tDt g t)) : PTs X [c] (tDt g t) := pts_one h
end
end Mp
namespace Mz
open PySem PySem.Spec PyProof.Rows RZ

/-! ### zip over two tuples into one name: what it gave out may live on, or be gone -/
section
variable {prog : Program}
      {w : World} {A : Around} {E : Value → Shared → Prop} {s : Shared}
theorem zk_gone {z TI TO a : Addr} {f : Bool} {Q : Bool → Shared → Prop} (hz : ZipK s.heap z TI TO a f) (ha : s.heap.get? a = none) (h : Q true s) : wpAny (model prog w) A (Builtin.SmallTypes.ownedTupleIsFree (.ref z)) Q E s := by
  unfold
        Builtin.SmallTypes.ownedTupleIsFree
  refine wpAny_bind (wpAny_field hz rfl (x := rawInt a) rfl ?_)
  show wpAny _ _ (loadIfAlive
        ((a : Int).toNat) >>= _) _ _ _
  rw [Int.toNat_natCast]
  have q : (fun (o : Option Obj) (s' : Shared) => wpAny (model prog w) A (if o.isNone = true then pure true else (do
      let y ← field (.ref z) 1
      if (y != .bool true) = true then setField (.ref z) 1 (.bool true)
      pure false)) Q E s') (s.heap.get? a) s := by
    rw [ha]
    exact wpAny_pure h
  exact wpAny_bind (fun _ _ _ => q)
abbrev ZipG (h : Heap) (z TI TO : Addr) (v : Value) (f : Bool) : Prop :=
  h.get? z = some { cls := .type "zip", dict := none, data := .fields #[v, .bool f, .bool false, .ref TI, .ref TO], slots := #[] }
theorem zg_next_item {z TI TO i1 i2 l1 l2 T : Addr} {f : Bool} {k1 k2 : Nat} {xs ys : Array Value} {x y a b : Value} {Q : Value → Shared → Prop} (D : ZipApart z TI TO i1 i2 l1 l2)
    (hz : ZipK s.heap z TI TO T f) (dead : s.heap.get? T = none) (hTI : IsPair s.heap TI (.ref i1) (.ref i2)) (hTO : IsPair s.heap TO a b)
    (h1 : s.heap.IsTupleIter i1 l1 k1) (h2 : s.heap.IsTupleIter i2 l2 k2) (hl1 : s.heap.IsTuple l1 xs)
          (hl2 : s.heap.IsTuple l2 ys) (hx : xs[k1]? = some x) (hy : ys[k2]? = some y)
    (hQ : ∀ h', ZipK h' z TI TO s.heap.objs.size false → IsPair h' TO x y → h'.IsTupleIter i1 l1 (k1 + 1) → h'.IsTupleIter i2 l2 (k2 + 1) → IsPair h' s.heap.objs.size x y → h'.objs.size = s.heap.objs.size + 1 →
      (∀ c o, c ≠ z → c ≠ TO → c ≠ i1 → c ≠ i2 → s.heap.get? c = some o
            → h'.get? c = some o) → Q (.ref s.heap.objs.size) { s with heap := h' }) :
    wpAny (model prog w) A (Builtin.«zip.__next__» ⟨[.ref z], []⟩)
          (fun fin s' => ∃ v, fin = .done (.ret v) ∧ Q v s') E s := by
  show wpAny _ _ (field
        (.ref z) 2 >>= _) _ _ _
  refine wpAny_bind (wpAny_field hz rfl
        (x := .bool false) rfl ?_)
  show wpAny _ _ (field
        (.ref z) 3 >>= _) _ _ _
  refine wpAny_bind (wpAny_field hz rfl (x := .ref TI) rfl (wpAny_bind (wpAny_seqItems hTI rfl ?_)))
  show wpAny _ _ (Builtin.SmallTypes.ownedTupleIsFree
        (.ref z) >>= _) _ _ _
  refine wpAny_bind (zk_gone hz dead ?_)
  simp only [if_true]
  refine wpAny_bind (wpAny_rule (wpAny_bind (wpAny_field hz rfl (x := .ref TO) rfl (wpAny_bind (wpAny_setField_rec hz (by simp) fun g1 z1 b1 => ?_)))))
  replace z1 : ZipG g1 z TI TO .ellipsis f := z1
  refine wpAny_bind ?_
  simp only [List.zipIdx_cons, List.zipIdx_nil,
        List.forIn_cons, List.forIn_nil]
  refine wpAny_bind (wpAny_bind
        (wpAny_onRaise ?_))
  show wpAny _ _ (Builtin.SmallTypes.nextOf
        (.ref i1) >>= _) _ _ _
  refine wpAny_bind (nextOf_tuple_item (h1.extBut b1.extBut D.i1z) (hl1.extBut b1.extBut D.l1z) hx fun g2 n1 b2 => wpAny_pure ?_)
  have o2 : IsPair g2 TO a b := b2.extBut _ _ D.TOi1 (b1.extBut _ _ D.TOz hTO)
  refine wpAny_bind (wpAny_seqItems o2 rfl (wpAny_bind (wpAny_updateSeq_pair o2 fun g3 o3 b3 => ?_)))
  replace o3 : IsPair g3 TO x b := o3
  refine wpAny_bind (wpAny_letGo (wpAny_pure (wpAny_bind (wpAny_bind (wpAny_onRaise ?_)))))
  show wpAny _ _ (Builtin.SmallTypes.nextOf
        (.ref i2) >>= _) _ _ _
  have q2 : g3.IsTupleIter i2 l2 k2 := ((h2.extBut b1.extBut D.i2z).extBut b2.extBut D.i12.symm).extBut b3.extBut D.TOi2.symm
  have q3 : g3.IsTuple l2 ys := ((hl2.extBut b1.extBut D.l2z).extBut b2.extBut D.l2i1).extBut b3.extBut D.l2TO
  refine wpAny_bind (nextOf_tuple_item q2 q3 hy fun g4 n2 b4 => wpAny_pure ?_)
  have o4 : IsPair g4 TO x b := b4.extBut _ _ D.TOi2 o3
  refine wpAny_bind (wpAny_seqItems o4 rfl (wpAny_bind (wpAny_updateSeq_pair o4 fun g5 o5 b5 => ?_)))
  replace o5 : IsPair g5 TO x y := o5
  refine wpAny_bind (wpAny_letGo (wpAny_pure (wpAny_pure (wpAny_bind (wpAny_seqItems o5 rfl (wpAny_bind (wpAny_newTuple ?_)))))))
  have sz : g5.objs.size = s.heap.objs.size := by rw [b5.1, b4.1, b3.1, b2.1, b1.1]
  have z5 : ZipG g5 z TI TO .ellipsis f := b5.extBut _ _ D.TOz.symm (b4.extBut _ _ D.i2z.symm (b3.extBut _ _ D.TOz.symm (b2.extBut _ _ D.i1z.symm z1)))
  have all5 : ∀ c o, c ≠ z → c ≠ TO → c ≠ i1 → c ≠ i2 → s.heap.get? c = some o → g5.get? c = some o := fun c o c1 c2 c3 c4 e =>
    b5.extBut _ _ c2 (b4.extBut _ _ c4 (b3.extBut _ _ c2 (b2.extBut _ _ c3 (b1.extBut _ _ c1 e))))
  have m1 : g5.IsTupleIter i1 l1 (k1 + 1) := ((n1.extBut b3.extBut D.TOi1.symm).extBut b4.extBut D.i12).extBut b5.extBut D.TOi1.symm
  have m2 : g5.IsTupleIter i2 l2 (k2 + 1) := n2.extBut b5.extBut D.TOi2.symm
  have zlt : z < g5.objs.size := Heap.lt_size z5
  show wpAny _ _ (Builtin.SmallTypes.ownedTupleHandOut (.ref z) (.ref g5.objs.size) >>= _) _ _ _
  refine wpAny_bind ?_
  unfold
        Builtin.SmallTypes.ownedTupleHandOut
  have z6 : ZipG (g5.push { cls := .type "tuple", data := .seq #[x, y] }) z TI TO .ellipsis f := Heap.get?_push_of_some _ z5
  refine wpAny_bind (wpAny_setField_rec z6 (by simp) fun g7 z7 b7 => ?_)
  replace z7 : ZipG g7 z TI TO (rawInt g5.objs.size) f := z7
  refine wpAny_setField_rec z7 (by simp) fun g8 z8 b8 => ?_
  replace z8 : ZipK g8 z TI TO g5.objs.size false := z8
  have up : ∀ c o, c ≠ z → g5.get? c = some o → g8.get? c = some o := fun c o c1 e => b8.extBut _ _ c1 (b7.extBut _ _ c1 (Heap.get?_push_of_some _ e))
  have p8 : IsPair g8 g5.objs.size x y := b8.extBut _ _ (Nat.ne_of_gt zlt) (b7.extBut _ _ (Nat.ne_of_gt zlt) (Heap.get?_push_size _ rfl))
  have s8 : g8.objs.size = g5.objs.size + 1 := by rw [b8.1, b7.1, Heap.size_push]
  rw [sz] at z8 p8 s8
  refine wpAny_pure
        ⟨_, rfl, ?_⟩
  show Q (.ref g5.objs.size) _
  rw [sz]
  exact hQ g8 z8 (up _ _ D.TOz o5) (m1.at fun o e => up _ o D.i1z e) (m2.at fun o e => up _ o D.i2z e) p8 s8 fun c o c1 c2 c3 c4 e => up c o c1 (all5 c o c1 c2 c3 c4 e)
theorem zg_next_end {z TI TO i1 i2 l1 l2 T : Addr} {f : Bool} {k1 k2 : Nat} {xs ys : Array Value} {a b : Value} {Q : Fin → Shared → Prop} (hh : A.handled = none) (D : ZipApart z TI TO i1 i2 l1 l2)
    (hz : ZipK s.heap z TI TO T f) (dead : s.heap.get? T = none) (hTI : IsPair s.heap TI (.ref i1) (.ref i2)) (hTO : IsPair s.heap TO a b)
    (h1 : s.heap.IsTupleIter i1 l1 k1) (h2 : s.heap.IsTupleIter i2 l2 k2) (hl1 : s.heap.IsTuple l1 xs)
          (hl2 : s.heap.IsTuple l2 ys) (hend : xs[k1]? = none ∨ ys[k2]? = none)
    (hE : ∀ h' e, (∀ c o, c ≠ z → c ≠ TO → c ≠ i1 → c ≠ i2 → s.heap.get? c = some o → h'.get? c = some o)
          → (∃ o, h'.get? e = some o ∧ o.cls = .type "StopIteration") → E (.ref e) { s with heap := h' }) :
    wpAny (model prog w) A (Builtin.«zip.__next__»
          ⟨[.ref z], []⟩) Q E s := by
  show wpAny _ _ (field
        (.ref z) 2 >>= _) _ _ _
  refine wpAny_bind (wpAny_field hz rfl
        (x := .bool false) rfl ?_)
  show wpAny _ _ (field
        (.ref z) 3 >>= _) _ _ _
  refine wpAny_bind (wpAny_field hz rfl (x := .ref TI) rfl (wpAny_bind (wpAny_seqItems hTI rfl ?_)))
  show wpAny _ _ (Builtin.SmallTypes.ownedTupleIsFree
        (.ref z) >>= _) _ _ _
  refine wpAny_bind (zk_gone hz dead ?_)
  simp only [if_true]
  refine wpAny_bind (wpAny_rule (wpAny_bind (wpAny_field hz rfl (x := .ref TO) rfl (wpAny_bind (wpAny_setField_rec hz (by simp) fun g1 z1 b1 => ?_)))))
  replace z1 : ZipG g1 z TI TO .ellipsis f := z1
  refine wpAny_bind ?_
  simp only [List.zipIdx_cons, List.zipIdx_nil,
        List.forIn_cons, List.forIn_nil]
  refine wpAny_bind (wpAny_bind
        (wpAny_onRaise ?_))
  show wpAny _ _ (Builtin.SmallTypes.nextOf
        (.ref i1) >>= _) _ _ _
  cases hx : xs[k1]? with
  | none =>
    refine wpAny_bind (nextOf_tuple_end hh (h1.extBut b1.extBut D.i1z) (hl1.extBut b1.extBut D.l1z) hx fun g2 e b2 he => ?_)
    obtain ⟨oe, q1, q2⟩ := he
    have z2 : ZipG g2 z TI TO .ellipsis f := b2 _ _ D.i1z.symm z1
    have ez : e ≠ z := fun q => by subst q; rw [z2] at q1; cases q1; simp at q2
    exact wpAny_setField_rec z2 (by simp) fun g3 _ b3 => hE g3 e (fun c o c1 _ c3 _ x => b3.extBut _ _ c1 (b2 _ _ c3 (b1.extBut _ _ c1 x))) ⟨oe, b3.extBut _ _ ez q1, q2⟩
  | some x =>
    have hy : ys[k2]?
          = none := by rcases hend with h | h; rw [hx] at h; cases h; exact h
    refine wpAny_bind (nextOf_tuple_item (h1.extBut b1.extBut D.i1z) (hl1.extBut b1.extBut D.l1z) hx fun g2 n1 b2 => wpAny_pure ?_)
    have o2 : IsPair g2 TO a b := b2.extBut _ _ D.TOi1 (b1.extBut _ _ D.TOz hTO)
    refine wpAny_bind (wpAny_seqItems o2 rfl (wpAny_bind (wpAny_updateSeq_pair o2 fun g3 o3 b3 => ?_)))
    refine wpAny_bind (wpAny_letGo (wpAny_pure (wpAny_bind (wpAny_bind (wpAny_onRaise ?_)))))
    show wpAny _ _ (Builtin.SmallTypes.nextOf
          (.ref i2) >>= _) _ _ _
    have q2 : g3.IsTupleIter i2 l2 k2 := ((h2.extBut b1.extBut D.i2z).extBut b2.extBut D.i12.symm).extBut b3.extBut D.TOi2.symm
    have q3 : g3.IsTuple l2 ys := ((hl2.extBut b1.extBut D.l2z).extBut b2.extBut D.l2i1).extBut b3.extBut D.l2TO
    refine wpAny_bind (nextOf_tuple_end hh q2 q3 hy fun g4 e b4 he => ?_)
    obtain ⟨oe, q4, q5⟩ := he
    have z4 : ZipG g4 z TI TO .ellipsis f := b4 _ _ D.i2z.symm (b3.extBut _ _ D.TOz.symm (b2.extBut _ _ D.i1z.symm z1))
    have ez : e ≠ z := fun q => by subst q; rw [z4] at q4; cases q4; simp at q5
    exact wpAny_setField_rec z4 (by simp) fun g5 _ b5 => hE g5 e (fun c o c1 c2 c3 c4 x => b5.extBut _ _ c1 (b4 _ _ c4 (b3.extBut _ _ c2 (b2.extBut _ _ c3 (b1.extBut _ _ c1 x))))) ⟨oe, b5.extBut _ _ ez q4, q5⟩

/-- where such a zip stands -/
def ZN (h : Heap) (z TI TO i1 i2 a b : Addr) (i : Nat) : Prop :=
  IsPair h TI (.ref i1) (.ref i2) ∧ (∃ x y, IsPair h TO x y) ∧ h.IsTupleIter i1 a i ∧ h.IsTupleIter i2 b i ∧ (IsZip h z TI TO .none ∨ ∃ T f, ZipK h z TI TO T f ∧ T ≠ z)
theorem ZN.at_ {h : Heap} {z TI TO i1 i2 a b : Addr} {i : Nat} (x : ZN h z TI TO i1 i2 a b i) : ∃ v f, ZipG h z TI TO v f := by
  obtain ⟨_, _, _, _, e | ⟨T, f, e, _⟩⟩ := x
  · exact ⟨_, _, e⟩
  · exact ⟨_, _, e⟩
theorem ZN.type {z TI TO i1 i2 a b : Addr} {i : Nat} (x : ZN s.heap z TI TO i1 i2 a b i) : s.TypeIs (.ref z) "zip" := by
  obtain ⟨v, f, e⟩ := x.at_
  exact ⟨_, e, rfl⟩
theorem zn_item {z TI TO i1 i2 l1 l2 : Addr} {i : Nat} {xs ys : Array Value} {x y : Value} {Q : Option Value → Shared → Prop} (D : ZipApart z TI TO i1 i2 l1 l2) (st : ZN s.heap z TI TO i1 i2 l1 l2 i) (hl1 : s.heap.IsTuple l1 xs) (hl2 : s.heap.IsTuple l2 ys) (hx : xs[i]? = some x) (hy : ys[i]? = some y)
    (hQ : ∀ h', ZN h' z TI TO i1 i2 l1 l2 (i + 1) → IsPair h' s.heap.objs.size x y → h'.objs.size = s.heap.objs.size + 1 →
      (∀ c o, c ≠ z → c ≠ TO → c ≠ i1 → c ≠ i2 → s.heap.get? c = some o → h'.get? c
            = some o) → Q (some (.ref s.heap.objs.size)) { s with heap := h' }) :
    wpAny (model prog w) A
          (pyNext (.ref z)) Q E s := by
  have ty := st.type
  obtain ⟨x1, ⟨p, q, x2⟩, x3, x4, x5⟩ := st
  have zl : ∀ {v f}, ZipG s.heap z TI TO v f → s.heap.objs.size ≠ z := fun e => Nat.ne_of_gt (Heap.lt_size e)
  rcases x5 with e | ⟨T, f, e, nz⟩
  · exact pyNext_zipT_item D e x1 x2 x3 x4 hl1 hl2 hx hy fun h' a1 a2 a3 a4 a5 a6 a7 => hQ h' ⟨a7 _ _ D.TIz D.TITO D.TIi1 D.TIi2 x1, ⟨_, _, a2⟩, a3, a4, .inr ⟨_, false, a1, zl e⟩⟩ a5 a6 a7
  · unfold pyNext
    cases hT : s.heap.get? T with
    | none =>
      exact wpAny_bind (wpAny_attempt (wpAny_callSpecial?_slot (name := Str.ofString "__next__") ty F.slot_zip_next (wpAny_call_entry F.slot_zip_next ty F.entry_zip_next
        (zg_next_item D e hT x1 x2 x3 x4 hl1 hl2 hx hy fun h' a1 a2 a3 a4 a5 a6 a7 => wpAny_pure (hQ h' ⟨a7 _ _ D.TIz D.TITO D.TIi1 D.TIi2 x1, ⟨_, _, a2⟩, a3, a4, .inr ⟨_, false, a1, zl e⟩⟩ a5 a6 a7)) (F.args_zip_next_1 _))))
    | some oT =>
      exact wpAny_bind (wpAny_attempt (wpAny_callSpecial?_slot (name := Str.ofString "__next__") ty F.slot_zip_next (wpAny_call_entry F.slot_zip_next ty F.entry_zip_next
        (zk_next_item D e hT nz x1 x3 x4 hl1 hl2 hx hy fun h' a1 a3 a4 a5 a6 a7 => wpAny_pure (hQ h' ⟨a7 _ _ D.TIz D.TIi1 D.TIi2 x1, ⟨p, q, a7 _ _ D.TOz D.TOi1 D.TOi2 x2⟩, a3, a4, .inr ⟨_, true, a1, nz⟩⟩ a5 a6 fun c o c1 _ c3 c4 e => a7 c o c1 c3 c4 e)) (F.args_zip_next_1 _))))
theorem zn_end {z TI TO i1 i2 l1 l2 : Addr} {i : Nat} {xs ys : Array Value} {Q : Option Value → Shared → Prop} (hh : A.handled = none) (D : ZipApart z TI TO i1 i2 l1 l2) (st : ZN s.heap z TI TO i1 i2 l1 l2 i) (hl1 : s.heap.IsTuple l1 xs) (hl2 : s.heap.IsTuple l2 ys) (hend : xs[i]? = none ∨ ys[i]? = none)
    (hQ : ∀ h', (∀ c o, c ≠ z → c ≠ TO → c ≠ i1 → c ≠ i2 → s.heap.get? c = some o → h'.get? c
          = some o) → Q none { s with heap := h' }) : wpAny (model prog w) A (pyNext (.ref z)) Q E s := by
  have ty := st.type
  obtain ⟨x1, ⟨p, q, x2⟩, x3, x4, x5⟩ := st
  rcases x5 with e | ⟨T, f, e, nz⟩
  · exact pyNext_zipT_end hh D e x1 x2 x3 x4 hl1 hl2 hend hQ
  · unfold pyNext
    cases hT : s.heap.get? T with
    | none =>
      refine wpAny_bind (wpAny_attempt (wpAny_callSpecial?_slot (name := Str.ofString "__next__") ty F.slot_zip_next (wpAny_call_entry F.slot_zip_next ty F.entry_zip_next (zg_next_end hh D e hT x1 x2 x3 x4 hl1 hl2 hend fun h' e hk he => ?_) (F.args_zip_next_1 _))))
      obtain ⟨o, ho, hc⟩ := he
      exact wpAny_bind (wpAny_isInstance (T := "StopIteration") (b := true) ⟨o, ho, hc⟩ isSubtype_stop (wpAny_pure (hQ _ hk)))
    | some oT =>
      refine wpAny_bind (wpAny_attempt (wpAny_callSpecial?_slot (name := Str.ofString "__next__") ty F.slot_zip_next (wpAny_call_entry F.slot_zip_next ty F.entry_zip_next (zk_next_end hh D e hT x1 x3 x4 hl1 hl2 hend fun h' e hk he => ?_) (F.args_zip_next_1 _))))
      obtain ⟨o, ho, hc⟩ := he
      exact wpAny_bind (wpAny_isInstance (T := "StopIteration") (b := true) ⟨o, ho, hc⟩ isSubtype_stop (wpAny_pure (hQ _ hk)))
end
end Mz
namespace Mp
open PySem PySem.Spec PyProof.Rows L2 RZ
theorem turn_zipN {P : Program} {w : World} {K : PySem.W.Frag} {nm : String} {np : Pos} {a b z TI TO i1 i2 : Addr} (D : ZipApart z TI TO i1 i2 a b) :
    Turn P w K (.Name nm np) (ItzT K a b) [z, TI, TO, i1, i2] z (fun i h => Mz.ZN h z TI TO i1 i2 a b i) where
  mem := by simp
  obj := fun i h st c hc => by
    obtain ⟨v, f, hz⟩ := st.at_
    obtain ⟨hTI, ⟨x, y, hTO⟩, ⟨o1, e1, _, d1⟩, ⟨o2, e2, _, d2⟩, _⟩ := st
    rcases (show c = z ∨ c = TI ∨ c = TO ∨ c = i1 ∨ c = i2 by simpa using hc) with rfl | rfl | rfl | rfl | rfl
    · exact ⟨_, hz, fun v q => nomatch q⟩
    · exact ⟨_, hTI, fun v q => nomatch q⟩
    · exact ⟨_, hTO, fun v q => nomatch q⟩
    · exact ⟨o1, e1, fun v q => by rw [d1] at q; cases q⟩
    · exact ⟨o2, e2, fun v q => by rw [d2] at q; cases q⟩
  keep := fun i h h' st k => by
    obtain ⟨hTI, ⟨x, y, hTO⟩, h1, h2, hz⟩ := st
    refine ⟨k TI (by simp) _ hTI, ⟨x, y, k TO (by simp) _ hTO⟩, h1.at fun o q => k i1 (by simp) o q, h2.at fun o q => k i2 (by simp) o q, ?_⟩
    rcases hz with e | ⟨T, f, e, n⟩
    · exact .inl (k z (by simp) _ e)
    · exact .inr ⟨T, f, k z (by simp) _ e, n⟩
  item := by
    intro X hP hw hK hc i pins s st H E I hf tn hg
    subst hP hw hK
    obtain ⟨v, f, hz⟩ := id tn.at_
    obtain ⟨hTI, ⟨x0, y0, hTO⟩, h1, h2, _⟩ := id tn
    obtain ⟨xs, ys, x, y,
          hqx, hqy, hx, hy⟩ := hg
    obtain ⟨its, rv, p,
          _⟩ := I.tuple hqx
    obtain ⟨its2, rv2,
          p2, _⟩ := I.tuple hqy
    obtain
          ⟨u, hu, ru⟩ := rv.get hx
    obtain ⟨u2, hu2,
          ru2⟩ := rv2.get hy
    refine Mz.zn_item D tn p p2 (x := u) (y := u2) (by simpa using hu) (by simpa using hu2) fun h' tn' hT hsz hk => ?_
    have new : ObjOk X.prog X.w (upd H s.heap.objs.size (.tup [x, y])) h' s.heap.objs.size (.tup [x, y]) :=
      ⟨by show 2 ≤ sizeLine; decide, [u, u2], .cons ru (.cons ru2 .nil), ⟨_, hT, rfl, _, rfl⟩⟩
    have I1 : Inv X pins st (upd H s.heap.objs.size (.tup [x, y])) { s with heap := h' } :=
      I.turnedNew (t' := s.toks) (ch := [z, TI, TO, i1, i2]) (fun c o hb q => hk c o (fun q' => hb (by simp [q'])) (fun q' => hb (by simp [q'])) (fun q' => hb (by simp [q'])) (fun q' => hb (by simp [q'])) q) hf (Nat.le_refl _) new
    refine ⟨_, rfl, ?_⟩
    refine wpAny_pure ⟨.ref s.heap.objs.size, _, I1, rfl, ⟨_, x, y, rfl, I.hok.fresh (Nat.le_refl _), rfl, fun l hl => by rw [I.tuple_inj hl hqx]; exact hx, fun l hl => by rw [I.tuple_inj hl hqy]; exact hy⟩, tn', fun c hcm => ?_⟩
    have hlt : c < s.heap.objs.size := by
      rcases (show c = z ∨ c = TI ∨ c = TO ∨ c = i1 ∨ c = i2 by simpa using hcm) with rfl | rfl | rfl | rfl | rfl
      · exact Heap.lt_size hz
      · exact Heap.lt_size hTI
      · exact Heap.lt_size hTO
      · obtain ⟨_, e1, _⟩ := h1; exact Heap.lt_size e1
      · obtain ⟨_, e2, _⟩ := h2; exact Heap.lt_size e2
    rw [upd_ne
          (Nat.ne_of_lt hlt)]
    exact (hf c hcm).1
  done := by
    intro X hP hw hK hc i pins s st H E I hf tn hg
    subst hP hw hK
    obtain ⟨xs, ys, hqx,
          hqy, hend⟩ := hg
    obtain ⟨its, rv, p,
          _⟩ := I.tuple hqx
    obtain ⟨its2, rv2,
          p2, _⟩ := I.tuple hqy
    have l1 := rv.length
    have l2 := rv2.length
    have he : its.toArray[i]? = none
          ∨ its2.toArray[i]? = none := by
      rcases hend with q | q
      · exact .inl (by simp; omega)
      · exact .inr (by simp; omega)
    exact Mz.zn_end (I.ok.hd hc) D tn p p2 he fun h' hk => ⟨rfl, I.turnedL (t' := s.toks) (ch := [z, TI, TO, i1, i2]) (fun c o hb q => hk c o (fun q' => hb (by simp [q'])) (fun q' => hb (by simp [q'])) (fun q' => hb (by simp [q'])) (fun q' => hb (by simp [q'])) q) hf⟩
  self := fun A i
        s Q E st h => by
    have ty := st.type
    refine wpAny_pyIter_slot ty F.slot_zip_iter (wpAny_call_entry F.slot_zip_iter ty F.entry_zip_iter ?_ (F.args_zip_iter_1 _))
    show wpAny _ _ (ret
          (.ref z)) _ _ s
    exact wpAny_pure ⟨_, rfl, "zip", _, ty, F.slot_zip_next.lookup, h⟩
def iZipN (K : PySem.W.Frag) (ta : TA) : TI := fun st H R => ta st H fun vs H1 => ∃ a b xs ys, vs = [.ref a, .ref b] ∧ SqT K H1 a xs ∧ SqT K H1 b ys ∧ R (ItzT K a b) H1
theorem pi_zipN {X : Cx} {e e2 : Expr} {ta : TA} {p pos np : Pos} {nm : String} (hg : Gl X "zip") (hm : X.mg "zip" = none) (ha : PA X [e, e2] ta)
    (hs : starEach [e, e2] X.env = (false, eval e X.env) :: starEach [e2] X.env :=
          by rfl) (hpl : (backTo pos (starEach [e2] X.env)).any (·.1) = false := by rfl) :
    PI X (.Name nm np) (.Call (.Name "zip" p) [e, e2] [] pos) (iZipN X.K ta) := by
  refine ⟨fun pins s st H R I h => ?_⟩
  refine Call_ (ld_blt I hg hm PyProof.Rows.boot_zip (PyProof.Rows.callWith_type1 (thn (ha.run pos pins s st H _ I h) fun us s1 ⟨vs, H1, I1, r1, q1⟩ => ?_) hs hpl))
  obtain ⟨a, b, xs, ys, rfl, hqx, hqy, q⟩ := q1
  cases r1 with
  | cons r rr =>
    cases rr with
    | cons r' rr =>
      cases rr
      cases r
      cases r'
      obtain ⟨its, rv, p1, _⟩ := I1.tuple hqx
      obtain ⟨its2, rv2, p2,
            _⟩ := I1.tuple hqy
      obtain ⟨o1, ho1, _⟩ := id p1
      obtain ⟨o2, ho2, _⟩ := id p2
      refine call_zipT (show s1.heap.IsTuple a its.toArray from p1) (show s1.heap.IsTuple
            b its2.toArray from p2) fun h' hz hTI hTO h1 h2 hsz hk => wpAny_pyIter_zip hz ?_
      refine ⟨s1.heap.objs.size + 4, [s1.heap.objs.size + 4, s1.heap.objs.size + 2, s1.heap.objs.size + 3, s1.heap.objs.size, s1.heap.objs.size + 1], _, _, H1, rfl, I1.kept (t' := s1.toks) hk, turn_zipN (PySem.W.ktu_apart s1.heap.objs.size a b (Heap.lt_size ho1) (Heap.lt_size ho2)), ⟨hTI, ⟨_, _, hTO⟩, h1, h2, .inl hz⟩, fun c hcm => ?_, q⟩
      have hle :
            s1.heap.objs.size ≤ c := by
        rcases (show c = s1.heap.objs.size + 4 ∨ c = s1.heap.objs.size + 2 ∨ c = s1.heap.objs.size + 3 ∨ c = s1.heap.objs.size ∨ c = s1.heap.objs.size + 1 by simpa using hcm) with z | z | z | z | z <;> rw [z] <;> omega
      exact I1.fpOk hle
            (I1.hok.fresh hle)
section
variable {X : Cx} {g : Gx} {pos : Pos}
/-- zip over two tuples, each pair under one name -/
theorem di_zipN {e e2 : Expr} {m m2 : ME} {p np : Pos} {nm : String} (hK : g.K = X.K) (hg : Gl X "zip") (hm : X.mg "zip" = none) (ha : PE X e (tD g m)) (hb : PE X e2 (tD g m2))
    (hs : starEach [e, e2] X.env = (false, eval e X.env) :: starEach [e2] X.env := by rfl) (hs2 : starEach [e2] X.env = (false, eval e2 X.env) :: starEach [] X.env := by rfl) (hpl : (backTo pos (starEach [e2] X.env)).any (·.1) = false := by rfl) :
    PI X (.Name nm np) (.Call (.Name "zip" p) [e, e2] [] pos) (iD g (iZipT m m2)) := by
  refine PI.weak (pi_zipN hg hm (d_cons ha (d_cons hb d_nil hs2) hs) hs hpl) fun st H R h => ?_
  obtain ⟨z, r, S, sl, src, S', R0, e, q⟩ := h
  simp only [iZipT, Option.bind_eq_some_iff, Option.map_eq_some_iff] at e
  obtain ⟨⟨v, S1⟩, e1, ⟨w, S2⟩, e3, xs, f1, ys, f2, f3⟩ := e
  cases f3
  dsimp only at e3 f1 f2 q
  refine ⟨z, r, S, sl, [v, w], S2, R0, by simp [esCons, esNil, e1, e3], fun r1 H1 hv s1 sr1 rv => ?_⟩
  cases rv with
  | cons a b =>
    cases b with
    | cons b c =>
      cases c
      obtain ⟨p, vs, rfl, h1, h2, h3⟩ := tupOf_at a f1
      obtain ⟨p', ws, rfl, k1, k2, k3⟩ := tupOf_at b f2
      have h1' := h1
      have k1' := k1
      rw [show (g.at z).K = X.K from hK] at h1' k1'
      exact ⟨_, _, _, _, rfl, h1', k1', q r1 H1 _ s1 sr1 (it_zip (g := g.at z) hK sr1 h1 h2 h3 k1 k3)⟩
end
end Mp
namespace Mp
open PySem PySem.Spec
      PyProof.Rows L2
/-- a f b f' c -/
def tChainM (f f' : Sto → Val → Val → Option Val) (ma mb mc : ME) : MT := fun sl S => (ma sl S).bind fun p => (mb sl p.2).bind fun q => (f q.2 p.1 q.1).bind fun v => match v with
  | .bl true => (mc sl q.2).bind fun t => (f' t.2 q.1 t.1).bind fun w => match w with
    | .bl k => some (k, t.2)
    | _ => none
  | .bl false => some (false, q.2)
  | _ => none
/-- a + b, both tuples -/
def fAddP (S : Sto) (a b : Val) : Option Val := (tupOf a).bind fun xs => (tupOf b).bind fun ys => if xs.length + ys.length ≤ sizeLine then some (.tup (xs ++ ys)) else none
section
variable {X : Cx} {g : Gx} {pos : Pos}
theorem o_addP (hK : g.K = X.K) : OpR X (binaryOp .Add) (rG2 g fAddP) := by
  intro pins s st H x y v u Q I rx ry hh
  obtain ⟨z, r, S, a, b, w, sr, ra, rb, e, q⟩ := hh
  simp only [fAddP, Option.bind_eq_some_iff] at e
  obtain ⟨xs, e1, ys, e2, e3⟩ := e
  split at e3
  · rename_i c
    cases e3
    obtain ⟨a1, vs1, rfl, h1, l1, s1⟩ := tupOf_at ra e1
    obtain ⟨a2, vs2, rfl, h2, l2, s2⟩ := tupOf_at rb e2
    have h1' := h1
    have h2' := h2
    rw [show (g.at z).K = X.K from hK] at h1 h2
    refine op_catA pins s st H _ _ v u Q I rx ry ⟨a1, a2, vs1, vs2, rfl, rfl, h1, h2, by rw [← s1.length, ← s2.length]; exact c, fun z => ?_, fun _ z => ?_, fun _ _ p hp => ?_⟩
    · subst z
      cases s1
      exact q r H _ (.refl r H) sr (.tup h2' l2 s2)
    · subst z
      cases s2
      rw [List.append_nil] at q
      exact q r H _ (.refl r H) sr (.tup h1' l1 s1)
    · exact q r _ (.ref p) (Step.new1 hp) (sr.beside hp) (RV.newT sr hp (by simpa using c) (s1.append s2))
  · cases e3
/-- a text that the module keeps under a name -/
theorem d_gstr {x : Str} {z : Str} {tk : Tok} (hg : Gl X x) (hm : X.mg x = some (.str z tk)) (hd : (x == ("__debug__" : Str)) = false := by decide) : PE X (.Name x pos) (tD g (eCon (.str z))) :=
  d_con (pe_glob hg hm (show RelV (.str z) (.str z tk) from ⟨tk, rfl⟩) hd) fun _ _ _ => .str z
/-- the name of a type, as a value -/
theorem d_ty {t : String} {x : Str} (hg : Gl X x) (hm : X.mg x = none) (hv : bootBuiltins x = some (.type t) := by decide +kernel) (hn : x ≠ "__name__" := by decide) (hdb : (x == ("__debug__" : Str)) = false := by decide) : PE X (.Name x pos) (tD g (eCon (.ty t))) :=
  d_con (hv := .ty t) ⟨fun pins s st H Q I h => ld_blt I hg hm hv ⟨.ty t, H, I, rfl, h⟩ hn hdb⟩ fun _ _ _ => .ty t
theorem dt_chain {op op' : CmpOp} {f f' : Sto → Val → Val → Option Val} {a b c : Expr} {ma mb mc : ME} (ho : OpR X (compareOp op) (rG2 g f)) (ho' : OpR X (compareOp op') (rG2 g f')) (ha : PE X a (tD g ma)) (hb : PE X b (tD g mb)) (hc : PE X c (tD g mc))
    (hm : lastMarks [op, op'] [b, c] = false := by with_unfolding_all rfl) : PT X (.Compare a [op, op'] [b, c] pos) (tDt g (tChainM f f' ma mb mc)) := by
  refine PT.weak (pt_chain ho ho' ha hb hc hm) fun st H Q h => ?_
  obtain ⟨z, r, S, sl, k, S', R, e, q⟩ := h
  simp only [tChainM, Option.bind_eq_some_iff] at e
  obtain ⟨⟨x1, T1⟩, e1, ⟨x2, T2⟩, e2, v, e3, e4⟩ := e
  dsimp only at e2 e3 e4
  refine ⟨z, r, S, sl, x1, T1, R, e1, fun r1 H1 x st1 sr1 rx => ⟨z, r1, T1, sl, x2, T2, R.step st1 sr1, e2, fun r2 H2 y st2 sr2 ry => ?_⟩⟩
  refine ⟨z, r2, T2, x1, x2, v, sr2, rx.mono st2 sr1.own, ry, e3, fun r3 H3 hv st3 sr3 rv => ?_⟩
  split at e4
  · cases rv
    simp only [Option.bind_eq_some_iff] at e4
    obtain ⟨⟨x3, T3⟩, e5, w, e6, e7⟩ := e4
    dsimp only at e6 e7
    refine ⟨true, rfl, ?_⟩
    rw [if_pos rfl]
    refine ⟨z, r3, T2, sl, x3, T3, (R.step st1 sr1).step (st2.trans st3) sr3, e5, fun r4 H4 w' st4 sr4 rw4 => ?_⟩
    refine ⟨z, r4, T3, x2, x3, w, sr4, (ry.mono st3 sr2.own).mono st4 sr3.own, rw4, e6, fun r5 H5 hv5 st5 sr5 rv5 => ?_⟩
    split at e7
    · cases e7
      cases rv5
      exact ⟨_, rfl, q r5 H5 (st1.trans (st2.trans (st3.trans (st4.trans st5)))) sr5⟩
    · cases e7
  · cases e4
    cases rv
    refine ⟨false, rfl, ?_⟩
    rw [if_neg
          Bool.false_ne_true]
    exact ⟨_, rfl, q r3 H3 (st1.trans (st2.trans st3)) sr3⟩
  · cases e4
end
end Mp
namespace Mt2
open PySem PySem.W
      PySem.Calls PyProof.Rows
section
variable {prog : Program}
      {w : World} {A : Around} {E : Value → Shared → Prop} {s : Shared}
/-- the new list into which a tuple's items go -/
theorem from_tuple {a : Addr} {vs : List Value} {Q : List Value → Shared → Prop} (ht : s.heap.IsTuple a vs.toArray) (hz : vs.length ≤ sizeLine)
    (h : Q vs { s with heap := (s.heap.push (seqObj "list" #[] 0)).update s.heap.objs.size (Obj.mapSeq (· ++ vs.toArray)) }) : wpAny (model prog w) A (collect (.ref a)) Q E s := by
  obtain ⟨o, h1, h2, n, h3⟩ := ht
  have old : (s.heap.push (seqObj "list" #[] 0)).get? a = some o := Heap.get?_push_of_some _ h1
  have new : (s.heap.push (seqObj "list" #[] 0)).get? s.heap.objs.size = some (seqObj "list" #[] 0) := Heap.get?_push_size _ rfl
  unfold collect
  refine wpAny_bind (wpAny_runValue (codeAny_builtin entry_proto_collect' (show wpAny _ _ (do again (.builtin "list.__iadd__" ⟨[← newList [], .ref a], []⟩)) _ _ s from wpAny_bind (wpAny_newList (wpAny_pure ⟨Code.quiet_builtin _ (by decide +kernel), codeAny_builtin entry_list_iadd' ?_⟩)))))
  show wpAny _ _ (Builtin.List.listExtendWith (.ref s.heap.objs.size) (.ref a) (.ref s.heap.objs.size)) _ _ { s with heap := s.heap.push (seqObj "list" #[] 0) }
  unfold
        Builtin.List.listExtendWith
  refine wpAny_bind (wpAny_typeOf (T := "tuple") ⟨o, old, h2⟩ ?_)
  have two : (Value.type "tuple" == Value.type "tuple") = true := by rfl
  rw [if_pos (by rw [two]; simp)]
  refine wpAny_bind (listItems_at old h3 (wpAny_bind (listItems_at (xs := #[]) (n := 0) new rfl ?_)))
  rw [if_neg (by simp)]
  refine wpAny_bind (listUpdate_at (xs := #[]) (n := 0) new rfl (wpAny_pure ?_) (Nat.zero_le _) (by show (#[] ++ vs.toArray).size ≤ sizeLine + 1; simp only [Array.size_append, List.size_toArray, List.length_nil]; omega))
  have at_ := get?_update_seq new (· ++ vs.toArray)
  show wpAny (model prog w) A (load s.heap.objs.size >>= fun o => match o.data with
      | .seq xs _ => pure xs.toList
      | _ => unsupported "internal:collect") Q E
            { s with heap := (s.heap.push (seqObj "list" #[] 0)).update s.heap.objs.size (Obj.mapSeq (· ++ vs.toArray)) }
  refine wpAny_bind (wpAny_load at_ ?_)
  show wpAny _ _ (pure ((#[] : Array
        Value) ++ vs.toArray).toList) Q E _
  have e : ((#[] : Array Value) ++ vs.toArray).toList = vs := by simp
  rw [e]
  exact wpAny_pure h
variable {β : Type} {vs : List Value} {bs : List β} {enc : β → PyData} {R : Value → β → Prop}
theorem sorted_tuple {l : Addr} {Q : Value → Shared → Prop} (hl : s.heap.IsTuple l vs.toArray) (e : EachIs R vs bs) (er : EachIs (fun v b => ∃ as, Reads s.heap v (enc b) as) vs bs)
    (hal : AllAlike (bs.map enc)) (hk : Mt.Sort2 (bs.map enc)) (hL : bs.length ≤ sizeLine) (hu : ∀ b, b ∈ bs → A.units + 2 + (enc b).depth < cLine)
    (h : ∀ out, out.length = bs.length → EachIs R out (bs.mergeSort (dataLe false enc)) → Q (.ref (s.heap.objs.size + 1)) { s with heap := sortedAll s.heap vs (List.toArray out) }) : wpAny (model prog w) A (call (.builtin "sorted") [.ref l]) Q E s := by
  have er2 := er.mono fun _ _ ⟨as, r⟩ => (⟨as, PyProof.Rows.Reads.keeps (fun _ _ => sorting_copy_old) r⟩ : ∃ as, Reads (sortingHeap (copyHeap s.heap vs) (s.heap.objs.size + 1) vs) _ _ as)
  have so := Mt.SortsAt_two (prog := prog) (w := w) (A := A.in1.in1) (s := { s with heap := sortingHeap (copyHeap s.heap vs) (s.heap.objs.size + 1) vs }) (each_map (R := fun v d => ∃ as, Reads (sortingHeap (copyHeap s.heap vs) (s.heap.objs.size + 1) vs) v d as) enc er2) hal hk (bound_map hu)
  have hv : vs.length ≤ sizeLine := by rw [e.length]; exact hL
  refine call_function_entry_kw kind_sorted plain_sorted entry_sorted (args_sorted1 _) ?_
  unfold Builtin.«sorted»
  refine wpAny_bind (m := checkCount "sorted" 1 1 _) (wpAny_pure (wpAny_bind (from_tuple hl hv (wpAny_bind (wpAny_newList ?_ hv)))))
  have sz : ((s.heap.push (seqObj "list" #[] 0)).update s.heap.objs.size (Obj.mapSeq (· ++ vs.toArray))).objs.size = s.heap.objs.size + 1 := by
    rw [Heap.size_update,
          size_push']
  show wpAny _ _ _ _ _
        { s with heap := copyHeap s.heap vs }
  rw [sz]
  refine wpAny_bind (wpAny_holding (wpAny_call_entry_kw slot_list_sort ⟨_, copyHeap_at s.heap vs, rfl⟩ entry_list_sort ?_ (args_list_sort _)))
  refine wpAny_mono (list_sort_vals (P := fun f s' => f = .done (.ret .none) ∧ Q (.ref (s.heap.objs.size + 1)) s') (E := E) (s := { s with heap := copyHeap s.heap vs }) (copyHeap_at s.heap vs) so hv ⟨rfl, h _ (by rw [sortVals_length false rfl]; exact e.length) (sortVals_data false e er2 hal)⟩) (fun f s' hf => ?_) fun _ _ e => e
  obtain ⟨rfl, hq⟩ := hf
  exact ⟨_, rfl, wpAny_pure
        ⟨_, rfl, hq⟩⟩
end
end Mt2
namespace Mp
open PySem PySem.Spec
      PyProof.Rows L2
/-- sorted of a tuple -/
def fSortT : FN := fun S xs => match xs with
  | [.tup ys] => (toKs ys).bind fun ks => if sortOk ks then some (.lst (ofKs (ks.mergeSort keyLe))) else none
  | _ => none
/-- a list so many times -/
def fRep (S : Sto) (a b : Val) : Option Val := match b with
  | .int k => (lstOf S a).bind fun xs => if 0 ≤ k ∧ k ≤ 1000 ∧ xs.length ≤ 1000 then some (.lst (List.replicate k.toNat xs).flatten) else none
  | _ => none
theorem rvs_rep {g : Gx} {r : List Addr} {H : Hp} {xs : List Val} {vs : List V} (h : RVs g r H xs vs) : ∀ n : Nat, RVs g r H (List.replicate n xs).flatten (List.replicate n vs).flatten
  | 0 => .nil
  | n + 1 => by
    rw [List.replicate_succ, List.replicate_succ,
          List.flatten_cons, List.flatten_cons]
    exact h.append (rvs_rep h n)
section
variable {X : Cx} {g : Gx} {pos : Pos}
theorem o_rep : OpR X (binaryOp .Mult) (rG2 g fRep) := by
  intro pins s st H x y v u Q I rx ry hh
  obtain ⟨z, r, S, a, b, w, sr, ra, rb, e, q⟩ := hh
  unfold fRep at e
  split at e
  · rename_i k
    simp only [Option.bind_eq_some_iff] at e
    obtain ⟨xs, e1, e2⟩ := e
    split at e2
    · rename_i c
      cases e2
      cases rb
      obtain ⟨p, vs, rfl, hp, _, hs⟩ := lstOf_at sr ra e1
      have big : (1000000 : Nat) ≤ sizeLine := by unfold sizeLine; decide
      have hl : vs.length * k.toNat ≤ sizeLine := by
        rw [← hs.length]
        have a1 : xs.length * k.toNat ≤ 1000 * 1000 := Nat.mul_le_mul c.2.2 (by omega)
        omega
      refine op_rep pins s st H _ _ v u Q I rx ry ⟨p, k, vs, rfl, rfl, hp, by omega, by omega, hl, fun l hn => ?_⟩
      refine q r _ (.ref l) (Step.new1 hn) (sr.beside hn) (RV.newL sr hn ?_ (rvs_rep hs _))
      rw [(rvs_rep hs _).length, List.length_flatten, List.map_replicate, List.sum_replicate_nat, Nat.mul_comm]
      exact hl
    · cases e2
  · cases e
theorem c_sortT (hK : g.K = X.K) (hu : X.A.units + 20 < cLine) : CallR X (.builtin "sorted") (rGn g fSortT) := by
  intro pins s st H vs us Q I rs h
  obtain ⟨z, r, S, xs, v, sr, rx, e, q⟩ := h
  unfold fSortT at e
  split at e
  · rename_i ys
    simp only [Option.bind_eq_some_iff] at e
    obtain ⟨ks, e2, e3⟩ := e
    split at e3
    · rename_i ok
      cases e3
      unfold sortOk at ok
      rw [Bool.and_eq_true, Bool.and_eq_true] at ok
      obtain ⟨⟨al, so⟩, dp⟩ := ok
      cases rx with
      | cons a b =>
        cases b
        cases a with
        | @tup p _ ws hp hz hs =>
          obtain ⟨L, l1, rfl, l3⟩ := kv_each hs e2
          obtain ⟨u, rfl, ru⟩ := vals1 rs
          cases ru
          rw [show (g.at z).K = X.K from hK] at hp
          obtain ⟨its, rv, pl, _⟩ := I.tuple hp
          have ea := vals_each rv
          have lL : L.length ≤ sizeLine := by rw [← hs.length.trans (List.length_map _)]; exact hz
          have dat : L.map (fun p => p.1.data) = ks.map NestedKey.data := by rw [← l1, List.map_map]; rfl
          have inks : ∀ p ∈ L, p.1 ∈ ks := fun p hp => by rw [← l1]; exact List.mem_map_of_mem hp
          refine Mt2.sorted_tuple (bs := L) (enc := fun p => p.1.data) (R := fun u p => RelV p.2 u) pl ea (each_and ea fun u p hp hr => ⟨[], (RV.key (g := g.at z) hK I (l3 p hp) hr (toK_ofK p.1)).2⟩) ?_ ?_ lL (fun p hp => ?_) fun out h1 h2 => ?_
          · rw [dat]
            intro d hd d' hd'
            obtain ⟨k, hk, rfl⟩ := List.mem_map.mp hd
            obtain ⟨k', hk', rfl⟩ := List.mem_map.mp hd'
            exact alikeKeys_at al hk hk'
          · rw [dat]
            exact sortableKeys_ok so
          · have := List.all_eq_true.mp dp p.1 (inks p hp)
            rw [data_depth]
            simp at this
            omega
          · obtain ⟨c, hc⟩ := PyProof.Rows.sortedAll_at s.heap its out.toArray
            have free : H (s.heap.objs.size + 1) = none := I.hok.fresh (Nat.le_succ _)
            have vs' := each_vals h2
            have len : (L.mergeSort (PySem.W.dataLe false fun p => p.1.data)).length = L.length := List.length_mergeSort _
            have J : Inv X pins st (upd H (s.heap.objs.size + 1) (.lst ((L.mergeSort (PySem.W.dataLe false fun p => p.1.data)).map (·.2)))) { s with heap := PyProof.Rows.sortedAll s.heap its out.toArray } :=
              I.laid (t' := s.toks) (fun _ _ => PyProof.Rows.sortedAll_old) (Nat.le_succ _) ⟨by rw [List.length_map, len]; exact lL, out, c, vs', hc⟩
            have keys : (L.mergeSort (PySem.W.dataLe false fun p => p.1.data)).map (·.1) = ks.mergeSort keyLe := by
              rw [List.map_mergeSort (r := PySem.W.dataLe false fun p : KV1 => p.1.data) (s := keyLe) (f := fun p : KV1 => p.1) (l := L) (fun a _ b _ => rfl), l1]
            refine ⟨.ref (s.heap.objs.size + 1), _, J, rfl, q r _ (.ref _) (Step.new1 free) (sr.beside free) ?_⟩
            rw [← keys]
            refine RV.newL sr free ?_ (kv_rvs fun p hp => l3 p ((List.mergeSort_perm _ _).mem_iff.mp hp))
            rw [ofKs_map, List.length_map, List.length_map, len]
            exact lL
    · cases e3
  · cases e
end
end Mp
namespace HT2
open PySem PySem.W PyProof.Rows L2 HT
/-- each second item -/
def two {α : Type} (xs : List α) : List α := (List.range (Builtin.Slice.slicePlaces 0 (xs.length : Int) 2)).filterMap fun (m : Nat) => xs[((0 : Int) + (m : Int) * 2).toNat]?
section
variable {prog : Program}
      {w : World} {A : Around} {E : Value → Shared → Prop} {s : Shared}
theorem applied_two {sl : Addr} {u : Tok} {n : Nat} {Q : Int × Int × Nat → Shared → Prop} (hs : s.heap.IsSliceOf sl .none .none (.int 2 u)) (h : Q (0, 2, Builtin.Slice.slicePlaces 0 (n : Int) 2) s) : wpAny (model prog w) A (Builtin.Slice.sliceApplied (.ref sl) (pure (n : Int))) Q E s := by
  obtain ⟨os, o1, o2, o3⟩ := id hs
  unfold Builtin.Slice.sliceApplied
        Builtin.Slice.sliceFields
  refine wpAny_bind (wpAny_bind (wpAny_field o1 o3 (x := .none) rfl (wpAny_bind (wpAny_field o1 o3 (x := .none) rfl (wpAny_bind (wpAny_field o1 o3 (x := .int 2 u) rfl (wpAny_pure ?_)))))))
  refine wpAny_bind (slicePart_ (.int 2 u) ?_)
  show wpAny _ _ (if ((2 : Int) == 0) = true then _ else _) _ _ s
  rw [if_neg (by decide)]
  refine wpAny_bind (slicePart_ .none (wpAny_bind (slicePart_ .none (wpAny_bind (wpAny_pure ?_)))))
  exact wpAny_pure h
theorem getItem_two {t sl : Addr} {items : Array Value} {u : Tok} {Q : Value → Shared → Prop} (ht : IsTup s.heap t items) (hs : s.heap.IsSliceOf sl .none .none (.int 2 u))
    (h : Q (.ref s.heap.objs.size) { s with heap := s.heap.push { cls := .type "tuple", data := .seq (two items.toList).toArray } }) (hz : (two items.toList).length ≤ sizeLine) : wpAny (model prog w) A (getItem (.ref t) (.ref sl)) Q E s := by
  have ok : sizeOk (.seq (two items.toList).toArray) := by
    show (two items.toList).toArray.size ≤ sizeLine
    rw [List.size_toArray]
    exact hz
  obtain ⟨os, o1, o2, o3⟩ := id hs
  unfold getItem
  try with_reducible
        refine wpAny_holding ?_
  first | (refine wpAny_bind ?_; refine wpAny_pure ?_) | skip
  refine wpAny_bind (wpAny_sequenceKey ht.typeIs (by decide) (wpAny_bind (wpAny_callSpecial?_slot (name := Str.ofString "__getitem__") ht.typeIs PyProof.Rows.slot_tuple_getitem
    (wpAny_call_entry PyProof.Rows.slot_tuple_getitem ht.typeIs entry_tuple_getitem ?_ (args_tuple_getitem _ _)))))
  show wpAny _ _ (Builtin.Tuple.tupleItemsOf
        (.ref t) >>= _) _ _ s
  refine wpAny_bind (tupleItemsOf_ ht (wpAny_bind (wpAny_typeOf (T := "slice") ⟨os, o1, o2⟩ ?_)))
  rw [if_pos (by decide)]
  refine wpAny_bind (applied_two hs ?_)
  show wpAny _ _ (if (((0 : Int) == 0 && (2 : Int) == 1 && Builtin.Slice.slicePlaces 0 (items.size : Int) 2 == items.size) = true) then _ else _) _ _ s
  rw [if_neg (by simp)]
  have e : ((List.range (Builtin.Slice.slicePlaces 0 (items.size : Int) 2)).filterMap fun (m : Nat) => items[((0 : Int) + (m : Int) * 2).toNat]?).toArray = (two items.toList).toArray := by
    unfold two
    rw [Array.length_toList]
    have f : (fun m : Nat => items[((0 : Int) + (m : Int) * 2).toNat]?) = fun m : Nat => items.toList[((0 : Int) + (m : Int) * 2).toNat]? := by
      funext m
      rw [Array.getElem?_toList]
    rw [f]
  rw [e]
  first
    | exact wpAny_bind (m := Builtin.Tuple.tupleExact _) (wpAny_newObj_type (wpAny_pure ⟨_, rfl, wpAny_pure h⟩) ok)
    | exact wpAny_bind (m := Builtin.Tuple.tupleExact _) (wpAny_newObj_type (wpAny_bind (wpAny_pure (wpAny_pure ⟨_, rfl, wpAny_pure h⟩))) ok)
    | exact wpAny_bind (wpAny_bind (m := Builtin.Tuple.tupleExact _) (wpAny_newObj_type (wpAny_pure (wpAny_pure ⟨_, rfl, wpAny_pure h⟩)) ok))
    | exact wpAny_bind (wpAny_bind (m := Builtin.Tuple.tupleExact _) (wpAny_newObj_type (wpAny_pure ⟨_, rfl, wpAny_pure h⟩) ok))
end
end HT2
namespace Mp
open PySem PySem.Spec
      PyProof.Rows L2
theorem two_len {α : Type} (xs : List α) : (HT2.two xs).length ≤ xs.length := by
  have h1 : (HT2.two xs).length ≤ Builtin.Slice.slicePlaces 0 (xs.length : Int) 2 := by
    unfold HT2.two
    refine Nat.le_trans (List.length_filterMap_le _ _) ?_
    rw [List.length_range]
    exact Nat.le_refl _
  have h2 : Builtin.Slice.slicePlaces 0 (xs.length : Int) 2 ≤ xs.length := by
    unfold
          Builtin.Slice.slicePlaces
    simp only [show ((2 : Int) > 0) = True from by simp, if_true]
    split <;> omega
  exact Nat.le_trans h1 h2
theorem two_mem {α : Type} {xs : List α} {x : α} (h : x ∈ HT2.two xs) : x ∈ xs := by
  unfold HT2.two at h
  obtain ⟨m, _, e⟩ := List.mem_filterMap.mp h
  exact List.mem_of_getElem? e
theorem rvs_pick {g : Gx} {r : List Addr} {H : Hp} {xs : List Val} {vs : List V} (h : RVs g r H xs vs) (f : Nat → Nat) : ∀ l : List Nat, RVs g r H (l.filterMap fun m => xs[f m]?) (l.filterMap fun m => vs[f m]?)
  | [] => .nil
  | m :: l => by
    have ih := rvs_pick h f l
    cases e : xs[f m]? with
    | none =>
      have e2 : vs[f m]? = none := by
        rw [List.getElem?_eq_none_iff] at e ⊢
        rw [← h.length]
        exact e
      simp only [List.filterMap_cons, e, e2]
      exact ih
    | some x =>
      obtain ⟨v, e2, rv⟩ := h.get e
      simp only [List.filterMap_cons, e, e2]
      exact .cons rv ih
theorem rvs_two {g : Gx} {r : List Addr} {H : Hp} {xs : List Val} {vs : List V} (h : RVs g r H xs vs) : RVs g r H (HT2.two xs) (HT2.two vs) := by
  unfold HT2.two
  rw [h.length]
  exact rvs_pick h _ _
def eTwo (m : ME) : ME := fun sl S => (m sl S).bind fun p => match p.1 with
  | .tup xs => some (.tup (HT2.two xs), p.2)
  | _ => none
def eRev (m : ME) : ME := fun sl S => (m sl S).bind fun p => (lstOf p.2 p.1).map fun xs => (.lst xs.reverse, p.2)
section
variable {X : Cx} {g : Gx} {pos : Pos}
def tTwo (K : PySem.W.Frag) (te : TE) : TE := fun σ H Q => te σ H fun x H1 => ∃ a xs, x = .ref a ∧ SqT K H1 a xs ∧ ∀ p, H1 p = none → Q (.ref p) (upd H1 p (.tup (HT2.two xs)))
theorem vals_pick {vs : List V} {us : List Value} (h : Vals vs us) (f : Nat → Nat) : ∀ l : List Nat, Vals (l.filterMap fun m => vs[f m]?) (l.filterMap fun m => us[f m]?) := by
  intro l
  induction l with
  | nil => exact .nil
  | cons m l ih =>
    have hl := h.length
    cases e : vs[f m]? with
    | none =>
      have e2 : us[f m]? = none := by
        rw [List.getElem?_eq_none_iff] at e ⊢
        omega
      simp only [List.filterMap_cons, e, e2]
      exact ih
    | some x =>
      obtain ⟨u, e2, rv⟩ := h.get e
      simp only [List.filterMap_cons, e, e2]
      exact .cons rv ih
theorem pe_two {e : Expr} {te : TE} {k : Nat} {p1 p3 : Pos} (he : PE X e te) : PE X (.Subscript e (.Slice none none (some (.Constant (.int 2) k p1)) p3) pos) (tTwo X.K te) := by
  refine ⟨fun pins s
        σ H Q I h => ?_⟩
  refine Subscript_ (thn (he.run pins s σ H
        _ I h) fun v s1 ⟨x, H1, I1, r1, q1⟩ => ?_)
  obtain ⟨a, xs, rfl, hx, q⟩ := q1
  cases r1
  have part : PO X (some (.Constant (.int 2) k p1)) (tPart (tC (.int 2))) := po_some pe_int
  refine wpAny_Slice (thn (po_none.run pins s1 σ H1 (fun o H2 => o = none
        ∧ H2 = H1) I1 ⟨rfl, rfl⟩) fun vl s2 ⟨l, H2, I2, pl, el, e2⟩ => ?_)
  subst el e2
  refine thn (po_none.run pins s2 σ H2 (fun o H3 => o = none ∧ H3
        = H2) I2 ⟨rfl, rfl⟩) fun vu s3 ⟨u, H3, I3, pu, eu, e3⟩ => ?_
  subst eu e3
  refine thn (part.run pins s3 σ H3 (fun o H4 => o = some 2 ∧ H4 = H3) I3 ⟨2, rfl, rfl, rfl⟩) fun vs s4 ⟨o, H4, I4, ps, eo, e4⟩ => ?_
  subst eo e4
  cases pl
  cases pu
  cases ps with
  | int _ tk =>
    have I5 : Inv X pins σ H4 { s4 with heap := s4.heap.push { cls := .type "slice", data := .fields #[.none, .none, .int 2 tk] } } := I4.kept (t' := s4.toks) fun b ob q => Heap.get?_push_of_some _ q
    obtain ⟨its, r, ht, hz⟩ := I5.tuple hx
    show wpAny (model X.prog X.w) X.A (subscriptTail e (.Slice none none (some (.Constant (.int 2) k p1)) p3) (.ref a) (.ref s4.heap.objs.size)) (EP X pins σ Q) X.xe { s4 with heap := s4.heap.push { cls := .type "slice", data := .fields #[.none, .none, .int 2 tk] } }
    refine tail_any (ops := [.ref a, .ref s4.heap.objs.size]) ht.typeIs (PyProof.Rows.slot_tuple_getitem.lookup) ?_ (by with_unfolding_all rfl)
    have hn : (HT2.two its).length ≤ sizeLine := by
      have := two_len its
      have := r.length
      omega
    refine HT2.getItem_two ht (Heap.IsSliceOf.new _ .none .none (.int 2 tk)) ?_ hn
    refine ⟨.ref _, _, I5.laid (t' := s4.toks) (o := .tup (HT2.two xs)) (fun b ob q => Heap.get?_push_of_some _ q) (Nat.le_refl _) ?_, rfl, q _ (I5.hok.fresh (Nat.le_refl _))⟩
    refine ⟨Nat.le_trans (two_len xs) (by have := r.length; omega), HT2.two its, ?_, IsTup.new _ _⟩
    unfold HT2.two
    rw [r.length]
    exact vals_pick r _ _
theorem d_two {e : Expr} {m : ME} {k : Nat} {p1 p3 : Pos} (hK : g.K = X.K) (he : PE X e (tD g m)) : PE X (.Subscript e (.Slice none none (some (.Constant (.int 2) k p1)) p3) pos) (tD g (eTwo m)) := by
  refine PE.weak (pe_two he) fun st H Q h => ?_
  obtain ⟨z, r, S, sl, v, S', R, e, q⟩ := h
  simp only [eTwo, Option.bind_eq_some_iff] at e
  obtain ⟨⟨x, S1⟩, e1, e2⟩ := e
  refine ⟨z, r, S, sl, x, S1, R, e1, fun r1 H1 hv s1 sr1 rv => ?_⟩
  dsimp only at e2
  split at e2
  · cases e2
    cases rv with
    | @tup a _ vs h1 h2 h3 =>
      rw [show (g.at z).K = X.K from hK] at h1
      exact ⟨a, vs, rfl, h1, fun p hp => q r1 _ (.ref p) (s1.trans (Step.new1 hp)) (sr1.beside hp) (RV.newT sr1 hp (Nat.le_trans (two_len _) h2) (rvs_two h3))⟩
  · cases e2
theorem rvs_rev {r : List Addr} {H : Hp} : ∀ {xs : List Val} {vs : List V}, RVs g r H xs vs → RVs g r H xs.reverse vs.reverse
  | _, _, .nil => .nil
  | _, _, .cons h t => by
    rw [List.reverse_cons,
          List.reverse_cons]
    exact (rvs_rev t).append (.cons h .nil)
theorem d_rev {e : Expr} {m : ME} {k : Nat} {p1 p2 p3 : Pos} (hK : g.K = X.K) (he : PE X e (tD g m)) : PE X (.Subscript e (.Slice none none (some (.UnaryOp .USub (.Constant (.int 1) k p1) p2)) p3) pos) (tD g (eRev m)) := by
  refine PE.weak (pe_revL he) fun st H Q h => ?_
  obtain ⟨z, r, S, sl, v, S', R, e, q⟩ := h
  simp only [eRev, Option.bind_eq_some_iff, Option.map_eq_some_iff] at e
  obtain ⟨⟨x, S1⟩, e1, xs, e2, e3⟩ := e
  cases e3
  refine ⟨z, r, S, sl, x, S1, R, e1, fun r1 H1 hv s1 sr1 rv => ?_⟩
  obtain ⟨a, vs, rfl, h1, h2, h3⟩ := lstOf_at sr1 rv e2
  exact ⟨a, vs, rfl, .inl (.inl h1), fun p hp => q r1 _ (.ref p) (s1.trans (Step.new1 hp)) (sr1.beside hp) (RV.newL (g := g.at z) sr1 hp (by rw [List.length_reverse]; exact h2) (rvs_rev (g := g.at z) h3))⟩
end
end Mp
namespace Mp
open PySem PySem.Spec
      PyProof.Rows L2
/-! ### while, so many turns at most -/
def whX (c : MT) (b : MS) : Nat → Sl → Sto → Option (Fl × Sl × Sto)
  | 0, _, _ => none
  | n + 1, sl, S => (c sl S).bind fun p => if p.1 then (b sl p.2).bind fun q => match q.1 with
      | .nxt => whX c b n q.2.1 q.2.2
      | .cnt => whX c b n q.2.1 q.2.2
      | .brk => some (.nxt, q.2.1, q.2.2)
      | .ret v => some (.ret v, q.2.1, q.2.2)
    else some (.nxt, sl, p.2)
def sWhile (n : Nat) (c : MT) (b : MS) : MS := whX c b n
section
variable {X : Cx} {g : Gx} {pos : Pos}
theorem ds_while {n : Nat} {c : Expr} {body : List Stmt} {t : MT} {m : MS} (hp : PassesOwn (model X.prog X.w) X.A X.env X.xe) (hc : PT X c (tDt g t)) (hb : PSs X body (tDS g m)) : PS X (.While c body [] pos) (tDS g (sWhile n t m)) := by
  refine PS.weak (ps_while hp hc hb) fun D st H h => ?_
  obtain ⟨z, r, S, sl, f, sl', S', R, e, q⟩ := h
  refine ⟨fun k st2 H2 => ∃ r2 S2 sl2, Step r H r2 H2 ∧ Rep (g.at z) r2 H2 S2 sl2 st2 ∧ whX t m k sl2 S2 = some (f, sl', S'), ⟨n, r, S, sl, .refl _ _, R, e⟩, ?_⟩
  rintro k st2 H2 ⟨r2, S2, sl2, s2, R2, e2⟩
  cases k with
  | zero => cases e2
  | succ k =>
    simp only [whX, Option.bind_eq_some_iff] at e2
    obtain ⟨⟨b, S3⟩, e3, e4⟩ := e2
    refine ⟨z, r2, S2, sl2, b, S3, R2, e3, fun r3 H3 s3 sr3 => ?_⟩
    have s13 := s2.trans s3
    have R3 : Rep (g.at z) r3 H3 S3 sl2 st2 := R2.step s3 sr3
    cases b with
    | false =>
      dsimp only
      rw [if_neg
            Bool.false_ne_true]
      dsimp only at e4
      rw [if_neg Bool.false_ne_true] at e4
      cases e4
      exact q r3 H3 st2 s13 R3
    | true =>
      dsimp only
      rw [if_pos rfl]
      dsimp only at e4
      rw [if_pos rfl] at e4
      simp only [Option.bind_eq_some_iff] at e4
      obtain ⟨⟨f5, sl5, S5⟩, e5, e6⟩ := e4
      refine ⟨fun st6 H6 => ∃ r6 S6 sl6, Step r H r6 H6 ∧ Rep (g.at z) r6 H6 S6 sl6 st6 ∧ whX t m k sl6 S6 = some (f, sl', S'), fun st6 H6 h => ⟨k, Nat.lt_succ_self k, h⟩, ?_⟩
      refine ⟨z, r3, S3, sl2, f5, sl5, S5, R3, e5, fun r7 H7 st7 s7 R7 => ?_⟩
      have s17 := s13.trans s7
      cases f5 with
      | nxt => exact ⟨r7, S5, sl5, s17, R7, e6⟩
      | cnt => exact ⟨r7, S5, sl5, s17, R7, e6⟩
      | brk =>
        cases e6
        exact q r7 H7 st7 s17 R7
      | ret v =>
        cases e6
        exact q r7 H7 st7 s17 R7
/-! ### xs[i] = e -/
def lstPut (S : Sto) (o i v : Val) : Option Sto := match o, i with
  | .ref n, .int k => match S[n]? with
    | some (.lst xs) => (ixN xs.length k).map fun j => S.set n (.lst (xs.set j v))
    | _ => none
  | _, _ => none
def sLPut (mo mi mv : ME) : MS := fun sl S => (mv sl S).bind fun v => (mo sl v.2).bind fun o => (mi sl o.2).bind fun i => (lstPut i.2 o.1 i.1 v.1).map fun S' => (.nxt, sl, S')
theorem RVs.setAt {r : List Addr} {H : Hp} {y : Val} {v : V} (h : RV g r H y v) : ∀ {xs : List Val} {vs : List V} (k : Nat), RVs g r H xs vs → RVs g r H (xs.set k y) (vs.set k v)
  | _, _, _, .nil => .nil
  | _, _, 0, .cons _ t => .cons h t
  | _, _, k + 1, .cons a t => .cons a (RVs.setAt h k t)
theorem ds_lput {o i e : Expr} {mo mi mv : ME} {p1 : Pos} (ho : PE X o (tD g mo)) (hi : PE X i (tD g mi)) (he : PE X e (tD g mv)) (ha : ∀ v, assign (.Subscript o i p1) X.env v = (do
      let ov ← holding
            [v] (eval o X.env)
      let iv ← holding
            [v, ov] (eval i X.env)
      standAt p1
      holding [v, ov, iv]
            (setItem ov iv v)
      release [v, ov, iv] []) := by intro _; rfl) (hs : swapsWithSole [.Subscript o i p1] e pos.line X.env = pure false := by rfl) (hw : swappedStores [.Subscript o i p1] e X.env = pure none := by rfl) : PS X (.Assign [.Subscript o i p1] e pos) (tDS g (sLPut mo mi mv)) := by
  refine PS.weak (ps_asg he (pg_sub ho hi set_list ha) hs hw) fun D st H h => ?_
  obtain ⟨z, r, S, sl, f, sl', S', R, e, q⟩ := h
  simp only [sLPut, Option.bind_eq_some_iff, Option.map_eq_some_iff] at e
  obtain ⟨⟨v, S1⟩, e1, ⟨o, S2⟩, e2, ⟨i, S3⟩, e3, S4, e4, e5⟩ := e
  cases e5
  dsimp only at e2 e3 e4
  refine ⟨z, r, S, sl, v, S1, R, e1, fun r1 H1 hv s1 sr1 rv => ?_⟩
  have R1 := R.step s1 sr1
  refine ⟨z, r1, S1, sl, o, S2, R1, e2, fun r2 H2 ho' s2 sr2 ro => ?_⟩
  have R2 := R1.step s2 sr2
  refine ⟨z, r2, S2, sl, i, S3, R2, e3, fun r3 H3 hi' s3 sr3 ri => ?_⟩
  have R3 := R2.step s3 sr3
  unfold lstPut at e4
  split at e4
  · split at e4
    · rename_i xs hy
      simp only [Option.map_eq_some_iff] at e4
      obtain ⟨j, hj, rfl⟩ := e4
      cases ri
      have ro3 := ro.mono s3 sr2.own
      cases ro3 with
      | ref hn =>
        obtain ⟨u, hu, rw'⟩ := sr3.at_ _ _ _ hy hn
        cases rw' with
        | lst hl hs =>
          have ham := List.mem_of_getElem? hn
          have rv3 := (rv.mono s2 sr1.own).mono s3 sr2.own
          refine ⟨_, _, _, j, rfl, rfl, hu, by rw [← hs.length]; exact hj, ?_⟩
          obtain ⟨sr', st'⟩ := sr3.put (so := .lst (xs.set j v)) (o := .lst (_ : List V)) hn hu chg_lst (fun _ _ z => nomatch z) (.lst (by simpa using hl) ((RVs.setAt rv3 j hs).updr ham hu chg_lst))
          exact q r3 _ st (((s1.trans s2).trans s3).trans st') (R3.step st' sr')
    · cases e4
  · cases e4
/-! ### xs.pop(), xs.extend(ys) -/
def fPop0 (S : Sto) (a : Val) (xs : List Val) : Option (Val × Sto) := match a, xs with
  | .ref n, [] => match S[n]? with
    | some (.lst ys) => (ys[ys.length - 1]?).map fun y => (y, S.set n (.lst ys.dropLast))
    | _ => none
  | _, _ => none
theorem RVs.dropLast {r : List Addr} {H : Hp} {xs : List Val} {vs : List V} (h : RVs g r H xs vs) : RVs g r H xs.dropLast vs.dropLast := by
  rw [List.dropLast_eq_take, List.dropLast_eq_take, h.length]
  exact h.take _
theorem m_pop0 : MtR X "list.pop" (rMG g fPop0) := by
  intro pins s st H x vs v us Q I rx rvs h
  obtain ⟨z, r, S, a, xs, w, S', sr, ra, rxs, e, q⟩ := h
  unfold fPop0 at e
  split at e
  · split at e
    · rename_i ys hy
      simp only [Option.map_eq_some_iff] at e
      obtain ⟨y, e2, e3⟩ := e
      cases e3
      cases ra with
      | ref ha =>
        obtain ⟨u, hu, ro⟩ := sr.at_ _ _ _ hy ha
        cases ro with
        | lst hl hs =>
          cases rxs
          obtain ⟨hv, g1, g2⟩ := hs.get e2
          have ham := List.mem_of_getElem? ha
          refine mt_pop pins s st H _ _ v us Q I rx rvs ⟨_, _, hv, rfl, rfl, hu, by rw [← hs.length]; exact g1, ?_⟩
          obtain ⟨sr', st'⟩ := sr.put (so := .lst ys.dropLast) (o := .lst (_ : List V)) ha hu chg_lst (fun _ _ z => nomatch z) (.lst (by rw [List.length_dropLast]; omega) (hs.dropLast.updr ham hu chg_lst))
          exact q r _ hv st' sr' (g2.updr ham hu chg_lst)
    · cases e
  · cases e
variable {o e : Expr} {mo : ME} {ms : MEs} {apos cpos : Pos} {es : List Expr}
theorem d_pop0 (ho : PE X o (tD g mo)) (hbase : attributeBase o "pop" X.env (eval o X.env) = eval o X.env := by rfl) (hline : (apos.endLine == cpos.line) = true := by rfl) : PE X (.Call (.Attribute o "pop" apos) [] [] cpos) (tD g (eMeth isL fPop0 mo esNil)) :=
  PE.weak (pe_bm0 F.plainAttrs_list F.slot_list_pop F.type_list_pop (m_pop0 (g := g)) ho hbase hline) fun st H Q h => by
    obtain ⟨z, r, S, sl, v, S', R, e, q⟩ := h
    simp only [eMeth, esNil, Option.bind_eq_some_iff] at e
    obtain ⟨⟨o, S1⟩, e1, e2⟩ := e
    dsimp only at e2
    split at e2
    · rename_i hck
      simp only [Option.bind_some] at e2
      refine ⟨z, r, S, sl, o, S1, R, e1, fun r1 H1 x s1 sr1 rx => ⟨isL_ty sr1 rx hck, z, r1, S1, o, [], v, S', sr1, rx, .nil, e2, fun r' H' hv s' sr' rv => q r' H' hv (s1.trans s') sr' rv⟩⟩
    · cases e2
/-- what can be appended in one go -/
def extOf (S : Sto) (x : Val) : Option (List Val) := match lstOf S x with
  | some ys => some ys
  | none => match x with
    | .tup ys => some ys
    | .ptp ys => some ys
    | _ => none
def fExt (S : Sto) (a : Val) (xs : List Val) : Option (Val × Sto) := match a, xs with
  | .ref n, [x] => match S[n]? with
    | some (.lst ys) => (extOf S x).bind fun zs => if ys.length + zs.length ≤ sizeLine then some (.non, S.set n (.lst (ys ++ zs))) else none
    | _ => none
  | _, _ => none
end
end Mp
namespace HT4
open PySem PySem.W
      PyProof.Rows L2
theorem ext_any {l b : Addr} {d : Option Addr} {sl : Array (Option Value)} {us ws : Array Value} {n n2 : Nat} (h0 : ¬(!us.isEmpty && Builtin.List.listTooLong (us.size + ws.size)) = true) (h1 : us.size ≤ sizeLine) (h2 : us.size + ws.size ≤ sizeLine + 1) :
    Meets (Builtin.«list.extend» ⟨[.ref l, .ref b], []⟩) (fun _ R s => s.heap.get? l = some { cls := .type "list", dict := none, data := .seq us n, slots := #[] } ∧
      s.heap.get? b = some { cls := .type "tuple", dict := d, data := .seq ws n2, slots := sl } ∧ R (.ok (.ret Value.none)) { s with heap := s.heap.update l (Obj.mapSeq fun x => x ++ ws), toks := s.toks }) :=
  .of_wp fun prog
        w A R s h => by
    obtain
          ⟨hp, g, dd, tk, os⟩ := s
    obtain ⟨hl, hb, h⟩ := h
    have f1 := AutoSeq1.idx_int
    have f2 :=
          AutoSeq1.sub_tuple_tuple
    have f3 :=
          AutoSeq1.sub_list_list
    have f4 := AutoSeq1.sub_tuple_list
    have f5 := AutoSeq1.sub_list_tuple
    have hs0 := h0
    have hz' : (us ++ ws).size ≤ sizeLine + 1 := by rw [Array.size_append]; exact h2
    wp_walk using (wpAny_updateSeq hl rfl (hz := h1) (_hz' := hz')), wpAny_loadPart' hl, wpAny_loadPart' hb
    exact ⟨_, rfl, h⟩
end HT4
namespace Mp
open PySem PySem.Spec
      PyProof.Rows L2
section
variable {X : Cx} {g : Gx} {pos : Pos}
def rExtT (K : PySem.W.Frag) : V → List V → Hp → VK → Prop := fun x vs H Q => ∃ l b xs zs, x = .ref l ∧ vs = [.ref b] ∧ H l = some (.lst xs) ∧ SqT K H b zs ∧ xs.length + zs.length ≤ sizeLine ∧ Q .non (upd H l (.lst (xs ++ zs)))
theorem mt_extT : MtM X "list.extend" (rExtT X.K) := by
  intro pins s σ H x
        vs v us Q I rx rv h
  obtain ⟨l, b, xs, zs, rfl,
        rfl, hH, hB, hz, q⟩ := h
  cases rx
  obtain ⟨u, rfl, ru⟩ := rv.one
  cases ru
  obtain ⟨z, its, n, r,
        hl, e⟩ := I.lstM hH
  obtain ⟨its2, r2, ⟨⟨oc, od, oda, osl⟩, e2, hcls, n2, hdat⟩, hz2⟩ := I.tuple hB
  cases hcls
  cases hdat
  have hl2 := r2.length
  have hsz : its.toArray.size + its2.toArray.size ≤ sizeLine
        := by rw [List.size_toArray, List.size_toArray]; omega
  have hlong : ¬ (!its.toArray.isEmpty && Builtin.List.listTooLong
        (its.toArray.size + its2.toArray.size)) = true := by
    rw [notLongL hsz,
          Bool.and_false]
    exact Bool.false_ne_true
  refine call_meets F.slot_list_extend ⟨_, e, rfl⟩ F.entry_list_extend (F.args_list_extend_2 _ _) (HT4.ext_any hlong (by rw [List.size_toArray]; omega) (by omega)) ⟨e, e2, ?_⟩
  refine ⟨.non, _, I.lset (its' := its ++ its2) hH e
        (by simp) (r.append r2) ?_, rfl, q⟩
  rw [List.length_append]
  omega
theorem m_ext (hK : g.K = X.K) : MtR X "list.extend" (rMG g fExt) := by
  intro pins s st H x vs v us Q I rx rvs h
  obtain ⟨z, r, S, a, xs, w, S', sr, ra, rxs, e, q⟩ := h
  unfold fExt at e
  split at e
  · rename_i n1 x1
    split at e
    · rename_i ys hy
      simp only [Option.bind_eq_some_iff] at e
      obtain ⟨zs, e1, e2⟩ := e
      split at e2
      · rename_i hz
        cases e2
        cases ra with
        | ref ha =>
          obtain ⟨u, hu, ro⟩ := sr.at_ _ _ _ hy ha
          cases ro with
          | lst hl hs =>
            cases rxs with
            | cons b t =>
              cases t
              have ham := List.mem_of_getElem? ha
              have fin : ∀ ws : List V, RVs (g.at z) r H zs ws → Q .non (upd H _ (.lst (_ ++ ws))) := fun ws hw => by
                obtain ⟨sr', st'⟩ := sr.put (so := .lst (ys ++ zs)) (o := .lst (_ : List V)) ha hu chg_lst (fun _ _ z => nomatch z) (.lst (by simpa using hz) ((hs.append hw).updr ham hu chg_lst))
                exact q r _ _ st' sr' .non
              unfold extOf at e1
              split at e1
              · rename_i ys2 hy2
                cases e1
                obtain ⟨p, ws, rfl, hp, hpz, hws⟩ := lstOf_at sr b hy2
                exact (mt_extend (X := X)) pins s st H _ _ v us Q I rx rvs ⟨_, _, _, ws, rfl, rfl, hu, hp, by rw [← hs.length, ← hws.length]; exact hz, fin ws hws⟩
              · have e1' : tupOf x1 = some zs := by
                  split at e1
                  · cases e1; rfl
                  · cases e1; rfl
                  · cases e1
                obtain ⟨p, ws, rfl, hp, hpz, hws⟩ := tupOf_at b e1'
                rw [show (g.at z).K = X.K from hK] at hp
                exact mt_extT pins s st H _ _ v us Q I rx rvs ⟨_, _, _, ws, rfl, rfl, hu, hp, by rw [← hs.length, ← hws.length]; exact hz, fin ws hws⟩
      · cases e2
    · cases e
  · cases e
variable {o e : Expr} {mo : ME} {ms : MEs} {apos cpos : Pos} {es : List Expr}
theorem d_ext (hK : g.K = X.K) (ho : PE X o (tD g mo)) (ha : PA X [e] (tDs g ms)) (hbase : attributeBase o "extend" X.env (eval o X.env) = eval o X.env := by rfl)
    (hfew : ((backTo cpos (starEach [e] X.env)).all (fun x => !x.1) && (backToKw cpos (keywordEach [] X.env)).all (fun x => x.1.isSome) && decide (([e] : List Expr).length + ([] : List Keyword).length + (if ([] : List Keyword).isEmpty then 0 else 1) < 30)) = true := by rfl)
    (hline : (apos.endLine == cpos.line) = true := by rfl) (hs : starEach [e] X.env = (false, eval e X.env) :: starEach [] X.env := by rfl) (hpl : (backTo cpos (starEach [] X.env)).any (·.1) = false := by rfl) : PE X (.Call (.Attribute o "extend" apos) [e] [] cpos) (tD g (eMeth isL fExt mo ms)) :=
  PE.weak (pe_bm F.plainAttrs_list F.slot_list_extend F.type_list_extend (m_ext hK) ho ha hbase hfew hline hs hpl) fun _ _ _ h => meth_read (fun _ _ _ _ _ _ a b c => isL_ty a b c) h
end
end Mp
namespace Mp
open PySem PySem.Spec
      PyProof.Rows L2
section
variable {X : Cx} {g : Gx} {pos : Pos}
/-- a and b, whose first is a truth value, as a value -/
def eAndB (a b : ME) : ME := fun sl S => (a sl S).bind fun p => match p.1 with
  | .bl true => b sl p.2
  | .bl false => some (.bl false, p.2)
  | _ => none
theorem d_andB {a b : Expr} {rest : List Expr} {ma mb : ME} (ha : PE X a (tD g ma)) (hb : PE X (.BoolOp .And (b :: rest) pos) (tD g mb)) : PE X (.BoolOp .And (a :: b :: rest) pos) (tD g (eAndB ma mb)) := by
  refine PE.weak (pe_and ha hb) fun st H Q h => ?_
  obtain ⟨z, r, S, sl, v, S', R, e, q⟩ := h
  simp only [eAndB, Option.bind_eq_some_iff] at e
  obtain ⟨⟨k, S1⟩, e1, e3⟩ := e
  refine ⟨z, r, S, sl, k, S1, R, e1, fun r1 H1 hv st1 sr1 rv => ?_⟩
  dsimp only at e3
  split at e3
  · cases rv
    refine ⟨true, rfl, ?_⟩
    exact ⟨z, r1, S1, sl, v, S', R.step st1 sr1, e3, fun r2 H2 hw st2 sr2 rw => q r2 H2 hw (st1.trans st2) sr2 rw⟩
  · cases rv
    cases e3
    exact ⟨false, rfl, q r1 H1 _ st1 sr1 (.bl false)⟩
  · cases e3
theorem d_andB1 {a : Expr} {ma : ME} (ha : PE X a (tD g ma)) : PE X (.BoolOp .And [a] pos) (tD g ma) := pe_one ha
def eOrB (a b : ME) : ME := fun sl S => (a sl S).bind fun p => match p.1 with
  | .bl true => some (.bl true, p.2)
  | .bl false => b sl p.2
  | _ => none
theorem d_orB {a b : Expr} {rest : List Expr} {ma mb : ME} (ha : PE X a (tD g ma)) (hb : PE X (.BoolOp .Or (b :: rest) pos) (tD g mb)) : PE X (.BoolOp .Or (a :: b :: rest) pos) (tD g (eOrB ma mb)) := by
  refine PE.weak (pe_or ha hb) fun st H Q h => ?_
  obtain ⟨z, r, S, sl, v, S', R, e, q⟩ := h
  simp only [eOrB, Option.bind_eq_some_iff] at e
  obtain ⟨⟨k, S1⟩, e1, e3⟩ := e
  refine ⟨z, r, S, sl, k, S1, R, e1, fun r1 H1 hv st1 sr1 rv => ?_⟩
  dsimp only at e3
  split at e3
  · cases rv
    cases e3
    exact ⟨true, rfl, q r1 H1 _ st1 sr1 (.bl true)⟩
  · cases rv
    refine ⟨false, rfl, ?_⟩
    exact ⟨z, r1, S1, sl, v, S', R.step st1 sr1, e3, fun r2 H2 hw st2 sr2 rw => q r2 H2 hw (st1.trans st2) sr2 rw⟩
  · cases e3
theorem d_orB1 {a : Expr} {ma : ME} (ha : PE X a (tD g ma)) : PE X (.BoolOp .Or [a] pos) (tD g ma) := pe_one ha
/-- name = [..], the name a local one -/
theorem ds_setLc {i : Nat} {y : Str} {py : Pos} {spos : Pos} {elt tg iter : Expr} {ifs : List Expr} {scope : Scope} {own : List (Str × Nat)} {it : MI} {t : Tn} {tt : MT} {m : ME} (hK : g.K = X.K) (hc : X.calm = true) (hN : X.N.Nodup) (hy : X.N[i]? = some y) (hyl : X.env.scope.names.lookup y = some .local)
    (hsw : swapsWith (.ListComp elt [⟨tg, iter, ifs, 0⟩] scope pos) (some (.Name y py)) spos.line X.env = pure true) (hi : PI X tg iter (iD g it)) (ok : BlkOk X.N X.env.scope scope own) (hm : ∀ i ∈ t.all, i ∈ own.map (·.2))
    (hg : ∀ (s : Shared) (H : Hp) (C : Addr) (cl : List (Str × Addr)) (fp : List Addr), PG (X.blk s H scope (compEnvC scope cl C X.env) fp) tg (t.t X.K)) (ht : ∀ (s : Shared) (H : Hp) (C : Addr) (cl : List (Str × Addr)) (fp : List Addr), PTs (X.blk s H scope (compEnvC scope cl C X.env) fp) ifs (tDt g tt))
    (he : ∀ (s : Shared) (H : Hp) (C : Addr) (cl : List (Str × Addr)) (fp : List Addr), PE (X.blk s H scope (compEnvC scope cl C X.env) fp) elt (tD g m)) (hs : ∀ x, foldedSetIterable iter X.env x = pure x := by intro _; rfl) :
    PS X (.Assign [.Name y py] (.ListComp elt [⟨tg, iter, ifs, 0⟩] scope pos) spos) (tDS g (sSet i (eLc t it tt m (own.map (·.2))))) := by
  refine PS.weak (ps_setLc (i := i) hc hN hy hyl hsw hi ok hg ht he hs) fun D st H h => ?_
  obtain ⟨z, r, S, sl, f, sl', S', R, e, q⟩ := h
  simp only [sSet, eLc, Option.bind_eq_some_iff] at e
  obtain ⟨⟨v, S1⟩, ⟨p, e1, w, e2, e3⟩, e4⟩ := e
  cases e3
  cases e4
  have e' : ((it sl S).bind fun p => lcX t tt m p.1 (wipeS sl (own.map (·.2))) p.1.l p.2) = some (w.1, w.2) := by simp [e1, e2]
  refine lc_read hK hm R e' fun r' H' A ys st' sr' hD hnr hnz hn hl rv _ => ?_
  exact q r' H' _ st' ⟨sr', (R.sl.mono st' R.sr.own).set (.lst hD hnr hnz hl (RVs.fewz (g := g.at (A :: z)) (fun p hp => List.mem_cons_of_mem _ hp) rv)) i⟩
/-! ### x += e, whole numbers -/
def sAug (i : Nat) (m : ME) : MS := fun sl S => match sl[i]? with
  | some (some (.int a)) => (m sl S).bind fun p => match p.1 with
    | .int b => some (.nxt, sl.set i (some (.int (a + b))), p.2)
    | _ => none
  | _ => none
end
section
variable {P : Program} {w : World} {K : PySem.W.Frag} {mg : Str → Option Value} {base : Heap} {g : Gx}
theorem fn_none {k : Nat} {f : Addr} {fd : FuncData} {ps : List Str} : FnOk P w K mg base CX0 k f fd ps (spD g fun _ _ => none) :=
  ⟨fun vs H Q E ⟨_, _, _, _, _, _, _, _, e, _⟩ => (nomatch e), fun A outer s H ar us vs Q E _ _ _ _ ⟨_, _, _, _, _, _, _, _, e, _⟩ => (nomatch e)⟩
end
end Mp
namespace Pilot
open PySem PySem.Spec PyProof.Rows L2 Mp
section
variable {P : Program} {w : World} {K : PySem.W.Frag} {mg : Str → Option Value} {base : Heap} {g : Gx}
/-- a def that may be called: its promise, its name, how it binds -/
structure Cal1 (P : Program) (w : World) (K : PySem.W.Frag) (mg : Str → Option Value) (base : Heap) (g : Gx) (k : Nat) (x : Str) (ps : List Str) (m : MF) : Prop where
  ex : ∃ f fd, FnOk P w K mg base CX0 k f fd ps (spD g m) ∧ mg x = some (.ref f) ∧ PySem.W.keepIn K (.ref f) = true ∧ Binds K fd ps []
abbrev es1 (a : ME) : MEs := esCons a esNil
abbrev es2 (a b : ME) : MEs := esCons a (esCons b esNil)
abbrev es3 (a b c : ME) : MEs := esCons a (esCons b (esCons c esNil))
abbrev es4 (a b c d : ME) : MEs := esCons a (esCons b (esCons c (esCons d esNil)))
abbrev es5 (a b c d e : ME) : MEs := esCons a (esCons b (esCons c (esCons d (esCons e esNil))))
def sNo : MS := sRet (eCon (.bl false))
end
end Pilot
namespace HT3
open PySem PySem.W PyProof.Rows L2 HT
def rvs {α : Type} (xs : List α) : List α := (List.range (Builtin.Slice.slicePlaces ((xs.length : Int) - 1) (-1) (-1))).filterMap fun (m : Nat) => xs[((xs.length : Int) - 1 + (m : Int) * (-1)).toNat]?
theorem places (n : Nat) : Builtin.Slice.slicePlaces ((n : Int) - 1) (-1) (-1) = n := by
  unfold
        Builtin.Slice.slicePlaces
  rw [if_neg (by decide)]
  by_cases h :
        (n : Int) - 1 > -1
  · rw [if_pos h, show (- -1 : Int) = 1 from rfl, Int.ediv_one]
    omega
  · rw [if_neg h]
    have : n = 0 := by omega
    subst this
    rfl
theorem fm_congr {α β : Type} {f g : α → Option β} : ∀ {l : List α}, (∀ x ∈ l, f x = g x) → l.filterMap f = l.filterMap g
  | [], _ => rfl
  | a :: l, h => by rw [List.filterMap_cons, List.filterMap_cons, h a List.mem_cons_self, fm_congr fun x hx => h x (List.mem_cons_of_mem _ hx)]
theorem rvs_eq {α : Type} (xs : List α) : rvs xs = xs.reverse := by
  unfold rvs
  rw [places]
  have h : ∀ m ∈ List.range xs.length, xs[((xs.length : Int) - 1 + (m : Int) * (-1)).toNat]? = xs.reverse[m]? := fun m hm => by
    have hm := List.mem_range.mp hm
    rw [List.getElem?_reverse hm]
    congr 1
    omega
  rw [fm_congr h]
  have : ∀ ys : List α, (List.range ys.length).filterMap (fun m => ys[m]?) = ys := fun ys => by
    induction ys with
    | nil => rfl
    | cons y ys ih =>
      rw [List.length_cons, List.range_succ_eq_map, List.filterMap_cons, List.filterMap_map]
      simp only
            [List.getElem?_cons_zero]
      congr 1
  have e := this xs.reverse
  rw [List.length_reverse] at e
  exact e
section
variable {prog : Program}
      {w : World} {A : Around} {E : Value → Shared → Prop} {s : Shared}
theorem applied_rev {sl : Addr} {u : Tok} {n : Nat} {Q : Int × Int × Nat → Shared → Prop} (hs : s.heap.IsSliceOf sl .none .none (.int (-1) u)) (h : Q ((n : Int) - 1, -1, Builtin.Slice.slicePlaces ((n : Int) - 1) (-1) (-1)) s) : wpAny (model prog w) A (Builtin.Slice.sliceApplied (.ref sl) (pure (n : Int))) Q E s := by
  obtain ⟨os, o1, o2, o3⟩ := id hs
  unfold Builtin.Slice.sliceApplied
        Builtin.Slice.sliceFields
  refine wpAny_bind (wpAny_bind (wpAny_field o1 o3 (x := .none) rfl (wpAny_bind (wpAny_field o1 o3 (x := .none) rfl (wpAny_bind (wpAny_field o1 o3 (x := .int (-1) u) rfl (wpAny_pure ?_)))))))
  refine wpAny_bind (slicePart_ (.int (-1) u) ?_)
  show wpAny _ _ (if ((-1 : Int) == 0) = true then _ else _) _ _ s
  rw [if_neg (by decide)]
  refine wpAny_bind (slicePart_ .none (wpAny_bind (slicePart_ .none (wpAny_bind (wpAny_pure ?_)))))
  exact wpAny_pure h
theorem getItem_rev {t sl : Addr} {items : Array Value} {u : Tok} {Q : Value → Shared → Prop} (ht : IsTup s.heap t items) (hs : s.heap.IsSliceOf sl .none .none (.int (-1) u))
    (h : Q (.ref s.heap.objs.size) { s with heap := s.heap.push { cls := .type "tuple", data := .seq (rvs items.toList).toArray } }) (hz : (rvs items.toList).length ≤ sizeLine) : wpAny (model prog w) A (getItem (.ref t) (.ref sl)) Q E s := by
  have ok : sizeOk (.seq (rvs items.toList).toArray) := by
    show (rvs items.toList).toArray.size ≤ sizeLine
    rw [List.size_toArray]
    exact hz
  obtain ⟨os, o1, o2, o3⟩ := id hs
  unfold getItem
  try with_reducible
        refine wpAny_holding ?_
  first | (refine wpAny_bind ?_; refine wpAny_pure ?_) | skip
  refine wpAny_bind (wpAny_sequenceKey ht.typeIs (by decide) (wpAny_bind (wpAny_callSpecial?_slot (name := Str.ofString "__getitem__") ht.typeIs PyProof.Rows.slot_tuple_getitem
    (wpAny_call_entry PyProof.Rows.slot_tuple_getitem ht.typeIs entry_tuple_getitem ?_ (args_tuple_getitem _ _)))))
  show wpAny _ _ (Builtin.Tuple.tupleItemsOf
        (.ref t) >>= _) _ _ s
  refine wpAny_bind (tupleItemsOf_ ht (wpAny_bind (wpAny_typeOf (T := "slice") ⟨os, o1, o2⟩ ?_)))
  rw [if_pos (by decide)]
  refine wpAny_bind (applied_rev hs ?_)
  show wpAny _ _ (if (((items.size : Int) - 1 == 0 && (-1 : Int) == 1 && Builtin.Slice.slicePlaces ((items.size : Int) - 1) (-1) (-1) == items.size) = true) then _ else _) _ _ s
  rw [if_neg (by simp)]
  have e : ((List.range (Builtin.Slice.slicePlaces ((items.size : Int) - 1) (-1) (-1))).filterMap fun (m : Nat) => items[((items.size : Int) - 1 + (m : Int) * (-1)).toNat]?).toArray = (rvs items.toList).toArray := by
    unfold rvs
    rw [Array.length_toList]
    have f : (fun m : Nat => items[((items.size : Int) - 1 + (m : Int) * (-1)).toNat]?) = fun m : Nat => items.toList[((items.size : Int) - 1 + (m : Int) * (-1)).toNat]? := by
      funext m
      rw [Array.getElem?_toList]
    rw [f]
  rw [e]
  first
    | exact wpAny_bind (m := Builtin.Tuple.tupleExact _) (wpAny_newObj_type (wpAny_pure ⟨_, rfl, wpAny_pure h⟩) ok)
    | exact wpAny_bind (m := Builtin.Tuple.tupleExact _) (wpAny_newObj_type (wpAny_bind (wpAny_pure (wpAny_pure ⟨_, rfl, wpAny_pure h⟩))) ok)
    | exact wpAny_bind (wpAny_bind (m := Builtin.Tuple.tupleExact _) (wpAny_newObj_type (wpAny_pure (wpAny_pure ⟨_, rfl, wpAny_pure h⟩)) ok))
    | exact wpAny_bind (wpAny_bind (m := Builtin.Tuple.tupleExact _) (wpAny_newObj_type (wpAny_pure ⟨_, rfl, wpAny_pure h⟩) ok))
end
end HT3
namespace Mp
open PySem PySem.Spec
      PyProof.Rows L2
section
variable {X : Cx} {g : Gx} {pos : Pos}
/-! ### t[::-1] of a tuple -/
def tRevT (K : PySem.W.Frag) (te : TE) : TE := fun σ H Q => te σ H fun x H1 => ∃ a xs, x = .ref a ∧ SqT K H1 a xs ∧ ∀ p, H1 p = none → Q (.ref p) (upd H1 p (.tup xs.reverse))
theorem pe_revT2 {e : Expr} {te : TE} {k : Nat} {p1 p2 p3 : Pos} (he : PE X e te) : PE X (.Subscript e (.Slice none none (some (.UnaryOp .USub (.Constant (.int 1) k p1) p2)) p3) pos) (tRevT X.K te) := by
  refine ⟨fun pins s
        σ H Q I h => ?_⟩
  refine Subscript_ (thn (he.run pins s σ H
        _ I h) fun v s1 ⟨x, H1, I1, r1, q1⟩ => ?_)
  obtain ⟨a, xs, rfl, hx, q⟩ := q1
  cases r1
  have hst : PO X (some (.UnaryOp .USub (.Constant (.int 1) k p1) p2)) (tPart
        (tUn (rU fun i => .int (-i)) (tC (.int 1)))) := po_some (pe_un un_neg pe_int)
  refine wpAny_Slice (thn (po_none.run pins s1 σ H1 (fun o H2 => o = none
        ∧ H2 = H1) I1 ⟨rfl, rfl⟩) fun vl s2 ⟨l, H2, I2, pl, el, e2⟩ => ?_)
  subst el e2
  refine thn (po_none.run pins s2 σ H2 (fun o H3 => o = none ∧ H3
        = H2) I2 ⟨rfl, rfl⟩) fun vu s3 ⟨u, H3, I3, pu, eu, e3⟩ => ?_
  subst eu e3
  refine thn (hst.run pins s3 σ H3 (fun o H4 => o = some (-1) ∧ H4 = H3) I3
        ⟨1, rfl, -1, rfl, rfl, rfl⟩) fun vs s4 ⟨o, H4, I4, ps, eo, e4⟩ => ?_
  subst eo e4
  cases pl
  cases pu
  cases ps with
  | int _ tk =>
    have I5 : Inv X pins σ H4 { s4 with heap := s4.heap.push { cls := .type "slice", data := .fields #[.none, .none, .int (-1) tk] } } := I4.kept (t' := s4.toks) fun b ob q => Heap.get?_push_of_some _ q
    obtain ⟨its, r, ht, hz⟩ := I5.tuple hx
    show wpAny (model X.prog X.w) X.A (subscriptTail e (.Slice none none (some (.UnaryOp .USub (.Constant (.int 1) k p1) p2)) p3) (.ref a) (.ref s4.heap.objs.size)) (EP X pins σ Q) X.xe { s4 with heap := s4.heap.push { cls := .type "slice", data := .fields #[.none, .none, .int (-1) tk] } }
    refine tail_any (ops := [.ref a, .ref s4.heap.objs.size]) ht.typeIs (PyProof.Rows.slot_tuple_getitem.lookup) ?_ (by with_unfolding_all rfl)
    have hl := r.length
    have hn : (HT3.rvs its).length ≤ sizeLine := by
      rw [HT3.rvs_eq, List.length_reverse]
      omega
    refine HT3.getItem_rev ht (Heap.IsSliceOf.new _ .none .none (.int (-1) tk)) ?_ hn
    refine ⟨.ref _, _, I5.laid (t' := s4.toks) (o := .tup xs.reverse) (fun b ob q => Heap.get?_push_of_some _ q) (Nat.le_refl _) ?_, rfl, q _ (I5.hok.fresh (Nat.le_refl _))⟩
    refine ⟨by rw [List.length_reverse]; omega, HT3.rvs its, ?_, IsTup.new _ _⟩
    rw [HT3.rvs_eq]
    exact r.reverse
def eRevT (m : ME) : ME := fun sl S => (m sl S).bind fun p => (tupOf p.1).map fun xs => (.tup xs.reverse, p.2)
theorem d_revT {e : Expr} {m : ME} {k : Nat} {p1 p2 p3 : Pos} (hK : g.K = X.K) (he : PE X e (tD g m)) : PE X (.Subscript e (.Slice none none (some (.UnaryOp .USub (.Constant (.int 1) k p1) p2)) p3) pos) (tD g (eRevT m)) := by
  refine PE.weak (pe_revT2 he) fun st H Q h => ?_
  obtain ⟨z, r, S, sl, v, S', R, e, q⟩ := h
  simp only [eRevT, Option.bind_eq_some_iff, Option.map_eq_some_iff] at e
  obtain ⟨⟨x, S1⟩, e1, xs, e2, e3⟩ := e
  cases e3
  refine ⟨z, r, S, sl, x, S1, R, e1, fun r1 H1 hv s1 sr1 rv => ?_⟩
  obtain ⟨a, vs, rfl, h1, h2, h3⟩ := tupOf_at rv e2
  rw [show (g.at z).K = X.K from hK] at h1
  exact ⟨a, vs, rfl, h1, fun p hp => q r1 _ (.ref p) (s1.trans (Step.new1 hp)) (sr1.beside hp) (RV.newT sr1 hp (by rw [List.length_reverse]; exact h2) (rvs_rev h3))⟩
/-! ### a tuple display as a plain tuple, its slices -/
def eTupP (ms : MEs) : ME := fun sl S => (ms sl S).bind fun p => some (.ptp p.1, p.2)
theorem d_tupP {es : List Expr} {ms : MEs} {n : Nat} {x1 : Nat} (h : PA X es (tDs g ms)) (hn : EsN ms n) (hl : n ≤ sizeLine := by decide) : PE X (.Tuple es x1 pos) (tD g (eTupP ms)) := by
  refine ⟨fun pins s st H Q I hq => ?_⟩
  obtain ⟨z, r, S, sl, v, S', R, e, q⟩ := hq
  simp only [eTupP, Option.bind_eq_some_iff] at e
  obtain ⟨⟨a, S1⟩, e1, e3⟩ := e
  cases e3
  have hz : a.length ≤ sizeLine := by rw [hn _ _ _ e1]; exact hl
  refine wpAny_Tuple_spliced (thn (h.run pos pins s st H (fun xs H1 => ∃ r1, Step r H r1 H1 ∧ SR (g.at z) r1 H1 S1 ∧ RVs (g.at z) r1 H1 a xs) I ⟨z, r, S, sl, a, S1, R, e1, fun r1 H1 xs st sr rv => ⟨r1, st, sr, rv⟩⟩) fun us s1 ⟨xs, H1, I1, rl, r1, st1, sr1, rx⟩ => ⟨by rw [← rl.length, ← rx.length]; exact hz, ?_⟩)
  have hf : H1 s1.heap.objs.size
        = none := I1.hok.fresh (Nat.le_refl _)
  have I2 : Inv X pins st (upd H1 s1.heap.objs.size (.frz { cls := .type "tuple", data := .seq us.toArray } (.tup xs))) { s1 with heap := s1.heap.push { cls := .type "tuple", data := .seq us.toArray } } :=
    I1.laid (t' := s1.toks) (fun b u e => Heap.get?_push_of_some _ e) (Nat.le_refl _) ⟨Heap.get?_push_size _ rfl, show xs.length ≤ sizeLine ∧ _ from ⟨by rw [← rx.length]; exact hz, us, rl, ⟨_, Heap.get?_push_size _ rfl, rfl, _, rfl⟩⟩⟩
  exact ⟨.ref s1.heap.objs.size, _, I2, rfl, q r1 _ (.ref _) (st1.trans (Step.new1 hf)) (sr1.beside hf) (.ptp upd_same rfl hz (rx.of_none sr1.own hf))⟩
def fSlP (lo hi : Option Int) : Val → Option Val
  | .ptp xs => some (.ptp (cutG xs lo hi))
  | _ => none
def eSlP (m : ME) (a b : MO) : ME := fun sl S => (m sl S).bind fun p => (a sl p.2).bind fun l => (b sl l.2).bind fun h => (fSlP l.1 h.1 p.1).map fun v => (v, h.2)
def rSlPG (g : Gx) : V → Option Int → Option Int → Hp → VK → Prop := fun x lo hi H Q => ∃ z r S a v, SR (g.at z) r H S ∧ RV (g.at z) r H a x ∧ fSlP lo hi a = some v ∧
  ∀ r' H' hv, Step r H r' H' → SR (g.at z) r' H' S → RV (g.at z) r' H' v hv → Q hv H'
theorem o_slP : L2.SlR X (rSlPG g) := by
  intro pins s st H x v vl vu lo hi sl Q I rx hs pl pu h
  obtain ⟨z, r, S, a, w, sr, ra, e, q⟩ := h
  unfold fSlP at e
  split at e
  · cases e
    cases ra with
    | @ptp p ob ys vs h1 h2 h3 h4 =>
      have hx : SqT X.K H p vs := .inl (.inr ⟨_, h1⟩)
      by_cases hw : HT.sIx vs.length 0 lo = 0 ∧ HT.sIx vs.length vs.length hi = vs.length
      · cases rx
        obtain ⟨its, rv, ht, hz⟩ := I.tuple hx
        have hlen : its.toArray.size = vs.length := by rw [List.size_toArray]; exact rv.length.symm
        refine ⟨"tuple", _,
              PyProof.Rows.slot_tuple_getitem.lookup, ht.typeIs, ?_⟩
        rw [← h4.length] at hw
        rw [cutG_all hw] at q
        exact L2.getItem_tuple_whole ht hs pl pu (by rw [hlen, ← h4.length]; exact hw) ⟨.ref p, H, I, rfl, q r H _ (.refl r H) sr (.ptp h1 h2 h3 h4)⟩
      · cases rx
        obtain ⟨its, rv, ht, hz⟩ := I.tuple hx
        have hlen : its.toArray.size = vs.length := by rw [List.size_toArray]; exact rv.length.symm
        refine ⟨"tuple", _,
              PyProof.Rows.slot_tuple_getitem.lookup, ht.typeIs, ?_⟩
        refine HT.getItem_tuple_cut ht hs pl pu
              (by rw [hlen]; exact hw) ?_ (by rw [hlen]; exact hz)
        rw [hlen]
        have hf : H s.heap.objs.size
              = none := I.hok.fresh (Nat.le_refl _)
        have I2 := I.laid (t' := s.toks) (o := .frz { cls := .type "tuple", data := .seq ((its.drop (HT.sIx vs.length 0 lo)).take (HT.sIx vs.length vs.length hi - HT.sIx vs.length 0 lo)).toArray } (.tup (cutV vs lo hi))) (h' := s.heap.push { cls := .type "tuple", data := .seq ((its.drop (HT.sIx vs.length 0 lo)).take (HT.sIx vs.length vs.length hi - HT.sIx vs.length 0 lo)).toArray }) (fun b ob q => Heap.get?_push_of_some _ q) (Nat.le_refl _) ⟨Heap.get?_push_size _ rfl, show (cutV vs lo hi).length ≤ sizeLine ∧ _ from ⟨Nat.le_trans (cutV_length vs lo hi) hz, _, (rv.drop (HT.sIx vs.length 0 lo)).take (HT.sIx vs.length vs.length hi - HT.sIx vs.length 0 lo), IsTup.new _ _⟩⟩
        exact ⟨.ref s.heap.objs.size, _, I2, rfl, q r _ (.ref _) (Step.new1 hf) (sr.beside hf) (.ptp upd_same rfl (Nat.le_trans (cutG_le _ _ _) h3) ((h4.cut lo hi).of_none sr.own hf))⟩
  · cases e
theorem d_slP {e : Expr} {lo hi : Option Expr} {m : ME} {a b : MO} {p2 : Pos} (hK : g.K = X.K) (he : PE X e (tD g m)) (hl : PO X lo (tDo g a)) (hh : PO X hi (tDo g b)) : PE X (.Subscript e (.Slice lo hi none p2) pos) (tD g (eSlP m a b)) := by
  refine PE.weak (pe_slice (o_slP (g := g)) he hl hh) fun st H Q h => ?_
  obtain ⟨z, r, S, sl, v, S', R, e, q⟩ := h
  simp only [eSlP, Option.bind_eq_some_iff, Option.map_eq_some_iff] at e
  obtain ⟨⟨x, S1⟩, e1, ⟨l, S2⟩, e2, ⟨u, S3⟩, e3, w, e4, e5⟩ := e
  cases e5
  refine ⟨z, r, S, sl, x, S1, R, e1, fun r1 H1 hx st1 sr1 rx => ⟨z, r1, S1, sl, l, S2, R.step st1 sr1, e2, fun r2 H2 st2 sr2 => ?_⟩⟩
  refine ⟨z, r2, S2, sl, u, S3, (R.step st1 sr1).step st2 sr2, e3, fun r3 H3 st3 sr3 => ?_⟩
  exact ⟨z, r3, S3, x, v, sr3, (rx.mono st2 sr1.own).mono st3 sr2.own, e4, fun r4 H4 hv st4 sr4 rv => q r4 H4 hv (((st1.trans st2).trans st3).trans st4) sr4 rv⟩
/-! ### not, as a value; x += e -/
theorem d_notT {a : Expr} {m : ME} (ha : PE X a (tD g m)) (hb : ∀ sl S v S', m sl S = some (v, S') → ∃ b, v = .bl b) : PE X (.UnaryOp .Not a pos) (tD g (eOfT (tNotD (tTru m)))) := by
  refine PE.weak (pe_not ha) fun st H Q h => ?_
  obtain ⟨z, r, S, sl, v, S', R, e, q⟩ := h
  simp only [eOfT, tNotD, tTru, Option.bind_eq_some_iff] at e
  obtain ⟨⟨b, S1⟩, ⟨⟨b2, S2⟩, ⟨⟨x, S3⟩, e1, b3, e2, e3⟩, e4⟩, e5⟩ := e
  cases e3
  cases e4
  cases e5
  obtain ⟨k, rfl⟩ := hb _ _ _ _ e1
  cases e2
  refine ⟨z, r, S, sl, _, _, R, e1, fun r1 H1 hv s1 sr1 rv => ?_⟩
  cases rv
  exact ⟨_, rfl, q r1 H1 _ s1 sr1 (.bl _)⟩
theorem ds_aug {i : Nat} {x : Str} {e : Expr} {m : ME} {pos' : Pos} (hN : X.N.Nodup) (hi : X.N[i]? = some x) (hx : Loc X.env.scope x) (he : PE X e (tD g m)) (hf : X.fn x = true ∨ X.env.scope.names.lookup x = some .local := by first | exact .inl rfl | exact .inr rfl | assumption) : PS X (.AugAssign (.Name x pos') .Add e pos) (tDS g (sAug i m)) := by
  refine PS.weak (ps_aug (i := i) hN hi hx he ip_add hf) fun D st H h => ?_
  obtain ⟨z, r, S, sl, f, sl', S', R, e, q⟩ := h
  unfold sAug at e
  split at e
  · rename_i a ha
    simp only [Option.bind_eq_some_iff] at e
    obtain ⟨⟨b, S1⟩, e1, e2⟩ := e
    dsimp only at e2
    split at e2
    · cases e2
      obtain ⟨hv, h1, h2⟩ := R.sl.at_ i _ ha
      cases h2
      refine ⟨_, h1, z, r, S, sl, _, _, R, e1, fun r1 H1 hx s1 sr1 rx => ?_⟩
      cases rx
      exact ⟨_, _, rfl, rfl, q r1 H1 _ s1 ⟨sr1, (R.sl.mono s1 R.sr.own).set (.int _) i⟩⟩
    · cases e2
  · cases e
end
end Mp
namespace Mz
open PySem PySem.W
      PyProof.Rows L2
section
variable {prog : Program} {w : World} {A : Around} {E : Value → Shared → Prop} {s : Shared} {R : Result → Shared → Prop} {xs ys : Array Value}
theorem ext_zip {S z TI TO i1 i2 l1 l2 : Addr} (hh : A.handled = none) (D : ZipApart z TI TO i1 i2 l1 l2) (O : ZOff z TI TO i1 i2 l1 l2 S) (st : ZSt s.heap z TI TO i1 i2 l1 l2 S 0 xs ys) (hzz : ∃ v, s.heap.get? z = some v ∧ v.cls = .type "zip")
    (up : z ≤ S ∧ TO ≤ S ∧ i1 ≤ S ∧ i2 ≤ S) (hS : s.heap.get? S = some { cls := .type "list", data := .seq #[] }) (hn : min xs.size ys.size ≤ sizeLine)
    (hR : ∀ h' tk acc c as, (∀ b o, b ≠ S → b ≠ z → b ≠ TO → b ≠ i1 → b ≠ i2 → s.heap.get? b = some o → h'.get? b = some o) → h'.get? S = some { cls := .type "list", dict := none, data := .seq acc c, slots := #[] } → as.length = min xs.size ys.size → ZPs xs ys S h' as → acc.toList = as.map Value.ref →
      R (.ok (.ret .none)) { s with heap := h', toks := tk }) :
    wpAny (model prog w) A.in1 (Builtin.List.listExtendWith (.ref S) (.ref z) .none)
      (fun fin s' => match fin with
        | .done f => R (.ok f) s'
        | .again c' => c'.quiet = true ∧ codeAny (model prog w) A c' R s') (fun e s' => R (.error e) s') s := by
  have hSz : S ≠ z := Ne.symm O.a
  obtain ⟨v, hz, hc⟩ := hzz
  have hT : s.TypeIs (.ref z) "zip" := ⟨v, hz, hc⟩
  unfold
        Builtin.List.listExtendWith
  refine wpAny_bind
        (wpAny_typeOf hT ?_)
  have e1 : Builtin.List.listSameRef (.ref S) (.ref z) = false := by simp [Builtin.List.listSameRef, hSz]
  have e2 : (Value.type "zip" == Value.type "list") = false := by decide
  have e3 : (Value.type "zip" == Value.type "tuple") = false := by decide
  simp only [e1, e2, e3, Bool.or_false, Bool.false_eq_true, if_false]
  refine wpAny_bind (wpAny_pyIter_slot hT F.slot_zip_iter (wpAny_call_entry F.slot_zip_iter hT F.entry_zip_iter ?_ (F.args_zip_iter_1 _)))
  refine wpAny_pure ⟨_, rfl, "zip", _, hT, F.slot_zip_next.lookup, ?_⟩
  refine wpAny_bind
        (wpAny_holding ?_)
  unfold
        Builtin.List.listLengthHint
  refine wpAny_bind (wpAny_specialOf hT nolen_zip ?_)
  show wpAny _ A.in1 (specialOf (Value.ref z) (Str.ofString "__length_hint__") >>= _) _ _ _
  refine wpAny_bind (wpAny_specialOf hT nohint_zip ?_)
  refine wpAny_pure ?_
  show wpAny _ A.in1 (rule "list.extend.makes-room" >>= fun _ => Builtin.List.listTouch (.ref S) >>= fun _ => again (.builtin "list.extend.loop" ⟨[.ref S, .ref z, .none], []⟩)) _ _ _
  refine wpAny_bind
        (wpAny_rule ?_)
  refine wpAny_bind ?_
  show wpAny _ A.in1 (updateSeq S (·.push .none)
        >>= fun _ => updateSeq S (·.pop)) _ _ _
  refine wpAny_bind
        (wpAny_updateSeq hS rfl ?_)
  have hS₂ := Heap.get?_update_self
        (Obj.mapSeq (·.push Value.none)) hS rfl
  refine wpAny_updateSeq
        hS₂ rfl ?_
  have hS₃ := Heap.get?_update_self
        (Obj.mapSeq (·.pop)) hS₂ rfl
  have oth : ∀ b o, b ≠ S → s.heap.get? b = some o → ((s.heap.update S (Obj.mapSeq (·.push Value.none))).update S (Obj.mapSeq (·.pop))).get? b = some o := fun b o hb e => (Heap.get?_update_other _ _ (Ne.symm hb)).trans ((Heap.get?_update_other _ _ (Ne.symm hb)).trans e)
  refine wpAny_pure ⟨plainId_quiet F.plain_extend_loop _, zip_loop (s := s) (h₁ := s.heap) (lo := S) hh D O hn _ ⟨up.1, up.2.1, up.2.2.1, up.2.2.2, Nat.le_refl _⟩ (fun h' tk acc c as hk hS' hal hG hacc => hR h' tk acc c as hk hS' hal hG hacc) _ 0 _ s.toks _ #[] [] rfl (Nat.zero_le _) (st.keep O oth) (fun b o b0 _ _ _ _ e => oth b o b0 e) hS₃ rfl rfl ⟨List.Pairwise.nil, fun a ha => by simp at ha, fun j a hj => by simp at hj⟩ ?_⟩
  exact Heap.lt_size hS₃
theorem init_zip {S z TI TO i1 i2 l1 l2 : Addr} (hh : A.handled = none) (D : ZipApart z TI TO i1 i2 l1 l2) (O : ZOff z TI TO i1 i2 l1 l2 S) (st : ZSt s.heap z TI TO i1 i2 l1 l2 S 0 xs ys) (hzz : ∃ v, s.heap.get? z = some v ∧ v.cls = .type "zip")
    (up : z ≤ S ∧ TO ≤ S ∧ i1 ≤ S ∧ i2 ≤ S) (hS : s.heap.get? S = some { cls := .type "list", data := .seq #[] }) (hn : min xs.size ys.size ≤ sizeLine)
    (hR : ∀ h' tk acc c as, (∀ b o, b ≠ S → b ≠ z → b ≠ TO → b ≠ i1 → b ≠ i2 → s.heap.get? b = some o → h'.get? b = some o) → h'.get? S = some { cls := .type "list", dict := none, data := .seq acc c, slots := #[] } → as.length = min xs.size ys.size → ZPs xs ys S h' as → acc.toList = as.map Value.ref →
      R (.ok (.ret .none)) { s with heap := h', toks := tk }) :
    wpAny (model prog w) A.in1 (Builtin.«list.__init__» ⟨[.ref S, .ref z], []⟩)
      (fun fin s' => match fin with
        | .done f => R (.ok f) s'
        | .again c' => c'.quiet = true ∧ codeAny (model prog w) A c' R s') (fun e s' => R (.error e) s') s := by
  show wpAny _ A.in1 (do let old ← Builtin.List.listItems (.ref S); Builtin.List.listUpdate (.ref S) (fun _ => #[]); letGo old.toList.reverse; Builtin.List.listExtendWith (.ref S) (.ref z) .none) _ _ s
  refine wpAny_bind ?_
  unfold Builtin.List.listItems
  refine wpAny_bind
        (wpAny_seqItems hS rfl (wpAny_pure ?_))
  show wpAny _ A.in1 (updateSeq S (fun _ => #[]) >>= fun _ => letGo (#[] : Array Value).toList.reverse >>= fun _ => Builtin.List.listExtendWith (.ref S) (.ref z) .none) _ _ s
  refine wpAny_bind
        (wpAny_updateSeq hS rfl ?_)
  have hS₂ := Heap.get?_update_self (Obj.mapSeq
        (fun _ => (#[] : Array Value))) hS rfl
  have oth : ∀ b o, b ≠ S → s.heap.get? b = some o → (s.heap.update S (Obj.mapSeq (fun _ => (#[] : Array Value)))).get? b = some o := fun b o hb e => (Heap.get?_update_other _ _ (Ne.symm hb)).trans e
  refine wpAny_bind
        (wpAny_letGo ?_)
  obtain ⟨v, hz, hc⟩ := hzz
  refine ext_zip hh D O (st.keep O oth) ⟨v, oth _ _ O.a hz, hc⟩ up hS₂ hn fun h' tk acc c as hk hS' hal hG hacc => ?_
  exact hR h' tk acc c as (fun b o b0 b1 b2 b3 b4 e => hk b o b0 b1 b2 b3 b4 (oth b o b0 e)) hS' hal hG hacc
theorem call_list_zip {z TI TO i1 i2 l1 l2 : Addr} {Q : Value → Shared → Prop} (hh : A.handled = none) (D : ZipApart z TI TO i1 i2 l1 l2) (hz : IsZip s.heap z TI TO .none) (hTO : IsPair s.heap TO .none .none) (hTI : IsPair s.heap TI (.ref i1) (.ref i2))
    (h1 : s.heap.IsTupleIter i1 l1 0) (h2 : s.heap.IsTupleIter i2 l2 0) (hl1 : s.heap.IsTuple l1 xs) (hl2 : s.heap.IsTuple l2 ys) (hn : min xs.size ys.size ≤ sizeLine)
    (hQ : ∀ (h' : Heap) (tk c : Nat) (acc : Array Value) (as : List Addr), (∀ b o, b ≠ z → b ≠ TO → b ≠ i1 → b ≠ i2 → s.heap.get? b = some o → h'.get? b = some o) → h'.get? s.heap.objs.size = some { cls := .type "list", dict := none, data := .seq acc c, slots := #[] } → as.length = min xs.size ys.size → ZPs xs ys s.heap.objs.size h' as → acc.toList = as.map Value.ref →
      Q (.ref s.heap.objs.size)
            { s with heap := h', toks := tk }) :
    wpAny (model prog w) A (call (.type "list") [.ref z]) Q E s := by
  have lz : z < s.heap.objs.size := Heap.lt_size hz
  have lTI : TI < s.heap.objs.size := Heap.lt_size hTI
  have lTO : TO < s.heap.objs.size := Heap.lt_size hTO
  have li1 : i1 < s.heap.objs.size := by obtain ⟨o, e, _⟩ := h1; exact Heap.lt_size e
  have li2 : i2 < s.heap.objs.size := by obtain ⟨o, e, _⟩ := h2; exact Heap.lt_size e
  have ll1 : l1 < s.heap.objs.size := by obtain ⟨o, e, _⟩ := hl1; exact Heap.lt_size e
  have ll2 : l2 < s.heap.objs.size := by obtain ⟨o, e, _⟩ := hl2; exact Heap.lt_size e
  have O : ZOff z TI TO i1 i2 l1 l2 s.heap.objs.size := ⟨Nat.ne_of_lt lz, Nat.ne_of_lt lTI, Nat.ne_of_lt lTO, Nat.ne_of_lt li1, Nat.ne_of_lt li2, Nat.ne_of_lt ll1, Nat.ne_of_lt ll2⟩
  refine callType_codes (Q₁ := fun obj s₁ => obj = .ref s.heap.objs.size ∧ s₁ = { s with heap := s.heap.push { cls := .type "list", data := .seq #[] } }) F.called_list (F.typeCall_list_1 _) F.entry_list_init (code_list_new _ ⟨rfl, rfl⟩) fun obj s₁ h₁ => ?_
  obtain ⟨rfl, rfl⟩ := h₁
  have hS : (s.heap.push { cls := .type "list", data := .seq #[] }).get? s.heap.objs.size
        = some { cls := .type "list", data := .seq #[] } := Heap.get?_push_size _ rfl
  have p : ∀ b o, s.heap.get? b = some o → (s.heap.push { cls := .type "list", data := .seq #[] }).get? b = some o := fun b o e => Heap.get?_push_of_some _ e
  have st1 : ZSt (s.heap.push { cls := .type "list", data := .seq #[] }) z TI TO i1 i2 l1 l2 s.heap.objs.size 0 xs ys := ⟨p _ _ hTI, h1.at fun o e => p _ _ e, h2.at fun o e => p _ _ e, hl1.at fun o e => p _ _ e, hl2.at fun o e => p _ _ e, .inl ⟨p _ _ hz, _, _, p _ _ hTO⟩⟩
  refine ⟨⟨_, hS, rfl⟩, F.args_list_init_2 _ _, init_zip (A := A.in1) hh D O st1 ⟨_, p _ _ hz, rfl⟩ ⟨Nat.le_of_lt lz, Nat.le_of_lt lTO, Nat.le_of_lt li1, Nat.le_of_lt li2⟩ hS hn fun h' tk acc c as hk hS' hal hG hacc => ?_⟩
  exact ⟨rfl, hQ h' tk c acc as (fun b o b1 b2 b3 b4 e => hk b o (Nat.ne_of_lt (Heap.lt_size e)) b1 b2 b3 b4 (p b o e)) hS' hal hG hacc⟩
end
end Mz
namespace Mp
open PySem PySem.Spec PyProof.Rows L2 RZ
section
variable {X : Cx} {g : Gx} {pos : Pos}
def tLstZip (K : PySem.W.Frag) (ta : TA) : TE := fun σ H Q => ta σ H fun vs H1 => ∃ a b xs ys, vs = [.ref a, .ref b] ∧ SqT K H1 a xs ∧ SqT K H1 b ys ∧
  ∀ (as : List Addr) (H2 : Hp) (q : Addr), as.length = min xs.length ys.length → as.length ≤ sizeLine → (∀ c ∈ as, H1 c = none) → (∀ c, c ∉ as → H2 c = H1 c) →
    (∀ (j : Nat) (c : Addr) (x y : V), as[j]? = some c → xs[j]? = some x → ys[j]? = some y → H2 c = some (.tup [x, y])) → H2 q = none → Q (.ref q) (upd H2 q (.lst (as.map .ref)))
theorem pe_lstZip {e e2 : Expr} {ta : TA} {p p2 pos2 : Pos} (hc : X.calm = true) (hg : Gl X "list") (hm : X.mg "list" = none) (hg2 : Gl X "zip") (hm2 : X.mg "zip" = none) (ha : PA X [e, e2] ta)
    (hs : starEach [e, e2] X.env = (false, eval e X.env) :: starEach [e2] X.env := by rfl) (hpl : (backTo pos2 (starEach [e2] X.env)).any (·.1) = false := by rfl)
    (hs2 : starEach [.Call (.Name "zip" p2) [e, e2] [] pos2] X.env = (false, eval (.Call (.Name "zip" p2) [e, e2] [] pos2) X.env) :: starEach [] X.env := by rfl) :
    PE X (.Call (.Name "list" p) [.Call (.Name "zip" p2) [e, e2] [] pos2] [] pos) (tLstZip X.K ta) := by
  refine ⟨fun pins s
        σ H Q I h => ?_⟩
  refine Call_ (ld_blt I hg hm boot_list (PyProof.Rows.callWith_type1 (args_cons (Call_ (ld_blt I hg2 hm2 PyProof.Rows.boot_zip (PyProof.Rows.callWith_type1 (thn (ha.run pos2 pins s σ H _ I h) fun us s1 ⟨vs, H1, I1, r1, q1⟩ => ?_) hs hpl))) hs2) hs2 rfl))
  obtain ⟨a, b, xs, ys,
        ex, hqx, hqy, q⟩ := q1
  subst ex
  cases r1 with
  | cons r rr =>
    cases rr with
    | cons r' rr =>
      cases rr
      cases r
      cases r'
      obtain ⟨its, rv, p1, hzx⟩ := I1.tuple hqx
      obtain ⟨its2, rv2, p3, hzy⟩ := I1.tuple hqy
      obtain ⟨o1, ho1, _⟩ := id p1
      obtain ⟨o2, ho2, _⟩ := id p3
      have D := PySem.W.ktu_apart s1.heap.objs.size a b (Heap.lt_size ho1) (Heap.lt_size ho2)
      refine call_zipT (show s1.heap.IsTuple a its.toArray from p1) (show s1.heap.IsTuple b its2.toArray from p3) fun h0 hz hTI hTO h1 h2 hsz hk => args_nil ?_
      have t1 : h0.IsTuple a its.toArray := (show s1.heap.IsTuple a its.toArray from p1).at fun o e => hk _ _ e
      have t2 : h0.IsTuple b its2.toArray := (show s1.heap.IsTuple b its2.toArray from p3).at fun o e => hk _ _ e
      have lx := rv.length
      have ly := rv2.length
      have hn : min its.toArray.size its2.toArray.size ≤ sizeLine := by simp only [List.size_toArray]; omega
      refine Mz.call_list_zip (s := { s1 with heap := h0 }) (I1.ok.hd hc) D hz hTO hTI h1 h2 t1 t2 hn fun h' tk c acc as hk' hS hl hG hacc => ?_
      dsimp only at hk' hG hS ⊢
      have hS5 : s1.heap.objs.size + 5 ≤ h0.objs.size := by omega
      have above : ∀ c ∈ as, s1.heap.objs.size + 5 < c := fun c hcm => Nat.lt_of_le_of_lt hS5 (hG.above c hcm)
      have hHn : ∀ c ∈ as, H1 c = none := fun c hcm => I1.hok.fresh (Nat.le_of_lt (Nat.lt_of_le_of_lt (Nat.le_add_right _ 5) (above c hcm)))
      have hSn : H1 h0.objs.size = none := I1.hok.fresh (by omega)
      have hSas : h0.objs.size ∉ as := fun z => Nat.lt_irrefl _ (hG.above _ z)
      obtain ⟨hB, k1, k2⟩ := restrict h' fun b => decide (b ≠ h0.objs.size)
      have k1' : ∀ b, b ≠ h0.objs.size → hB.get? b = h'.get? b := fun b hb => k1 b (decide_eq_true hb)
      obtain ⟨G, g1, g2⟩ := restrict hB fun b => decide (b ∉ as)
      have g1' : ∀ b, b ∉ as → G.get? b = hB.get? b := fun b hb => g1 b (decide_eq_true hb)
      have I2 : Inv X pins σ H1 { s1 with heap := G, toks := tk } := I1.kept (t' := tk) fun c u e => by
        have hlt : c < s1.heap.objs.size := Heap.lt_size e
        rw [g1' c fun z => Nat.lt_irrefl c (Nat.lt_trans hlt (Nat.lt_of_le_of_lt (Nat.le_add_right _ 5) (above c z))), k1' c (Nat.ne_of_lt (Nat.lt_of_lt_of_le hlt (Nat.le_trans (Nat.le_add_right _ 5) hS5)))]
        exact hk' c u (Nat.ne_of_lt (Nat.lt_of_lt_of_le hlt (Nat.le_add_right _ 4))) (Nat.ne_of_lt (Nat.lt_of_lt_of_le hlt (Nat.le_add_right _ 3))) (Nat.ne_of_lt hlt) (Nat.ne_of_lt (Nat.lt_of_lt_of_le hlt (Nat.le_add_right _ 1))) (hk c u e)
      have nd : as.Nodup := hG.rise.imp fun h => Nat.ne_of_lt h
      obtain ⟨ps, hps⟩ : ∃ ps : List (V × V), ps = List.zip xs ys := ⟨_, rfl⟩
      have lps : as.length = ps.length := by rw [hl, hps, List.length_zip, List.size_toArray, List.size_toArray, lx, ly]
      obtain ⟨H2, I3, e1, e2⟩ := lay_pairs (h' := hB) as ps H1 G nd I2 g1' (fun c hcm => g2 c (decide_eq_false fun z => z hcm)) hHn lps fun j c pr x y => by
        rw [hps, List.getElem?_zip_eq_some] at y
        obtain ⟨u, v, f1, f2, f3⟩ := hG.pairs j c x
        obtain ⟨u', f4, f5⟩ := rv.get y.1
        obtain ⟨v', f6, f7⟩ := rv2.get y.2
        have f1' : its[j]? = some u := by simpa using f1
        have f2' : its2[j]? = some v := by simpa using f2
        rw [f4] at f1'
        rw [f6] at f2'
        cases f1'
        cases f2'
        refine ⟨_, _, f5, f7, ?_⟩
        have : c ≠ h0.objs.size := fun z => hSas (z ▸ List.mem_of_getElem? x)
        exact (k1' c this).trans f3
      have lz : as.length ≤ sizeLine := by rw [hl]; exact hn
      have hS2 : H2 h0.objs.size = none := by rw [e1 _ hSas]; exact hSn
      have accE : acc = (as.map Value.ref).toArray := by rw [← hacc]
      subst accE
      refine ⟨.ref h0.objs.size, upd H2 h0.objs.size (.lst (as.map .ref)), Inv.laidN (s := { s1 with heap := hB, toks := tk }) (t' := tk) I3 (fun c o e => ?_) (k2 _ (decide_eq_false fun z => z rfl)) hS2 ?_, rfl, q as H2 _ (by rw [hl, List.size_toArray, List.size_toArray, lx, ly]) lz hHn e1 (fun j c x y z1 z2 z3 => e2 j c (x, y) z1 (by rw [hps, List.getElem?_zip_eq_some]; exact ⟨z2, z3⟩)) hS2⟩
      · have : c ≠ h0.objs.size := fun z => by
          dsimp only at e
          rw [z, k2 _ (decide_eq_false fun z => z rfl)] at e
          cases e
        rw [← k1' c this]
        exact e
      · exact (show ObjOk X.prog X.w _ h' _ (.lst (as.map .ref)) from ⟨by rw [List.length_map]; exact lz, as.map Value.ref, c, vals_addrs as, hS⟩)
/-- list(zip(a, b)) -/
def eLstZip (a b : ME) : ME := fun sl S => (a sl S).bind fun p => (b sl p.2).bind fun q => (tupOf p.1).bind fun xs => (tupOf q.1).map fun ys => (.lst (zipL xs ys), q.2)
theorem d_lstZip {e e2 : Expr} {m m2 : ME} {p p2 pos2 : Pos} (hK : g.K = X.K) (hc : X.calm = true) (hg : Gl X "list") (hm : X.mg "list" = none) (hg2 : Gl X "zip") (hm2 : X.mg "zip" = none) (ha : PE X e (tD g m)) (hb : PE X e2 (tD g m2))
    (hs : starEach [e, e2] X.env = (false, eval e X.env) :: starEach [e2] X.env := by rfl) (hs' : starEach [e2] X.env = (false, eval e2 X.env) :: starEach [] X.env := by rfl) (hpl : (backTo pos2 (starEach [e2] X.env)).any (·.1) = false := by rfl)
    (hs2 : starEach [.Call (.Name "zip" p2) [e, e2] [] pos2] X.env = (false, eval (.Call (.Name "zip" p2) [e, e2] [] pos2) X.env) :: starEach [] X.env := by rfl) :
    PE X (.Call (.Name "list" p) [.Call (.Name "zip" p2) [e, e2] [] pos2] [] pos) (tD g (eLstZip m m2)) := by
  refine PE.weak (pe_lstZip hc hg hm hg2 hm2 (d_cons ha (d_cons hb d_nil hs') hs) hs hpl hs2) fun st H Q h => ?_
  obtain ⟨z, r, S, sl, v, S', R0, e, q⟩ := h
  simp only [eLstZip, Option.bind_eq_some_iff, Option.map_eq_some_iff] at e
  obtain ⟨⟨v1, S1⟩, e1, ⟨w, S2⟩, e3, xs, f1, ys, f2, f3⟩ := e
  cases f3
  dsimp only at e3 f1 f2 q
  refine ⟨z, r, S, sl, [v1, w], S2, R0, by simp [esCons, esNil, e1, e3], fun r1 H1 hv s1 sr1 rv => ?_⟩
  cases rv with
  | cons a b =>
    cases b with
    | cons b c =>
      cases c
      obtain ⟨p, vs, rfl, h1, h2, h3⟩ := tupOf_at a f1
      obtain ⟨p', ws, rfl, k1, k2, k3⟩ := tupOf_at b f2
      have h1' := h1
      have k1' := k1
      rw [show (g.at z).K = X.K from hK] at h1' k1'
      refine ⟨_, _, _, _, rfl, h1', k1', fun as H2 q' la lz hn ho hp hq => ?_⟩
      have more : ∀ b o, H1 b = some o → H2 b = some o := fun b o e => by
        rw [ho b fun hb => by rw [hn b hb] at e; cases e]
        exact e
      have s2 : Step r1 H1 r1 H2 := ⟨fun b o e _ => more b o e, ⟨[], by simp⟩, fun _ x => .inl x, fun b o u e => more b _ e⟩
      have sr2 : SR (g.at z) r1 H2 _ := sr1.more more
      have h3' := h3.mono s2 sr1.own
      have k3' := k3.mono s2 sr1.own
      have rs : RVs (g.at z) r1 H2 (zipL xs ys) (as.map .ref) := by
        refine RVs.of_get ?_ fun j x v hx hv => ?_
        · rw [zipL_len, List.length_map, la, h3.length, k3.length]
        · obtain ⟨x1, y1, hx1, hy1, rfl⟩ := zipL_get _ _ _ _ hx
          rw [List.getElem?_map, Option.map_eq_some_iff] at hv
          obtain ⟨c, hc1, rfl⟩ := hv
          obtain ⟨v1, hv1, rv1⟩ := h3'.get hx1
          obtain ⟨v2, hv2, rv2⟩ := k3'.get hy1
          exact .tup (.inl (.inl (hp j c v1 v2 hc1 hv1 hv2))) (by show 2 ≤ sizeLine; decide) (.cons rv1 (.cons rv2 .nil))
      exact q r1 _ _ (s1.trans (s2.trans (Step.new1 hq))) (sr2.beside hq) (RV.newL (g := g.at z) sr2 hq (by rw [zipL_len, h3.length, k3.length, ← la]; exact lz) rs)
end
end Mp
namespace Mp
open PySem PySem.Spec
      PyProof.Rows L2
section
variable {X : Cx} {g : Gx} {pos : Pos}
/-- {k: v}, k a tuple -/
def eOneN (mk mv : ME) : ME := fun sl S => (mk sl S).bind fun p => (mv sl p.2).bind fun q => (toK p.1).bind fun kk => if keyOk kk then some (.ref q.2.length, q.2 ++ [.dN [(kk, q.1)]]) else none
theorem key_ref {r : List Addr} {H : Hp} {k : Val} {kk : NestedKey} {hk : V} (rk : RV g r H k hk) (e : toK k = some kk) (ok : keyOk kk = true) : ∃ b, hk = .ref b := by
  unfold keyOk at ok
  rw [Bool.and_eq_true] at ok
  cases rk with
  | tup h1 h2 h3 => exact ⟨_, rfl⟩
  | non => cases e; exact absurd ok.2 (by simp)
  | int => cases e; exact absurd ok.2 (by simp)
  | str => cases e; exact absurd ok.2 (by simp)
  | bl => cases e
  | ty => cases e
  | fn => cases e
  | lst => cases e
  | scr => cases e
  | ref => cases e
  | ptp => cases e
theorem d_oneN {ke ve : Expr} {mk mv : ME} (hK : g.K = X.K) (hw : g.w = X.w) (hu : X.A.units + 12 < cLine) (hk : PE X ke (tD g mk)) (hv : PE X ve (tD g mv)) : PE X (.Dict [some ke] [ve] pos) (tD g (eOneN mk mv)) := by
  refine ⟨fun pins s st H Q I h => ?_⟩
  obtain ⟨z, r, S, sl, v, S', R, e, q⟩ := h
  simp only [eOneN, Option.bind_eq_some_iff] at e
  obtain ⟨⟨k, S1⟩, e1, ⟨x, S2⟩, e2, kk, e3, e4⟩ := e
  dsimp only at e2 e3 e4
  split at e4
  · rename_i ok
    cases e4
    have hp : H s.heap.objs.size = none := I.hok.fresh (Nat.le_refl _)
    have hnr : s.heap.objs.size ∉ r := notin_own R.sr.own hp
    have d0 : DnAt X.w s.heap.objs.size [] (s.heap.push { cls := .type "dict", data := .dict #[] }) := ⟨Nat.zero_le _, beq_eq_false_iff_ne.mpr (Ne.symm (Nat.ne_of_lt I.big)), [], .nil, _, #[], 0, Heap.get?_push_size _ rfl, ⟨rfl, rfl, rfl⟩, rfl, rfl, List.nodup_nil⟩
    have I1 : Inv X pins st (upd H s.heap.objs.size (DnHO X.w s.heap.objs.size [])) { s with heap := s.heap.push { cls := .type "dict", data := .dict #[] } } := I.laid (t' := s.toks) (fun _ _ q => Heap.get?_push_of_some _ q) (Nat.le_refl _) (dn_ok d0)
    have st0 : Step r H r (upd H s.heap.objs.size (DnHO X.w s.heap.objs.size [])) := Step.new1 hp
    have R1 : Rep (g.at z) r (upd H s.heap.objs.size (DnHO X.w s.heap.objs.size [])) S sl st := R.step st0 (R.sr.beside hp)
    rw [arm_eval_Dict, zip_pairTrees [some ke] [ve] X.env pos rfl rfl, dictDisplay_pairs (pairTrees [some ke] [ve] X.env pos) (by rw [Ne, ← List.length_eq_zero_iff, pairTrees_length _ _ _ _ rfl rfl]; simp) (by rw [pairTrees_length _ _ _ _ rfl rfl]; simp)]
    refine wpAny_bind (wpAny_standAt (wpAny_bind (wpAny_subDictH (knd := nestedKind X.prog X.w) (Q := fun d s' => wpAny (model X.prog X.w) X.A (pure (Value.ref d)) (EP X pins st Q) X.xe s') (by show X.A.units + 8 < cLine; omega) (by rw [pairTrees_length _ _ _ _ rfl rfl]; simp) ?_)))
    refine pairTrees_cons_walk (thn (hk.run pins _ st _ (fun hk' H1 => ∃ r1, Step r (upd H s.heap.objs.size (DnHO X.w s.heap.objs.size [])) r1 H1 ∧ SR (g.at z) r1 H1 S1 ∧ RV (g.at z) r1 H1 k hk') I1 ⟨z, r, S, sl, k, S1, R1, e1, fun r1 H1 hv st1 sr1 rv => ⟨r1, st1, sr1, rv⟩⟩) fun u s1 ⟨hk', H1, I2, rw2, r1, st1, sr1, rk⟩ => ?_)
    refine thn (hv.run pins s1 st H1 (fun hv' H2 => ∃ r2, Step r1 H1 r2 H2 ∧ SR (g.at z) r2 H2 S2 ∧ RV (g.at z) r2 H2 x hv') I2 ⟨z, r1, S1, sl, x, S2, R1.step st1 sr1, e2, fun r2 H2 hv st2 sr2 rv => ⟨r2, st2, sr2, rv⟩⟩) fun wv s2 ⟨hv', H2, I3, rw3, r2, st2, sr2, rx⟩ => ?_
    refine pairTrees_nil_walk ?_
    have s02 := st1.trans st2
    obtain ⟨hD, hnr2⟩ := s02.nin hnr upd_same
    have rk2 := rk.mono st2 sr1.own
    obtain ⟨b, rfl⟩ := key_ref rk2 e3 ok
    obtain rfl : u = .ref b := rw2
    have key : (nestedKind X.prog X.w).is s2.heap kk b := ⟨(RV.key (g := g.at z) hK I3 rk2 (show RelV (.ref b) (.ref b) from rfl) e3).1, keyOk_depth ok⟩
    have dA : DnAt X.w s.heap.objs.size [] s2.heap := (I3.hok _ _ hD).1
    obtain ⟨z1, z2, xs, rel, dd⟩ := dn_dict (P := X.prog) dA (fun _ h => by cases h)
    cases rel
    refine ⟨[(kk, b, wv)], ⟨rfl, rfl, key, trivial⟩, dd, fun h' tk dd' sb => wpAny_pure ?_⟩
    have rel' : Paired RowRel [(kk, b, hv')] [(kk, b, wv)] := .cons ⟨rfl, rfl, rw3⟩ .nil
    have at' : DnAt X.w s.heap.objs.size [(kk, b, hv')] h' := dn_of (P := X.prog) (by show 1 ≤ sizeLine; decide) z2 rel' dd'
    have c : Chg (DnHO X.w s.heap.objs.size []) := ⟨fun _ z => (nomatch z), fun _ _ z => (nomatch z), fun _ _ z => (nomatch z)⟩
    have nl : ∀ ys, DnHO X.w s.heap.objs.size [] ≠ .lst ys := fun _ z => (nomatch z)
    have no : (∀ ys, DnHO X.w s.heap.objs.size [(kk, b, hv')] ≠ .lst ys) ∧ ∀ ob ys, DnHO X.w s.heap.objs.size [(kk, b, hv')] ≠ .frz ob (.lst ys) := ⟨fun _ z => (nomatch z), fun _ _ z => (nomatch z)⟩
    have I4 : Inv X pins st (upd H2 s.heap.objs.size (DnHO X.w s.heap.objs.size [(kk, b, hv')])) { s2 with heap := h', toks := tk } := d_write I3 (by rw [hD]; exact True.intro) sb (by obtain ⟨_, _, _, _, o', _, _, e', _⟩ := at'; exact ⟨o', e'⟩) (dn_ok at')
    have ro : RO (g.at z) r2 (upd H2 s.heap.objs.size (DnHO X.w s.heap.objs.size [(kk, b, hv')])) s.heap.objs.size (.dN [(kk, x)]) (DnHO (g.at z).w s.heap.objs.size [(kk, b, hv')]) :=
      .dN rfl (by show 1 ≤ sizeLine; decide) (show RVs (g.at z) r2 _ [ofK kk] [.ref b] by rw [ofK_toK e3]; exact RVs.updf hD c nl (.cons rk2 .nil)) (RVs.updf hD c nl (.cons rx .nil))
    rw [show (g.at z).w = X.w from hw] at ro
    obtain ⟨sr3, st3⟩ := SR.own1 (H0 := H) (r0 := r) sr2 hD c nl no hnr2 hp (st0.trans s02) ro
    refine ⟨.ref s.heap.objs.size, _, I4, rfl, q _ _ (.ref _) st3 sr3 (.ref ?_)⟩
    rw [← sr2.len, List.getElem?_append_right (Nat.le_refl _)]
    simp
  · cases e4
end
end Mp
namespace Mp
open PySem PySem.Spec
      PyProof.Rows L2
/-! ### repr; texts compared as texts -/
def showOk (d : PyData) : Bool := d.canLay0 && (d.showable && (decide (d.depth ≤ 60) && decide (d.shown.length ≤ sizeLine)))
def fRepr : FN := fun S xs => match xs with
  | [a] => (toDS S a).bind fun d => if showOk d then some (.str d.shown) else none
  | _ => none
def fEqS (neg : Bool) (S : Sto) (a b : Val) : Option Val := match a, b with
  | .str x, .str y => some (.bl (neg ^^ (x == y)))
  | _, _ => none
theorem fEqS_bl {neg : Bool} : ∀ S x y v, fEqS neg S x y = some v → ∃ k, v = .bl k := fun S x y v e => by
  unfold fEqS at e
  split at e
  · cases e
    exact ⟨_, rfl⟩
  · cases e
section
variable {X : Cx} {g : Gx}
theorem c_repr (hK : g.K = X.K) (hu : X.A.units + 80 < cLine) (hg : X.A.guards = some []) : CallR X (.builtin "repr") (rGn g fRepr) := by
  intro pins s st H vs us Q I rs h
  obtain ⟨z, r, S, xs, v, sr, rx, e, q⟩ := h
  unfold fRepr at e
  split at e
  · simp only [Option.bind_eq_some_iff] at e
    obtain ⟨d, e1, e2⟩ := e
    split at e2
    · rename_i ok
      cases e2
      simp only [showOk, Bool.and_eq_true, decide_eq_true_eq] at ok
      obtain ⟨ok1, ok2, ok3, ok4⟩ := ok
      cases rx with
      | cons a t =>
        cases t
        obtain ⟨u, rfl, ru⟩ := vals1 rs
        obtain ⟨as, rd⟩ := toDS_reads (g := g.at z) hK I sr a e1 ru
        have fin : ∀ {s' : Shared} {t : Tok}, Inv X pins st H s' → EP X pins st Q (.str d.shown t) s' := fun I' => ⟨.str _, H, I', ⟨_, rfl⟩, q r H _ (.refl r H) sr (.str _)⟩
        cases u with
        | ref p =>
          exact repr_of_reads' rd ok2 (PyData.noDict_hsm (PyData.hasDict_of_canLay d ok1)) hg (by omega) (fun _ _ e => e) (fun h' u tk hk => fin (I.kept hk)) ok4
        | none => cases rd; exact P.repr_of_none (fin (I.tok _))
        | bool b => cases rd; exact P.repr_of_bool (fin (I.tok _))
        | int i t => cases rd; exact P.repr_of_int (of_decide_eq_true ok2) (fin (I.tok _))
        | str x t => cases rd; exact P.repr_of_str (fin (I.tok _)) ok4
        | _ => cases rd
    · cases e2
  · cases e
theorem o_eqS : OpR X (compareOp .Eq) (rG2 g (fEqS false)) := by
  intro pins s st H x y v u Q I rx ry h
  obtain ⟨z, r, S, a, b, w, sr, ra, rb, e, q⟩ := h
  unfold fEqS at e
  split at e
  · cases e
    cases ra
    cases rb
    obtain ⟨t1, rfl⟩ := rx
    obtain ⟨t2, rfl⟩ := ry
    refine eq_str ?_
    have := fin_blG I sr q
    simpa using this
  · cases e
theorem o_neS : OpR X (compareOp .NotEq) (rG2 g (fEqS true)) := by
  intro pins s st H x y v u Q I rx ry h
  obtain ⟨z, r, S, a, b, w, sr, ra, rb, e, q⟩ := h
  unfold fEqS at e
  split at e
  · cases e
    cases ra
    cases rb
    obtain ⟨t1, rfl⟩ := rx
    obtain ⟨t2, rfl⟩ := ry
    refine ne_str ?_
    have := fin_blG I sr q
    simpa [bne] using this
  · cases e
end
end Mp
namespace Mp
open PySem PySem.Spec
      PyProof.Rows L2
/-! ### defs that show things: nothing is being shown when they begin -/
structure FnG (P : Program) (w : World) (K : PySem.W.Frag) (mg : Str → Option Value) (base : Heap) (k : Nat) (f : Addr) (fd : FuncData) (ps : List Str) (sp : Sp) : Prop where
  len : ∀ vs H Q E, sp vs H Q E
        → vs.length = ps.length
  run : ∀ (A : Around) (outer : List Env) (s : Shared) (H : Hp) (args : Args) (us : List Value) (vs : List V) (Q : VK) (E : XK), A.guards = some [] → Room k A → Env0 P w K mg base A outer s H → BindsTo s fd args (ps.zip us) → Vals vs us → sp vs H Q E →
    codeAny (model P w) A (.call (.ref f) args) (CR CX0 outer P w H s Q E) s
section
variable {P : Program} {w : World} {K : PySem.W.Frag} {mg : Str → Option Value} {base : Heap} {g : Gx}
theorem FnG.imp {k : Nat} {f : Addr} {fd : FuncData} {ps : List Str} {sp sp' : Sp} (F : FnG P w K mg base k f fd ps sp) (h : ∀ vs H Q E, sp' vs H Q E → sp vs H Q E) : FnG P w K mg base k f fd ps sp' where
  len := fun vs H Q E q => F.len vs H Q E (h _ _ _ _ q)
  run := fun A outer s H args us vs Q E hg hr he hb hv hs => F.run A outer s H args us vs Q E hg hr he hb hv (h _ _ _ _ hs)
theorem FnG.mono {j k : Nat} {f : Addr} {fd : FuncData} {ps : List Str} {sp : Sp} (F : FnG P w K mg base j f fd ps sp) (h : j ≤ k) : FnG P w K mg base k f fd ps sp where
  len := F.len
  run := fun A outer s H args us vs Q E hg hr => F.run A outer s H args us vs Q E hg (hr.mono h)
theorem FnG.of {x : Str} {st : Stmt} {f : Addr} {fd : FuncData} {N ps : List Str} {k : Nat} {sp : Sp} (F : Fun K x x st f fd) (S : FnScope N ps (defScope st)) (len : ∀ vs H Q E, sp vs H Q E → vs.length = ps.length)
    (hbody : ∀ (cdv : Value) (A : Around) (outer : List Env) (s : Shared) (H : Hp) (vs : List V) (Q : VK) (E : XK), A.guards = some [] → Room k (A.deeper (envOfC x (defScope st) s.heap.objs.size f cdv)) → sp vs H Q E →
      ∃ t, PSs (cxOf CX0 P w K mg base N x (defScope st) f cdv A outer s H E).nox (defBody st) t ∧ t { nx := fun _ H' => Q .non H', rt := Q } (start N vs) H) : FnG P w K mg base (k + 1) f fd ps sp := by
  obtain ⟨oc, od, kV, doc, pm, an,
        cdv, ct, osl, rfl, lk, hcd⟩ := F.ex
  refine ⟨len, fun A outer s H args us vs Q E hg hr e0 hb rv hs => ?_⟩
  have KX : K.In s.heap := e0.mod.kin.keeps fun b o q => (e0.bs b o q).1
  refine codeAny_call_function hr.depth (KX _ _ lk) rfl S.co
        S.gen rfl (PySem.W.codeRec_of KX hcd) (hb _ _ _ _ ?_)
  have locals : ∀ q ∈ ps.zip us, (defScope st).names.lookup q.1 = some .local ∨ ((defScope st).names.lookup q.1 = some .cell ∧ ((cellsFrom (s.heap.objs.size + 1) (defScope st).names []).lookup q.1).isSome = true) := by
    rintro ⟨n, u⟩ hn
    have hp := S.par n (List.of_mem_zip hn).1
    exact hp.imp id fun c => ⟨c, PySem.W.cellsFrom_some _ _ _ (.inl c)⟩
  refine wpAny_newFunctionEnv_cells S.kind locals fun env he s1 x1 => ?_
  subst he
  obtain ⟨t, ht, hq⟩ := hbody cdv A outer s H vs Q E hg (hr.deeper _) hs
  have I : Inv (cxOf CX0 P w K mg base N x (defScope st) f cdv A outer s H E) [] (start N vs) H s1 := inv_start S hr.hd e0 (len _ _ _ _ hs) rv x1
  refine ⟨(e0.mod.nolimit.keeps fun b o q => (e0.bs b o q).1).keeps x1.toInCall.keep, codeAny_func ?_⟩
  have ends : ∀ {st' : L2.St} {H' : Hp} {v : V} {u : Value} {s' : Shared}, Inv (cxOf CX0 P w K mg base N x (defScope st) f cdv A outer s H E) [] st' H' s' → RelV v u → Q v H' → CE outer P w H s Q u s' :=
    fun {st' H' v u s'} J r q => ⟨v, H', J.os, J.bare, J.base, J.hok, r, q⟩
  refine wpAny_mono ((ht.nox).run [] s1 (start N vs) H _ I hq) ?_ fun e s' h => h
  intro fl s' h
  cases fl with
  | next => obtain ⟨st', H', J, q⟩ := h; exact ends (v := V.non) (u := Value.none) J rfl q
  | ret u => obtain ⟨v, st', H', J, r, q⟩ := h; exact ends J r q
  | brk => obtain ⟨_, _, _, q⟩ := h; exact q.elim
  | cont => obtain ⟨_, _, _, q⟩ := h; exact q.elim
theorem ok_defG {x : Str} {st : Stmt} {f : Addr} {fd : FuncData} {N ps : List Str} {k : Nat} {keep : Bool} {body : MS} {m : MF} (F : Fun K x x st f fd) (S : FnScope N ps (defScope st)) (hm : m = defM keep body N.length ps.length)
    (hbody : ∀ (cdv : Value) (A : Around) (outer : List Env) (s : Shared) (H : Hp) (E : XK), A.guards = some [] → Room k (A.deeper (envOfC x (defScope st) s.heap.objs.size f cdv)) → PSs (cxOf CX0 P w K mg base N x (defScope st) f cdv A outer s H E).nox (defBody st) (tDS g body)) : FnG P w K mg base (k + 1) f fd ps (spD g m) := by
  subst hm
  refine FnG.of F S (fun vs H Q E h => ?_) fun cdv A outer s H vs Q E hg hr h => ⟨_, hbody cdv A outer s H E hg hr, ?_⟩
  · obtain ⟨z, r, S, xs, v, S', sr, rx, e, q⟩ := h
    unfold defM at e
    split at e
    · rename_i hl
      rw [← rx.length]
      exact hl
    · cases e
  · obtain ⟨z, r, S, xs, v, S', sr, rx, e, q⟩ := h
    unfold defM at e
    split at e
    · rename_i hl
      simp only [Option.bind_eq_some_iff] at e
      obtain ⟨⟨fl, sl', S1⟩, e1, e2⟩ := e
      rw [← hl] at e1
      refine ⟨z, r, S, _, fl, sl', S1, start_rep sr rx, e1, fun r1 H1 st1 s1 R1 => ?_⟩
      have done : ∀ {v1 : Val} {hv : V}, RV (g.at z) r1 H1 v1 hv → (if keep then some (v1, S1) else leaveS S.length v1 S1) = some (v, S') → Q hv H1 := fun {v1 hv} rv e3 => by
        cases keep with
        | true =>
          cases e3
          exact q r1 H1 _ s1 R1.sr rv
        | false =>
          obtain ⟨r2, a1, a2, a3⟩ := leave_ok sr s1 R1.sr rv e3
          exact q r2 H1 _ a1 a2 a3
      cases fl with
      | nxt => exact done .non e2
      | ret v1 => exact fun hv rv => done rv e2
      | brk => cases e2
      | cnt => cases e2
    · cases e
end
section
variable {X : Cx} {g : Gx} {pos : Pos} {k j : Nat} {f : Addr} {fd : FuncData} {ps : List Str} {x : Str}
theorem run_fnG {pins : List (Addr × Obj)} {st : L2.St} {H : Hp} {s : Shared} {Q : VK} {us : List Value} {vs : List V} {sp : Sp} (F : FnG X.prog X.w X.K X.mg X.base k f fd ps sp) (hg : X.A.guards = some []) (hr : Room k X.A) (hb : Binds X.K fd ps [])
    (I : Inv X pins st H s) (rv : Vals vs us) (h : sp vs H Q E0) : wpAny (model X.prog X.w) X.A (call (.ref f) us) (EP X pins st Q) X.xe s := by
  have hl : us.length = ps.length := by rw [← rv.length, F.len _ _ _ _ h]
  have hb' := hb s us I.kIn (by rw [List.append_nil]; exact hl)
  rw [List.append_nil] at hb'
  refine wpAny_call (codeAny_mono (F.run X.A X.stack s H _ us vs Q E0 hg hr I.env0 hb' rv h) ?_)
  intro res s' hq
  match res, hq with
  | .error e, hq => exact hq.elim
  | .ok (.ret u), hq => exact I.after hq
  | .ok .next, hq => exact hq.elim
  | .ok .brk, hq => exact hq.elim
  | .ok .cont, hq => exact hq.elim
theorem d_callG {e : Expr} {es : List Expr} {ms : MEs} {m : MF} {p : Pos} (F : FnG X.prog X.w X.K X.mg X.base k f fd ps (spD g m)) (hgd : X.A.guards = some []) (hr : Room j X.A) (hk : k ≤ j) (hg : Gl X x) (hm : X.mg x = some (.ref f)) (kp : PySem.W.keepIn X.K (.ref f) = true) (hb : Binds X.K fd ps [])
    (ha : PA X (e :: es) (tDs g ms)) (hdb : (x == ("__debug__" : Str)) = false := by decide) (he : starEach (e :: es) X.env = (false, eval e X.env) :: starEach es X.env := by rfl) (hpl : (backTo pos (starEach es X.env)).any (·.1) = false := by rfl) :
    PE X (.Call (.Name x p) (e :: es) [] pos) (tD g (eCall m ms)) := by
  refine ⟨fun pins s st H Q I h => ?_⟩
  refine wpAny_Call_Name_kw
        (ld_glob I hg hm ?_ hdb)
  obtain ⟨z, r, S, sl, v, S', R, e1, q⟩ := h
  simp only [eCall, Option.bind_eq_some_iff] at e1
  obtain ⟨⟨xs, S1⟩, e2, e3⟩ := e1
  refine PySem.W.callWith_K (h₀ := X.base) I.ok.mod.kin kp (thn (ha.run pos pins s st H (fun vs H1 => spD g m vs H1 Q E0) I ⟨z, r, S, sl, xs, S1, R, e2, fun r1 H1 hv s1 sr1 rx => ⟨z, r1, S1, xs, v, S', sr1, rx, e3, fun r2 H2 hw s2 sr2 rv => q r2 H2 hw (s1.trans s2) sr2 rv⟩⟩) ?_) he hpl
  rintro us s1 ⟨vs, H1, I1, rv, h1⟩
  exact ⟨I1.kIn, run_fnG F hgd (hr.mono hk) hb I1 rv h1⟩
/-! ### calls whose arguments are all named -/
theorem dk_nil : PK X [] (tDs g esNil) := ⟨fun pos pins s st H Q I h => pk_nil.run pos pins s st H Q I (by
  obtain ⟨z, r, S, sl, v', S', R, e, q⟩ := h
  cases e
  exact q r H [] (.refl r H) R.sr .nil)⟩
theorem dk_cons {e : Expr} {kws : List Keyword} {nm : Option Str} {kpos : Pos} {m : ME} {ms : MEs} (h : PE X e (tD g m)) (hs : PK X kws (tDs g ms)) : PK X (⟨nm, e, kpos⟩ :: kws) (tDs g (esCons m ms)) := ⟨fun pos pins s st H Q I h' => (pk_cons h hs).run pos pins s st H Q I (by
  obtain ⟨z, r, S, sl, v', S', R, e, q⟩ := h'
  unfold esCons at e
  simp only [Option.bind_eq_some_iff] at e
  obtain ⟨⟨a, S1⟩, e1, ⟨b, S2⟩, e2, e3⟩ := e
  cases e3
  refine ⟨z, r, S, sl, a, S1, R, e1, fun r1 H1 x st1 sr1 rx => ⟨z, r1, S1, sl, b, S2, R.step st1 sr1, e2, fun r2 H2 y st2 sr2 ry => ?_⟩⟩
  exact q r2 H2 (x :: y) (st1.trans st2) sr2 (.cons (rx.mono st2 sr1.own) ry))⟩
/-- the values in the parameters' order -/
def laid {α : Type} (d : α) (ix : List Nat) (xs : List α) : List α := ix.map fun i => xs.getD i d
def eCallK (m : MF) (ix : List Nat) (ms : MEs) : ME := fun sl S => (ms sl S).bind fun p => if p.1.length = ix.length then m (laid .non ix p.1) p.2 else none
theorem vals_laid {vs : List V} {us : List Value} (h : Vals vs us) : ∀ ix : List Nat, (∀ i ∈ ix, i < vs.length) → Vals (laid V.non ix vs) (laid Value.none ix us)
  | [], _ => .nil
  | i :: ix, hi => by
    refine .cons ?_ (vals_laid h ix fun j hj => hi j (List.mem_cons_of_mem _ hj))
    have h1 := hi i List.mem_cons_self
    obtain ⟨u, hu, r⟩ := h.get (List.getElem?_eq_getElem h1)
    show RelV (vs.getD i V.non) (us.getD i Value.none)
    rw [List.getD_eq_getElem?_getD, List.getD_eq_getElem?_getD, List.getElem?_eq_getElem h1, hu]
    exact r
theorem rvs_get {r : List Addr} {H : Hp} {G : Gx} {xs : List Val} {vs : List V} (h : RVs G r H xs vs) : ∀ i : Nat, i < xs.length → RV G r H (xs.getD i .non) (vs.getD i .non) := by
  induction xs generalizing vs with
  | nil => intro i hi; cases hi
  | cons x xs ih =>
    cases h with
    | cons a t =>
      intro i hi
      cases i with
      | zero => exact a
      | succ i => exact ih t i (Nat.lt_of_succ_lt_succ hi)
theorem rvs_laid {r : List Addr} {H : Hp} {G : Gx} {xs : List Val} {vs : List V} (h : RVs G r H xs vs) : ∀ ix : List Nat, (∀ i ∈ ix, i < xs.length) → RVs G r H (laid Val.non ix xs) (laid V.non ix vs)
  | [], _ => .nil
  | i :: ix, hi => .cons (rvs_get h i (hi i List.mem_cons_self)) (rvs_laid h ix fun j hj => hi j (List.mem_cons_of_mem _ hj))
/-- how such a call binds -/
def BindK (fd : FuncData) (ps ks : List Str) (ix : List Nat) : Prop := ∀ (s : Shared) (ws : List Value), ws.length = ks.length → BindsTo s fd ⟨[], ks.zip ws⟩ (ps.zip (laid Value.none ix ws))
theorem run_fnK {pins : List (Addr × Obj)} {st : L2.St} {H : Hp} {s : Shared} {Q : VK} {ws : List Value} {zs : List V} {sp : Sp} {ks : List Str} {ix : List Nat} (F : FnOk X.prog X.w X.K X.mg X.base CX0 k f fd ps sp) (hr : Room k X.A) (hb : BindK fd ps ks ix) (hi : ∀ i ∈ ix, i < ks.length)
    (I : Inv X pins st H s) (rv : Vals zs ws) (hl : zs.length = ks.length) (h : sp (laid .non ix zs) H Q E0) : wpAny (model X.prog X.w) X.A (call (.ref f) [] (ks.zip ws)) (EP X pins st Q) X.xe s := by
  refine wpAny_call (codeAny_mono (F.run X.A X.stack s H ⟨[], ks.zip ws⟩ (laid .none ix ws) (laid .non ix zs) Q E0 hr I.env0 (hb s ws (rv.length.symm.trans hl)) (vals_laid rv ix fun i q => by rw [hl]; exact hi i q) h) ?_)
  intro res s' hq
  match res, hq with
  | .error e, hq => exact hq.elim
  | .ok (.ret u), hq => exact I.after hq
  | .ok .next, hq => exact hq.elim
  | .ok .brk, hq => exact hq.elim
  | .ok .cont, hq => exact hq.elim
theorem d_callK {kws : List Keyword} {ks : List Str} {ix : List Nat} {ms : MEs} {m : MF} {p : Pos} (F : FnOk X.prog X.w X.K X.mg X.base CX0 k f fd ps (spD g m)) (hr : Room j X.A) (hk : k ≤ j) (hg : Gl X x) (hm : X.mg x = some (.ref f)) (kp : PySem.W.keepIn X.K (.ref f) = true) (hb : BindK fd ps ks ix)
    (ha : PK X kws (tDs g ms)) (hi : ix.all (· < ks.length) = true := by rfl) (hn : ix.length = ks.length := by rfl) (hall : (backToKw pos (keywordEach kws X.env)).all (·.1.isSome) = true := by rfl) (hks : (backToKw pos (keywordEach kws X.env)).filterMap (·.1) = ks := by rfl) (hdb : (x == ("__debug__" : Str)) = false := by decide)
    (hpl : ((backTo pos (starEach [] X.env)).any (·.1) || (backToKw pos
          (keywordEach kws X.env)).any (·.1.isNone)) = false := by rfl) :
    PE X (.Call (.Name x p) [] kws pos) (tD g (eCallK m ix ms)) := by
  refine ⟨fun pins s st H Q I h => ?_⟩
  refine wpAny_Call_Name_kw
        (ld_glob I hg hm ?_ hdb)
  obtain ⟨z, r, S, sl, v, S', R, e1, q⟩ := h
  simp only [eCallK, Option.bind_eq_some_iff] at e1
  obtain ⟨⟨xs, S1⟩, e2, e3⟩ := e1
  have hi' : ∀ i ∈ ix, i < ks.length := fun i hx => by simpa using List.all_eq_true.mp hi i hx
  split at e3
  · rename_i hl
    refine PySem.W.callWith_KW0 (h₀ := X.base) I.ok.mod.kin kp hall ?_ hpl
    refine thn (ha.run pos pins s st H (fun zs H1 => zs.length = ks.length ∧ spD g m (laid .non ix zs) H1 Q E0) I ⟨z, r, S, sl, xs, S1, R, e2, fun r1 H1 hv s1 sr1 rx => ⟨by rw [← rx.length, ← hn]; exact hl, z, r1, S1, laid .non ix xs, v, S', sr1, rvs_laid rx ix fun i hx => (by rw [show xs.length = _ from hl, hn]; exact hi' i hx), e3, fun r2 H2 hw s2 sr2 rv => q r2 H2 hw (s1.trans s2) sr2 rv⟩⟩) ?_
    rintro ws s1 ⟨zs, H1, I1, rv, hz, h1⟩
    rw [hks]
    exact ⟨I1.kIn, run_fnK F (hr.mono hk) hb hi' I1 rv hz h1⟩
  · cases e3
end
end Mp
namespace Mp
open PySem PySem.Spec
      PyProof.Rows L2
theorem bindK_of {K : PySem.W.Frag} {x qual : Str} {st : Stmt} {f : Addr} {fd : FuncData} {ps ks : List Str} {ix : List Nat} (F : Fun K x qual st f fd)
    (h : ∀ (kV doc pm : Value) (an : Option Addr) (cdv ct : Value) (ws : List Value), ws.length = ks.length → bindArgs (PySem.W.fnOf x qual (defArgs st) (defBody st) (defScope st) .none kV doc pm an cdv ct) ⟨[], ks.zip ws⟩ = pure (ps.zip (laid Value.none ix ws))) : BindK fd ps ks ix := by
  obtain ⟨oc, od, kV, doc, pm, an,
        cdv, ct, osl, rfl, lk, hcd⟩ := F.ex
  exact fun s ws hl => .of_eq (h kV doc pm an cdv ct ws hl)
/-! ### the law's call, where the law itself shows things -/
def HpS (a : Addr) (vs : List Value) (ns : List Int) : Hp := fun b => if b = a then some (.frz { cls := .type "list", data := .seq vs.toArray } (.lst (ns.map V.int))) else none
theorem HpS.self {a : Addr} {vs : List Value} {ns : List Int} : HpS a vs ns a = some (.frz { cls := .type "list", data := .seq vs.toArray } (.lst (ns.map V.int))) := if_pos rfl
theorem HpS.other {a b : Addr} {vs : List Value} {ns : List Int} (h : b ≠ a) : HpS a vs ns b = none := if_neg h
theorem script_call {P : Program} {w : World} {K : PySem.W.Frag} {mg mb : Str → Option Value} {k : Nat} {fa a : Addr} {fd : FuncData} {x : Str} {sp : Sp} {s₁ : Shared} {vs : List Value} {ns : List Int}
    (KX : K.In s₁.heap) (gN : s₁.heap.Ns mainGlobals mg) (bN : s₁.heap.Ns builtinsNs mb) (bb : ∀ y : Str, y ≠ "__name__" → mb y = bootBuiltins y) (noLim : s₁.heap.NoLimit) (noGen : s₁.gens = #[])
    (at_ : s₁.heap.get? a = some { cls := .type "list", data := .seq vs.toArray }) (intsA : IntsAre vs ns) (short : ns.length ≤ sizeLine) (room : Room k callerA) (out : K.lookup a = none)
    (F : ∀ base : Heap, K.In base → base.Ns mainGlobals mg → FnG P w K mg base k fa fd [x] sp) (binds : ∀ (s : Shared) (u : Value), BindsTo s fd ⟨[u], []⟩ [(x, u)])
    (hsp : ∀ H : Hp, SqL K H a (ns.map V.int) → sp [.ref a] H (fun v _ => v = .bl true) E0) :
    codeAny (model P w) callerA (.call (.ref fa) ⟨[.ref a], []⟩) (fun res s' => res = .ok (.ret (.bool true)) ∧ OldK s₁.heap s'.heap ∧ s'.os = s₁.os ∧ AllBare s'.gens) s₁ := by
  have rv := vals_ints intsA
  have keep : ∀ {b : Addr} {o : Obj}, s₁.heap.get? b = some o → b ≠ a → (hidT s₁.heap (HpS a vs ns)).get? b = some o := fun q n => hidT_get q (HpS.other n)
  have dictNe : ∀ {b : Addr} {o : Obj} {es : Array DictEntry} {ep : Nat}, s₁.heap.get? b = some o → o.data = .dict es ep → b ≠ a := by
    rintro b o es ep q d rfl
    rw [at_] at q
    cases q
    exact nomatch (show Data.seq vs.toArray _ = Data.dict es ep from d)
  have ns' : ∀ {b : Addr} {m : Str → Option Value}, s₁.heap.Ns b m → (hidT s₁.heap (HpS a vs ns)).Ns b m := by
    rintro b m ⟨o, es, ep, q, d, rest⟩
    exact ⟨o, es, ep, keep q (dictNe q d), d, rest⟩
  have KB : K.In (hidT s₁.heap (HpS a vs ns)) := fun b o q => keep (KX b o q) (by
    rintro rfl
    rw [out] at q
    cases q)
  have hok : HOk P w (HpS a vs ns) s₁.heap := by
    intro b u q
    by_cases hb : b = a
    · subst hb
      rw [HpS.self] at q
      cases q
      exact ⟨at_, by rw [List.length_map]; exact short, vs, _, rv, at_⟩
    · rw [HpS.other hb] at q
      cases q
  have md : L2.Mod K mg (hidT s₁.heap (HpS a vs ns)) := ⟨KB, ns' gN, ⟨mb, ns' bN, bb⟩, by
    obtain ⟨mc, h1, h2⟩ := noLim
    exact ⟨mc, ns' h1, h2⟩⟩
  have e0 : Env0 P w K mg (hidT s₁.heap (HpS a vs ns)) callerA [] s₁ (HpS a vs ns) := ⟨rfl, md, fun b o => of_hidT, Nat.le_of_eq (hidT_size _ _), trivial, fun b hb => (List.not_mem_nil (show b ∈ ([] : List Addr) from hb)).elim, hok, .of_eq noGen⟩
  have go := (F _ KB (ns' gN)).run callerA [] s₁ (HpS a vs ns) ⟨[.ref a], []⟩ [.ref a] [.ref a] (fun v _ => v = .bl true) E0 rfl room e0 (binds s₁ (.ref a)) (.cons rfl .nil) (hsp _ (.inl (.inr ⟨_, HpS.self⟩)))
  refine codeAny_mono go ?_
  intro res s' h
  match res, h with
  | .error e, h => exact h.elim
  | .ok .next, h => exact h.elim
  | .ok .brk, h => exact h.elim
  | .ok .cont, h => exact h.elim
  | .ok (.ret u), ⟨v, H', os, bare, un, hok', r', q⟩ =>
    obtain rfl : v = V.bl true := q
    obtain rfl : u
          = Value.bool true := r'
    refine ⟨rfl, OldK.of_keep fun b o q => ?_, os, bare⟩
    by_cases hb : b = a
    · subst hb
      have z := (hok' b _ (un.frzs b _ _ HpS.self)).1
      rw [at_] at q
      cases q
      exact z
    · exact un.keep b o q (HpS.other hb) (fun z => (List.not_mem_nil (show b ∈ ([] : List Addr) from z)).elim) (by simp)
theorem walk_G {l : PySem.W.OpenLaw} {n k : Nat} {q : Program} {loose : List Str} {XP : (Str → Option Value) → Heap → Prop} {YP : World → Heap → Prop} {d : DefRec} {K : Params → PySem.W.Frag} {sp : World → Sp} {x : Str}
    (hn : l.most = some n) (hn2 : n ≤ sizeLine) (hdf : d.params.defaults = [])
          (hr : Room k callerA) (hY : ∀ (w : World) (h : Heap), YP w h → (K w.params).In h)
    (out : ∀ (w : World) (a : Addr) (o : Obj), (K w.params).lookup a = some o → o.cls = .type "list" → False)
    (F : ∀ (w : World) (mg : Str → Option Value) (fa : Addr) (h : Heap),
          (K w.params).In h → h.Ns mainGlobals mg → mg d.name = some (.ref fa) →
      ∃ fd : FuncData, (∀ (s : Shared) (u : Value), BindsTo s fd ⟨[u], []⟩ [(x, u)]) ∧ ∀ base : Heap, (K w.params).In base → base.Ns mainGlobals mg → FnG l.prog w (K w.params) mg base k fa fd [x] (sp w))
    (hsp : ∀ (w : World) (H : Hp) (a : Addr) (ns : List Int), ns.length ≤ n → SqL (K w.params) H a (ns.map V.int) → sp w [.ref a] H (fun v _ => v = .bl true) E0) :
    PySem.W.WalkO q loose XP YP l.row.toRowW d
          [] (fun f vs => PySem.call f vs) := by
  refine Att.attach_call hn hdf ?_
  intro w s₀ s₁ mg mb fa o pm cd doc a vs ns G Y ho hd hcd hmg hobj hints hlen hg
  obtain ⟨fd, hb, hF⟩ := F w mg fa _ (hY w _ Y) G.T.g hmg
  refine script_call (hY w _ Y) G.T.g G.T.b G.T.builtins G.T.nolimit hg hobj hints (Nat.le_trans hlen hn2) hr ?_ hF hb fun H hS => hsp w H a ns hlen hS
  cases e : (K w.params).lookup a with
  | none => rfl
  | some o' =>
    have := hY w _ Y a o' e
    rw [hobj] at this
    cases this
    exact (out w a _ e rfl).elim
structure Cal1G (P : Program) (w : World) (K : PySem.W.Frag) (mg : Str → Option Value) (base : Heap) (g : Gx) (k : Nat) (x : Str) (ps : List Str) (m : MF) : Prop where
  ex : ∃ f fd, FnG P w K mg base k f fd ps (spD g m) ∧ mg x = some (.ref f) ∧ PySem.W.keepIn K (.ref f) = true ∧ Binds K fd ps []
structure Cal1K (P : Program) (w : World) (K : PySem.W.Frag) (mg : Str → Option Value) (base : Heap) (g : Gx) (k : Nat) (x : Str) (ps : List Str) (m : MF) (ks : List Str) (ix : List Nat) : Prop where
  ex : ∃ f fd, FnOk P w K mg base CX0 k f fd ps (spD g m) ∧ mg x = some (.ref f) ∧ PySem.W.keepIn K (.ref f) = true ∧ BindK fd ps ks ix
end Mp
namespace Mp
open PySem PySem.Spec
      PyProof.Rows L2
/-! ### the smallest of a list of numbers -/
def toIs : List Val → Option (List Int)
  | [] => some []
  | .int i :: r => (toIs r).map fun is => i :: is
  | _ => none
def leastI : List Int → Int
  | [] => 0
  | [i] => i
  | i :: r => if i ≤ leastI r then i else leastI r
theorem leastI_le : ∀ {ns : List Int}, ns ≠ [] → ∀ j ∈ ns, leastI ns ≤ j
  | [], h, _, _ => (h rfl).elim
  | [i], _, j, hj => by rw [List.mem_singleton.mp hj]; exact Int.le_refl _
  | i :: k :: r, _, j, hj => by
    have ih := leastI_le (ns := k :: r) (by simp)
    have e : leastI (i :: k :: r) = if i ≤ leastI (k :: r) then i else leastI (k :: r) := rfl
    rw [e]
    rcases List.mem_cons.mp hj with rfl | hj
    · split <;> omega
    · have := ih j hj
      split <;> omega
theorem leastI_mem : ∀ {ns : List Int}, ns ≠ [] → leastI ns ∈ ns
  | [], h => (h rfl).elim
  | [i], _ => List.mem_singleton.mpr rfl
  | i :: k :: r, _ => by
    have ih := leastI_mem (ns := k :: r) (by simp)
    have e : leastI (i :: k :: r) = if i ≤ leastI (k :: r) then i else leastI (k :: r) := rfl
    rw [e]
    split
    · exact List.mem_cons_self
    · exact List.mem_cons_of_mem _ ih
def fMinI : FN := fun S xs => match xs with
  | [a] => (lstOf S a).bind fun ys => (toIs ys).bind fun is => if is = [] then none else some (.int (leastI is))
  | _ => none
theorem rvs_ints {G : Gx} {r : List Addr} {H : Hp} : ∀ {ys : List Val} {ws : List V} {is : List Int}, RVs G r H ys ws → toIs ys = some is → ws = is.map V.int
  | [], _, _, .nil, e => by cases e; rfl
  | y :: ys, _, is, .cons a t, e => by
    cases y with
    | int i =>
      simp only [toIs, Option.map_eq_some_iff] at e
      obtain ⟨js, e1, rfl⟩ := e
      cases a
      rw [rvs_ints t e1]
      rfl
    | _ => cases e
theorem c_minI {X : Cx} {g : Gx} (hK : g.K = X.K) (hc : X.calm = true) : CallR X (.builtin "min") (rGn g fMinI) := by
  intro pins s st H vs us Q I rs h
  obtain ⟨z, r, S, xs, v, sr, rx, e, q⟩ := h
  unfold fMinI at e
  split at e
  · simp only [Option.bind_eq_some_iff] at e
    obtain ⟨ys, e1, is, e2, e3⟩ := e
    split at e3
    · cases e3
    · rename_i hne
      cases e3
      cases rx with
      | cons a b =>
        cases b
        obtain ⟨p, ws, rfl, hp, hz, hs⟩ := lstOf_at sr a e1
        have hw := rvs_ints hs e2
        subst hw
        refine cr_min hc pins s st H _ us Q I rs ⟨p, is, rfl, .inl (.inl hp), List.length_pos_iff.mpr hne, fun m hm hle => ?_⟩
        have e : m = leastI is := Int.le_antisymm (hle _ (leastI_mem hne)) (leastI_le hne m hm)
        rw [e]
        exact q r H _ (.refl r H) sr (.int _)
  · cases e
end Mp
namespace Mp
open PySem PySem.Spec
      PyProof.Rows L2
/-! ### d.get(k), where the keys of d are nested tuples -/
def fGetD (S : Sto) (d : Val) (xs : List Val) : Option (Val × Sto) := match xs with
  | [k] => if isDn S d then (dicGet S d k).map fun o => (o.getD .non, S) else none
  | _ => none
section
variable {X : Cx} {g : Gx} {pos : Pos}
theorem m_getD (hK : g.K = X.K) (hw : g.w = X.w) (hu : X.A.units + 12 < cLine) {pins : List (Addr × Obj)} {s : Shared} {st : L2.St} {H : Hp} {z r : List Addr} {S : Sto} {n : Nat} {k : Val} {hd hk : V} {v u : Value} {o : Option Val} {Q : Value → Shared → Prop} (I : Inv X pins st H s) (sr : SR (g.at z) r H S) (rd : RV (g.at z) r H (.ref n) hd) (rk : RV (g.at z) r H k hk) (ev : RelV hd v) (eu : RelV hk u) (hn : isDn S (.ref n) = true) (e : dicGet S (.ref n) k = some o)
    (q : ∀ hv w s', Inv X pins st H s' → RelV hv w → RV (g.at z) r H (o.getD .non) hv → Q w s') : wpAny (model X.prog X.w) X.A (call (.builtin "dict.get") [v, u]) Q X.xe s := by
  rcases ask_dic (g := g.at z) hK hw I sr rd rk e with ⟨a, kk, kws, rfl, rfl, hr, hv⟩ | ⟨a, b, kk, rows, xs, rfl, rfl, hkk, hsys, rel, dd, hv⟩
  · exfalso
    have hn' : (match S[n]? with | some (SO.dN _) => true | _ => false) = true := hn
    split at hn'
    · rename_i kvs hx
      cases rd with
      | ref ha =>
        obtain ⟨ob, ho, ro⟩ := sr.at_ _ _ _ hx ha
        cases ro with
        | dN =>
          rcases hr with hr | ⟨od, hr⟩
          · rw [ho] at hr
            cases hr
          · rw [ho] at hr
            cases hr
    · cases hn'
  · cases ev
    cases eu
    refine PySem.get_keyed (by show X.A.units + 1 + 8 < cLine; omega) hkk hsys ⟨xs, dd, rfl⟩ ?_
    rw [PySem.valueAt_pairsH]
    cases o with
    | none =>
      have hv : PySem.atKey xs kk = none := hv
      rw [hv]
      exact q .non .none _ (I.tok _) rfl .non
    | some y =>
      obtain ⟨c, v', u', h1, h2, h3⟩ := hv
      rw [h1]
      exact q v' u' _ (I.tok _) h2 h3
theorem mt_getD (hK : g.K = X.K) (hw : g.w = X.w) (hu : X.A.units + 12 < cLine) : MtR X "dict.get" (rMG g fGetD) := by
  intro pins s st H x vs v us Q I rx rvs h
  obtain ⟨z, r, S, a, xs, w, S', sr, ra, rxs, e, q⟩ := h
  unfold fGetD at e
  split at e
  · rename_i k
    split at e
    · rename_i hn
      simp only [Option.map_eq_some_iff] at e
      obtain ⟨o, e1, e2⟩ := e
      cases e2
      cases rxs with
      | cons b t =>
        cases t
        obtain ⟨u, rfl, ru⟩ := vals1 rvs
        have hr : ∃ n, a = .ref n := by
          unfold isDn at hn
          split at hn
          · exact ⟨_, rfl⟩
          · cases hn
        obtain ⟨n, rfl⟩ := hr
        exact m_getD hK hw hu I sr ra b rx ru hn e1 fun hv w' s' I' rw' rv' => ⟨hv, H, I', rw', q r H hv (.refl r H) sr rv'⟩
    · cases e
  · cases e
variable {o e : Expr} {mo : ME} {ms : MEs} {apos cpos : Pos}
theorem d_getD (hK : g.K = X.K) (hw : g.w = X.w) (hu : X.A.units + 12 < cLine) (ho : PE X o (tD g mo)) (ha : PA X [e] (tDs g ms)) (hbase : attributeBase o "get" X.env (eval o X.env) = eval o X.env := by rfl)
    (hfew : ((backTo cpos (starEach [e] X.env)).all (fun x => !x.1) && (backToKw cpos (keywordEach [] X.env)).all (fun x => x.1.isSome) && decide (([e] : List Expr).length + ([] : List Keyword).length + (if ([] : List Keyword).isEmpty then 0 else 1) < 30)) = true := by rfl)
    (hline : (apos.endLine == cpos.line) = true := by rfl) (hs : starEach [e] X.env = (false, eval e X.env) :: starEach [] X.env := by rfl) (hpl : (backTo cpos (starEach [] X.env)).any (·.1) = false := by rfl) : PE X (.Call (.Attribute o "get" apos) [e] [] cpos) (tD g (eMeth isDn fGetD mo ms)) :=
  PE.weak (pe_bmS (dnT_ok (w := g.w)) F.plainAttrs_dict F.slot_dict_get F.type_dict_get (mt_getD hK hw hu) ho ha hbase hfew hline hs hpl) fun _ _ _ h => meth_readS (fun z r H S a x sr ra hc => by
    unfold isDn at hc
    split at hc
    · split at hc
      · rename_i hx
        cases ra with
        | ref ha =>
          obtain ⟨u, hu, ro⟩ := sr.at_ _ _ _ hx ha
          cases ro with
          | dN => exact ⟨_, _, rfl, hu⟩
      · cases hc
    · cases hc) h
end
end Mp
namespace L2
open PySem PySem.Spec
      PyProof.Rows
/-! ### dict comprehensions whose dict is any that the heap knows of -/
def PutsAt (P : Program) (w : World) (K : PySem.W.Frag) (A : Around) (D : Addr) (y z : V) (H H' : Hp) : Prop := ∀ (X : Cx), X.prog = P → X.w = w → X.K = K → X.A = A → ∀ (pins : List (Addr × Obj)) (st : L2.St) (s : Shared) (u r : Value) (Q : Unit → Shared → Prop) (E : Value → Shared → Prop),
  Inv X pins st H s → RelV y u → RelV z r → (∀ s', Inv X pins st H' s' → Q () s') → wpAny (model X.prog X.w) X.A (dictSet D u r) Q E s
section
variable {X : Cx}
def tDcG (P : Program) (w : World) (K : PySem.W.Frag) (A : Around) (o0 : Addr → HO) (wi : TI) (g : TG) (tt : TT) (tk tv : TE) (vs : List Nat) : TE := fun σ H Q => wi σ H fun J H1 => ∀ D, H1 D = none → ∃ W : Nat → Nat → Hp → Prop, (∃ m, W 0 m (upd H1 D (o0 D))) ∧ ∀ i m H, W i m H →
  (J.stop i H ∧ Q (.ref D) H) ∨ (J.go i H ∧ ∃ Nx : Hp → Prop, (∀ H', Nx H' → ∃ m', m' < m ∧ W (i + 1) m' H')
        ∧ ∀ x H', J.yld i H x H' → g x (wipe σ vs) H' fun σ2 H2 => wipe σ2 vs = wipe σ vs ∧ tt σ2 H2 fun b H3 =>
    if b = true then tk σ2 H3 fun y H4 => tv σ2 H4 fun z H5 => ∃ H6, PutsAt P w K A D y z H5 H6 ∧ Nx H6 else Nx H3)
theorem dcG_core {pins : List (Addr × Obj)} {s : Shared} {σ : St} {H : Hp} {Q : VK} {kx vx tg iter : Expr} {ifs : List Expr} {scope : Scope} {own : List (Str × Nat)} {pos pos' : Pos} {wi : TI} {g : TG} {tt : TT} {tk tv : TE} {o0 : Addr → HO} {use : Option (Value → Sem Unit)} {Qf : Value → Shared → Prop}
    (hnew : ∀ {H2 : Hp} {s2 : Shared}, Inv X pins σ H2 s2 → Inv X pins σ (upd H2 s2.heap.objs.size (o0 s2.heap.objs.size)) { s2 with heap := s2.heap.push { cls := .type "dict", data := .dict #[] } }) (hc : X.calm = true) (hN : X.N.Nodup) (I : Inv X pins σ H s) (hi : PI X tg iter wi) (ok : BlkOk X.N X.env.scope scope own)
    (hg : ∀ (s : Shared) (H : Hp) (C : Addr) (cl : List (Str × Addr)) (fp : List Addr), PG (X.blk s H scope (compEnvC scope cl C X.env) fp) tg g)
          (ht : ∀ (s : Shared) (H : Hp) (C : Addr) (cl : List (Str × Addr)) (fp : List Addr), PTs (X.blk s H scope (compEnvC scope cl C X.env) fp) ifs tt)
    (hk : ∀ (s : Shared) (H : Hp) (C : Addr) (cl : List (Str × Addr))
          (fp : List Addr), PE (X.blk s H scope (compEnvC scope cl C X.env) fp) kx tk)
    (he : ∀ (s : Shared) (H : Hp) (C : Addr) (cl : List (Str × Addr)) (fp : List Addr), PE (X.blk s H scope
          (compEnvC scope cl C X.env) fp) vx tv) (hs : ∀ x, foldedSetIterable iter X.env x = pure x)
    (h : tDcG X.prog X.w X.K X.A o0 wi g tt tk tv (own.map (·.2)) σ H Q)
    (hRR : ∀ D C s' m H', Inv X pins σ H' s' → Q (.ref D) H' → s'.heap.Ns C m → FpOk X pins H' C
          → compPost (model X.prog X.w) X.A X.xe use Qf (.ref D) C (.ok .next) s') :
    wpAny (model X.prog X.w) X.A (comprehension (.DictComp kx vx [⟨tg, iter, ifs, 0⟩]
          scope pos) scope X.env pos' newDict false (eval iter X.env) use) Qf X.xe s := by
  have hfree : ∀ y ∈ scope.names, y.2 = .free
        → ∃ c, X.env.cells.lookup y.1 = some c := fun y hy e => by
    rcases ok.free y hy e
          with k | k
    · exact I.ok.has _ (.inl k)
    · exact I.ok.has _ (.inr k)
  refine wpAny_comprehension_free (use := use) rfl hs
        (closure_ok hfree) ok.kind (fun y hy e => by rw [ok.uniq y hy, e])
    (thn (hi.run pins s σ H _ I h) fun xv
          s1 hx => thn hx fun itv s2 h2 => ?_)
  obtain ⟨it, fp, tn, J, H2,
        e, I2, T, st2, f2, q⟩ := h2
  subst e
  refine wpAny_newObj_type
        (newEnv_comp ?_)
  generalize hD :
        s2.heap.objs.size = D
  have hDn : H2 D = none := I2.hok.fresh
        (Nat.le_of_eq hD)
  obtain ⟨W,
        ⟨m0, w0⟩, turn⟩ := q D hDn
  -- the new list
  generalize hs3 :
        ({ s2 with heap := s2.heap.push { cls := .type "dict", data := .dict #[] } } : Shared) = s3
  have I3 : Inv X pins σ (upd H2 D (o0 D)) s3 := by
    rw [← hs3]
    rw [← hD]
    exact hnew I2
  have h3 : s3.heap = s2.heap.push
        { cls := .type "dict", data := .dict #[] } := by rw [← hs3]
  have sz : ∀ b ∈ fp, b <
        s2.heap.objs.size := fun b hb => by
    obtain ⟨o, e, _⟩ :=
          T.obj _ _ st2 b hb
    exact Heap.lt_size e
  have f3 : ∀ b ∈ fp, FpOk X pins (upd H2 D (o0 D)) b ∧ b < s3.heap.objs.size := fun b hb => by
    have hlt := sz b hb
    refine ⟨⟨?_, (f2 b hb).2⟩,
          by rw [h3, Heap.size_push]; exact Nat.lt_succ_of_lt hlt⟩
    rw [upd_ne
          (by rw [← hD]; exact Nat.ne_of_lt hlt)]
    exact (f2 b hb).1
  have st3 : tn 0 s3.heap := T.keep _ _ _ st2 fun b _
        o e => by rw [h3]; exact Heap.get?_push_of_some _ e
  have I4 := block_start
        I3 ok hN f3
  have pg := hg s3 (upd H2 D (o0 D)) s3.heap.objs.size (cellsFrom (s3.heap.objs.size + 1) scope.names (cloFrom X.env.cells scope.names [])) fp
  have pt := ht s3 (upd H2 D (o0 D)) s3.heap.objs.size (cellsFrom (s3.heap.objs.size + 1) scope.names (cloFrom X.env.cells scope.names [])) fp
  have pk := hk s3 (upd H2 D (o0 D)) s3.heap.objs.size (cellsFrom (s3.heap.objs.size + 1) scope.names (cloFrom X.env.cells scope.names [])) fp
  have pe := he s3 (upd H2 D (o0 D)) s3.heap.objs.size (cellsFrom (s3.heap.objs.size + 1) scope.names (cloFrom X.env.cells scope.names [])) fp
  show codeAny _ _ (.compStart (.DictComp kx vx [⟨tg, iter, ifs, 0⟩] scope pos) 0 (.ref it) (.ref D) (compEnvC scope (cellsFrom (s3.heap.objs.size + 1) scope.names (cloFrom X.env.cells scope.names
        [])) s3.heap.objs.size X.env)) (compPost (model X.prog X.w) X.A X.xe use Qf (.ref D) s3.heap.objs.size) { s3 with heap := pushCells (s3.heap.push { cls := .type "dict", data := .dict #[] }) scope.names }
  have nfp : ∀ b ∈ fp, (upd H2 D (o0 D)) b = none := fun b hb => (f3 b hb).1.1
  generalize hce : compEnvC scope (cellsFrom (s3.heap.objs.size + 1) scope.names
        (cloFrom X.env.cells scope.names [])) s3.heap.objs.size X.env = ce at I4 pg pt pk pe ⊢
  have cL : ce.locals
        = s3.heap.objs.size := by subst hce; rfl
  generalize hH3 : upd H2 D (o0 D) = H3 at I3 I4 pg pt pk pe w0 nfp f3
  generalize hs4 :
        ({ s3 with heap := pushCells (s3.heap.push { cls := .type "dict", data := .dict #[] }) scope.names } : Shared) = s4 at I4 ⊢
  have st4 : tn 0 s4.heap := T.keep _ _ _ st3 fun b _ o e =>
        by rw [← hs4]; exact pushCells_keeps _ _ _ _ (Heap.get?_push_of_some _ e)
  have stat : ∀ {σ' : St} {H' : Hp} {s' : Shared}, Inv (X.blk s3 H3 scope ce fp) [] σ' H' s' → (∀ b ∈ fp, H' b
        = none) → ∀ b ∈ fp, FpOk (X.blk s3 H3 scope ce fp) [] H' b := fun {σ' H' s'} I' hn b hb =>
    ⟨hn b hb, (I'.ok.exf b hb).1, I'.ok.exfs b hb, .inl hb, fun x c e => (I'.ok.exf b hb).2
          x c e, fun p hp => absurd (show p ∈ ([] : List (Addr × Obj)) ++ [] from hp) (by simp)⟩
  have loop : codeAny (model X.prog X.w) X.A (.compLoop (.DictComp kx vx [⟨tg, iter, ifs, 0⟩] scope pos) 0
        (.ref it) (.ref D) ce) (compPost (model X.prog X.w) X.A X.xe use Qf (.ref D) s3.heap.objs.size) s4 := by
    refine compLoop_anyD (fun n s' => ∃ i H', Inv (X.blk s3 H3 scope ce fp) [] (wipe σ (own.map
          (·.2))) H' s' ∧ tn i s'.heap ∧ (∀ b ∈ fp, H' b = none) ∧ W i n H') ?_ m0 ⟨0, H3, I4, st4, nfp, w0⟩
    rintro n s5
          ⟨i, H5, I5, st5, n5, w5⟩
    rcases turn i n H5 w5
          with ⟨stop, qq⟩ | ⟨go, Nx, hNx, step⟩
    · have td := T.done (X.blk s3 H3 scope ce fp) rfl rfl rfl hc i
            [] s5 _ H5 (fun _ _ => False) I5 (stat I5 n5) st5 stop
      refine thnF td fun r s6
            ⟨hr, I6⟩ => ?_
      subst hr
      -- back in the def's context
      have I7 : Inv X pins σ H5 s6 := I3.call' (ch := fp) I6.os I6.base I6.hok I6.bare fun b hb =>
            ⟨(f3 b hb).1.2.2.2.1, (f3 b hb).1.2.1, (f3 b hb).1.2.2.2.2.1, (f3 b hb).1.2.2.2.2.2⟩
      have nC : H5 s3.heap.objs.size
            = none := by
        have z : H5 ce.locals
              = none := I6.free
        rw [cL] at z
        exact z
      obtain ⟨m, hn, _⟩ := I6.loc
      have hn : s6.heap.Ns
            ce.locals m := hn
      rw [cL] at hn
      exact hRR D s3.heap.objs.size s6 m H5
            I7 qq hn (I3.fpOk (Nat.le_refl _) nC)
    · have ti := T.item (X.blk s3 H3 scope ce fp) rfl rfl rfl hc i
            [] s5 _ H5 (fun _ _ => False) I5 (stat I5 n5) st5 go
      refine thnF ti fun r s6
            ⟨u, hr, h6⟩ => ?_
      subst hr
      refine thnF h6 fun _ s7
            ⟨x, H7, I7, r7, y7, st7, n7⟩ => ?_
      have I7' := I7.pinned
            (stat I7 n7) (T.obj _ _ st7)
      refine thnF (pg.run _ s7 _ H7 x u _ I7' r7
            (step x H7 y7)) fun _ s8 ⟨σ8, H8, I8, hw8, q8⟩ => ?_
      refine thnF (pt.run _ s8 σ8 H8 _
            I8 q8) fun b s9 ⟨H9, I9, q9⟩ => ?_
      -- the turn's end
      have fin : ∀ {s' : Shared} {H' : Hp}, Inv (X.blk s3 H3 scope ce fp) ([] ++ pinsAt fp s7.heap) σ8 H' s' → Nx H' → ∃ m, m < n ∧ ∃ i H', Inv
            (X.blk s3 H3 scope ce fp) [] (wipe σ (own.map (·.2))) H' s' ∧ tn i s'.heap ∧ (∀ b ∈ fp, H' b = none) ∧ W i m H' := fun {s' H'} I' nx => by
        obtain ⟨m', hm,
              w'⟩ := hNx H' nx
        have pin' : ∀ b ∈ fp, ∀ o, s7.heap.get? b = some o
              → s'.heap.get? b = some o ∧ H' b = none := fun b hb o e =>
          let z := I'.pin (b, o) (List.mem_append_right _
                (List.mem_append_right _ (mem_pinsAt hb e)))
          ⟨z.1, z.2.1⟩
        have hl : (wipe σ (own.map (·.2))).length
              = σ8.length := by rw [← hw8, wipe_length]
        refine ⟨m', hm, i + 1, H', (I'.unpinned (pins := [])).weak hl (fun j v e =>
              ?_), T.keep _ _ _ st7 fun b hb o e => (pin' b hb o e).1, fun b hb => ?_, w'⟩
        · rw [← hw8] at e
          exact (wipe_some e).1
        · obtain ⟨o, e, _⟩ :=
                T.obj _ _ st7 b hb
          exact (pin' b hb o e).2
      cases b with
      | false =>
        simp only [Bool.false_eq_true,
              if_false] at q9 ⊢
        exact fin I9 q9
      | true =>
        simp only [if_true] at q9 ⊢
        refine thnF (pk.run _ s9 σ8 H9 _ I9 q9)
              fun z s10 ⟨yk, H10, I10, r10, q10⟩ => ?_
        refine thnF (pe.run _ s10 σ8 H10 _ I10 q10) fun z2 s11 ⟨yv, H11, I11, r11, H12, pt12, nx⟩ => ?_
        exact pt12 (X.blk s3 H3 scope ce fp) rfl rfl rfl rfl _ _ _ _ _ _ _ I11 r10 r11 fun s12 I12 => fin I12 nx
  exact codeAny_compStart_dict loop
        (T.self X.A 0 _ _ _ st4 loop)
theorem pe_dcG {kx vx tg iter : Expr} {ifs : List Expr} {scope : Scope} {own : List (Str × Nat)} {pos : Pos} {wi : TI} {g : TG} {tt : TT} {tk tv : TE} {o0 : Addr → HO}
    (hnew : ∀ {pins : List (Addr × Obj)} {st : L2.St} {H2 : Hp} {s2 : Shared}, Inv X pins st H2 s2 → Inv X pins st (upd H2 s2.heap.objs.size (o0 s2.heap.objs.size)) { s2 with heap := s2.heap.push { cls := .type "dict", data := .dict #[] } }) (hc : X.calm = true) (hN : X.N.Nodup) (hi : PI X tg iter wi) (ok : BlkOk X.N X.env.scope scope own)
    (hg : ∀ (s : Shared) (H : Hp) (C : Addr) (cl : List (Str × Addr)) (fp : List Addr), PG (X.blk s H scope (compEnvC scope cl C X.env) fp) tg g)
          (ht : ∀ (s : Shared) (H : Hp) (C : Addr) (cl : List (Str × Addr)) (fp : List Addr), PTs (X.blk s H scope (compEnvC scope cl C X.env) fp) ifs tt)
    (hk : ∀ (s : Shared) (H : Hp) (C : Addr) (cl : List (Str × Addr))
          (fp : List Addr), PE (X.blk s H scope (compEnvC scope cl C X.env) fp) kx tk)
    (he : ∀ (s : Shared) (H : Hp) (C : Addr) (cl : List (Str × Addr)) (fp : List Addr), PE (X.blk s H scope
          (compEnvC scope cl C X.env) fp) vx tv) (hs : ∀ x, foldedSetIterable iter X.env x = pure x := by intro _; rfl) :
    PE X (.DictComp kx vx [⟨tg, iter, ifs, 0⟩] scope pos) (tDcG X.prog X.w X.K X.A o0 wi g tt tk tv (own.map (·.2))) := by
  refine ⟨fun pins s st H Q I h => ?_⟩
  rw [arm_eval_DictComp]
  refine dcG_core hnew hc hN I hi ok hg ht hk he hs h ?_
  rintro D C s' m H' I' q hn ⟨f0, f1, f2, f3, f4, f5⟩
  exact ⟨m, hn, fun h'' sb => ⟨.ref D, H', I'.turned (t' := s'.toks) (fun b o hb e => (sb.2 b hb).trans e) f0 f1 f3 f4 f5, rfl, q⟩⟩
end
end L2
namespace Mp
open PySem PySem.Spec
      PyProof.Rows L2
/-! ### {k: v for x in it}: a new dict of the store -/
section
variable {P : Program} {w : World} {K : PySem.W.Frag} {A : Around} {g : Gx}
theorem puts_dic {r : List Addr} {H : Hp} {S S' : Sto} {n : Nat} {a : Addr} {k x : Val} {hk hx : V} (hK : g.K = K) (hw : g.w = w) (hu : A.units + 12 < cLine) (sr : SR g r H S) (ha : r[n]? = some a) (rk : RV g r H k hk) (rx : RV g r H x hx) (e : dicPut S (.ref n) k x = some S') :
    ∃ H', PutsAt P w K A a hk hx H H' ∧ Step r H r H' ∧ SR g r H' S' := by
  unfold dicPut at e
  split at e
  · rename_i n' heq
    cases heq
    split at e
    · rename_i kvs hn
      simp only [Option.bind_eq_some_iff] at e
      obtain ⟨kk, e1, e2⟩ := e
      split at e2
      · rename_i hl
        cases e2
        obtain ⟨o, ho, ro⟩ := sr.at_ _ _ _ hn ha
        cases ro with
        | @dK _ kws h1 hz h2 =>
          have hlw : kws.length < sizeLine := by
            have := congrArg List.length h1
            simp only [List.length_map] at this
            omega
          have c : Chg (.dK kws) := ⟨fun _ z => (nomatch z), fun _ _ z => (nomatch z), fun _ _ z => (nomatch z)⟩
          have ham := List.mem_of_getElem? ha
          obtain ⟨p1, p2⟩ := putM_rows (k := kk) h1 h2 rx
          have ekk := keyV_at rk e1
          subst ekk
          obtain ⟨sr', st'⟩ := sr.put (so := .dK (putM kvs kk x)) (o := .dK (putK kws kk hx)) ha ho c (fun _ _ z => nomatch z) (.dK p1 (by have := putM_le kvs kk x; omega) (p2.updr ham ho c))
          exact ⟨_, fun X _ _ _ _ pins st s u w' Q E I ru rw' hq => d_dictSet (X := X) I ho hlw ru rw' hq, st', sr'⟩
      · cases e2
    · rename_i kvs hn
      simp only [Option.bind_eq_some_iff] at e
      obtain ⟨kk, e1, e2⟩ := e
      split at e2
      · rename_i ok
        cases e2
        simp only [Bool.and_eq_true,
              decide_eq_true_eq] at ok
        obtain ⟨⟨ok1, ok2⟩, hl⟩ := ok
        obtain ⟨o, ho, ro⟩ := sr.at_ _ _ _ hn ha
        cases ro with
        | @dN _ rows h1 hz h2 h3 =>
          have c : Chg (DnHO g.w a rows) := ⟨fun _ z => (nomatch z), fun _ _ z => (nomatch z), fun _ _ z => (nomatch z)⟩
          have ham := List.mem_of_getElem? ha
          have pr := rows_pair h1 h2 h3
          have tup : ∃ b, hk = .ref b := by
            unfold keyOk at ok1
            rw [Bool.and_eq_true] at ok1
            cases rk with
            | tup h1 h2 h3 => exact ⟨_, rfl⟩
            | non => cases e1; exact absurd ok1.2 (by simp)
            | int => cases e1; exact absurd ok1.2 (by simp)
            | str => cases e1; exact absurd ok1.2 (by simp)
            | bl => cases e1
            | ty => cases e1
            | fn => cases e1
            | lst => cases e1
            | scr => cases e1
            | ref => cases e1
            | ptp => cases e1
          obtain ⟨b, rfl⟩ := tup
          have pr' := pair_put (k := kk) (b := b) (by rw [ofK_toK e1]; exact rk) rx pr
          have hl' : (putG kvs kk x).length ≤ sizeLine := by have := putG_length kk x kvs; omega
          have up : Paired (DRow g r (upd H a (DnHO g.w a (putR rows kk b hx)))) (putG kvs kk x) (putR rows kk b hx) := Paired.mono (fun p q h => ⟨h.1, h.2.1.updr ham ho c, h.2.2.updr ham ho c⟩) pr'
          obtain ⟨sr', st'⟩ := sr.put (so := .dN (putG kvs kk x)) (o := DnHO g.w a (putR rows kk b hx)) ha ho c (fun _ _ z => nomatch z) (ro_dn up hl')
          refine ⟨_, fun X hP hW hKX hA pins st s u w' Q E I ru rw' hq => ?_, st', sr'⟩
          subst hP hW hKX hA
          have d0 : DnAt g.w a rows s.heap := (I.hok a _ ho).1
          rw [hw] at d0
          obtain ⟨z1, z2, xs, rel, dd⟩ := dn_dict (P := X.prog) d0 (keys_is hK I pr ok2)
          obtain rfl : u = .ref b := ru
          have key : (nestedKind X.prog X.w).is s.heap kk b := ⟨(RV.key hK I rk (show RelV (.ref b) (.ref b) from rfl) e1).1, keyOk_depth ok1⟩
          have el : xs.length = rows.length := (Paired.length rel).symm
          have er : rows.length = kvs.length := (Paired.length pr).symm
          refine wpAny_dictSet_heap (hsz := by omega) (by show X.A.units + 8 < cLine; omega) key dd fun h' dd' sb => ?_
          have rel' := rel_put (k := kk) (b := b) rw' rel (by obtain ⟨_, _, _, _, _, _, _, _, h⟩ := dd; exact h)
          have at' : DnAt X.w a (putR rows kk b hx) h' := dn_of (by rw [← Paired.length pr']; exact hl') z2 rel' dd'
          refine hq _ (d_write I (by rw [ho]; exact True.intro) sb ?_ (by rw [hw]; exact dn_ok at'))
          obtain ⟨_, _, _, _, o', _, _, e', _⟩ := at'
          exact ⟨o', e'⟩
      · cases e2
    · cases e
  · rename_i h
    exact (h n rfl).elim
def dcX (t : Tn) (tt : MT) (kx vx : ME) (s : Src) (sl : Sl) (n : Nat) : List Val → Sto → Option Sto
  | [], S => if s.ok S then some S else none
  | x :: xs, S => if s.ok S then (t.m sl S x).bind fun sl1 => (tt sl1 S).bind fun p => if p.1 then (kx sl1 p.2).bind fun k => (vx sl1 k.2).bind fun v => (dicPut v.2 (.ref n) k.1 v.1).bind fun S' => dcX t tt kx vx s sl n xs S' else dcX t tt kx vx s sl n xs p.2
    else none
def eDc (so : SO) (t : Tn) (it : MI) (tt : MT) (kx vx : ME) (vs : List Nat) : ME := fun sl S => (it sl S).bind fun p => (dcX t tt kx vx p.1 (wipeS sl vs) p.2.length p.1.l (p.2 ++ [so])).map fun S' => (.ref p.2.length, S')
theorem dc_read {st : L2.St} {H : Hp} {t : Tn} {it : MI} {tt : MT} {kx vx : ME} {vs : List Nat} {so : SO} {o0 : Addr → HO} (hK : g.K = K) (hw : g.w = w) (hu : A.units + 12 < cLine) (hm : ∀ i ∈ t.all, i ∈ vs) {z r : List Addr} {S S' : Sto} {sl : Sl} {v : Val} (R : Rep (g.at z) r H S sl st)
    (hro : ∀ (r : List Addr) (H : Hp) (D : Addr), RO (g.at z) r H D so (o0 D)) (e : eDc so t it tt kx vx vs sl S = some (v, S')) {Q : VK}
    (q : ∀ r' H' hv, Step r H r' H' → SR (g.at z) r' H' S' → RV (g.at z) r' H' v hv → Q hv H') :
    tDcG P w K A o0 (iD g it) (t.t K) (tDt g tt) (tD g kx) (tD g vx) vs st H Q := by
  simp only [eDc, Option.bind_eq_some_iff, Option.map_eq_some_iff] at e
  obtain ⟨⟨src, S1⟩, e1, S2', e2, e0⟩ := e
  cases e0
  refine ⟨z, r, S, sl, src, S1, R, e1, fun r1 H1 J st1 sr1 ok D hD => ?_⟩
  obtain ⟨srD, sD⟩ := sr1.grow (so := so) (o := o0 D) hD (hro _ _ _)
  have sl1 : SlR (g.at z) (r1 ++ [D]) (upd H1 D (o0 D)) (wipeS sl vs) (wipe st vs) := ((R.sl.mono st1 R.sr.own).wipe vs).mono sD sr1.own
  have hn0 : (r1 ++ [D])[S1.length]? = some D := by
    rw [← sr1.len, List.getElem?_append_right (Nat.le_refl _)]
    simp
  have zs : Zs z z H1 := fun p hp => .inl hp
  have keep : ∀ {ra rb : List Addr} {Ha Hb : Hp}, Step ra Ha rb Hb → ra[S1.length]? = some D → rb[S1.length]? = some D := fun {ra rb Ha Hb} s h => by
    obtain ⟨t', rfl⟩ := s.pre
    rw [List.getElem?_append_left (List.getElem?_eq_some_iff.mp h).1]
    exact h
  refine ⟨fun i n H2 => n = src.l.length - i ∧ i ≤ src.l.length ∧ ∃ r2 S2, Step (r1 ++ [D]) (upd H1 D (o0 D)) r2 H2 ∧ Rep (g.at z) r2 H2 S2 (wipeS sl vs) (wipe st vs) ∧ r2[S1.length]? = some D ∧ dcX t tt kx vx src (wipeS sl vs) S1.length (src.l.drop i) S2 = some S',
    ⟨_, rfl, Nat.zero_le _, r1 ++ [D], S1 ++ [so], .refl _ _, ⟨srD, sl1⟩, hn0, by simpa using e2⟩, ?_⟩
  rintro i n H2 ⟨rfl, hle, r2, S2, s2, R2, hn2, e3⟩
  have oks : src.ok S2 = true := by
    cases hd : src.l.drop i with
    | nil =>
      rw [hd] at e3
      simp only [dcX] at e3
      split at e3
      · assumption
      · cases e3
    | cons x xs =>
      rw [hd] at e3
      simp only [dcX] at e3
      split at e3
      · assumption
      · cases e3
  obtain ⟨hgo, hstop⟩ := ok.2 z r2 H2 S2 (sD.trans s2).z zs R2.sr oks
  by_cases hlt : i < src.l.length
  · right
    rw [List.drop_eq_getElem_cons hlt] at e3
    simp only [dcX, oks, if_true, Option.bind_eq_some_iff] at e3
    obtain ⟨sl3, e4, ⟨k, S3⟩, e5, e6⟩ := e3
    obtain ⟨go, yl⟩ := hgo i src.l[i] (List.getElem?_eq_getElem hlt)
    refine ⟨go, fun H5 => ∃ r5 S5, Step (r1 ++ [D]) (upd H1 D (o0 D)) r5 H5 ∧ Rep (g.at z) r5 H5 S5 (wipeS sl vs) (wipe st vs) ∧ r5[S1.length]? = some D ∧ dcX t tt kx vx src (wipeS sl vs) S1.length (src.l.drop (i + 1)) S5 = some S',
      fun H5 ⟨r5, S5, a1, a2, a3, a4⟩ => ⟨src.l.length - (i + 1), by omega, rfl, hlt, r5, S5, a1, a2, a3, a4⟩, fun hx H3 hy => ?_⟩
    obtain ⟨mo, rx⟩ := yl hx H3 hy
    refine Tn.read (g := g.at z) (ws := vs) (hK : g.K = K) hm (R2.more mo) rx e4 fun st6 R6 hw6 => ⟨by rw [hw6, wipe_sub fun _ h => h], ?_⟩
    refine ⟨z, r2, S2, sl3, k, S3, R6, e5, fun r7 H7 st7 sr7 => ?_⟩
    have s27 : Step r2 H2 r7 H7 := mo.step.trans st7
    cases k with
    | false =>
      simp only [Bool.false_eq_true, if_false] at e6
      refine iteF ?_
      exact ⟨r7, S3, s2.trans s27, R2.step s27 sr7, keep s27 hn2, e6⟩
    | true =>
      simp only [if_true, Option.bind_eq_some_iff] at e6
      refine iteT ?_
      obtain ⟨⟨yk, S8⟩, e7, ⟨yv, S9⟩, e8, S10, e9, e10⟩ := e6
      have R7 := R6.step st7 sr7
      refine ⟨z, r7, S3, sl3, yk, S8, R7, e7, fun r8 H8 hk st8 sr8 rk => ?_⟩
      refine ⟨z, r8, S8, sl3, yv, S9, R7.step st8 sr8, e8, fun r9 H9 hv st9 sr9 rv => ?_⟩
      have s29 : Step r2 H2 r9 H9 := (s27.trans st8).trans st9
      obtain ⟨H10, pt, s10, sr10⟩ := puts_dic (P := P) (g := g.at z) (A := A) hK hw hu sr9 (keep s29 hn2) (rk.mono st9 sr8.own) rv e9
      have s210 := s29.trans s10
      exact ⟨H10, pt, r9, S10, s2.trans s210, R2.step s210 sr10, keep s210 hn2, e10⟩
  · left
    rw [List.drop_eq_nil_of_le (by omega)] at e3
    simp only [dcX, oks, if_true] at e3
    cases e3
    exact ⟨hstop i (by omega), q r2 H2 (.ref D) ((st1.trans sD).trans s2) R2.sr (.ref hn2)⟩
end
section
variable {X : Cx} {g : Gx} {pos : Pos}
theorem d_dcN {kx vx tg iter : Expr} {ifs : List Expr} {scope : Scope} {own : List (Str × Nat)} {it : MI} {t : Tn} {tt : MT} {mk mv : ME} (hK : g.K = X.K) (hw : g.w = X.w) (hu : X.A.units + 12 < cLine) (hc : X.calm = true) (hN : X.N.Nodup) (hi : PI X tg iter (iD g it)) (ok : BlkOk X.N X.env.scope scope own) (hm : ∀ i ∈ t.all, i ∈ own.map (·.2))
    (hg : ∀ (s : Shared) (H : Hp) (C : Addr) (cl : List (Str × Addr)) (fp : List Addr), PG (X.blk s H scope (compEnvC scope cl C X.env) fp) tg (t.t X.K)) (ht : ∀ (s : Shared) (H : Hp) (C : Addr) (cl : List (Str × Addr)) (fp : List Addr), PTs (X.blk s H scope (compEnvC scope cl C X.env) fp) ifs (tDt g tt))
    (hk : ∀ (s : Shared) (H : Hp) (C : Addr) (cl : List (Str × Addr)) (fp : List Addr), PE (X.blk s H scope (compEnvC scope cl C X.env) fp) kx (tD g mk))
    (he : ∀ (s : Shared) (H : Hp) (C : Addr) (cl : List (Str × Addr)) (fp : List Addr), PE (X.blk s H scope (compEnvC scope cl C X.env) fp) vx (tD g mv)) (hs : ∀ x, foldedSetIterable iter X.env x = pure x := by intro _; rfl) :
    PE X (.DictComp kx vx [⟨tg, iter, ifs, 0⟩] scope pos) (tD g (eDc (.dN []) t it tt mk mv (own.map (·.2)))) :=
  PE.weak (pe_dcG (o0 := fun D => DnHO X.w D []) (fun {pins st H2 s2} I => I.laid (t' := s2.toks) (fun _ _ q => Heap.get?_push_of_some _ q) (Nat.le_refl _) (dn_ok ⟨Nat.zero_le _, beq_eq_false_iff_ne.mpr (Ne.symm (Nat.ne_of_lt I.big)), [], .nil, _, #[], 0, Heap.get?_push_size _ rfl, ⟨rfl, rfl, rfl⟩, rfl, rfl, by simp⟩)) hc hN hi ok hg ht hk he hs) fun st H Q h => by
    obtain ⟨z, r, S, sl, v, S', R, e, q⟩ := h
    refine dc_read hK hw hu hm R (fun r H D => ?_) e q
    rw [← hw]
    exact RO.dN (rows := []) rfl (Nat.zero_le _) .nil .nil
theorem d_dcK {kx vx tg iter : Expr} {ifs : List Expr} {scope : Scope} {own : List (Str × Nat)} {it : MI} {t : Tn} {tt : MT} {mk mv : ME} (hK : g.K = X.K) (hw : g.w = X.w) (hu : X.A.units + 12 < cLine) (hc : X.calm = true) (hN : X.N.Nodup) (hi : PI X tg iter (iD g it)) (ok : BlkOk X.N X.env.scope scope own) (hm : ∀ i ∈ t.all, i ∈ own.map (·.2))
    (hg : ∀ (s : Shared) (H : Hp) (C : Addr) (cl : List (Str × Addr)) (fp : List Addr), PG (X.blk s H scope (compEnvC scope cl C X.env) fp) tg (t.t X.K)) (ht : ∀ (s : Shared) (H : Hp) (C : Addr) (cl : List (Str × Addr)) (fp : List Addr), PTs (X.blk s H scope (compEnvC scope cl C X.env) fp) ifs (tDt g tt))
    (hk : ∀ (s : Shared) (H : Hp) (C : Addr) (cl : List (Str × Addr)) (fp : List Addr), PE (X.blk s H scope (compEnvC scope cl C X.env) fp) kx (tD g mk))
    (he : ∀ (s : Shared) (H : Hp) (C : Addr) (cl : List (Str × Addr)) (fp : List Addr), PE (X.blk s H scope (compEnvC scope cl C X.env) fp) vx (tD g mv)) (hs : ∀ x, foldedSetIterable iter X.env x = pure x := by intro _; rfl) :
    PE X (.DictComp kx vx [⟨tg, iter, ifs, 0⟩] scope pos) (tD g (eDc (.dK []) t it tt mk mv (own.map (·.2)))) :=
  PE.weak (pe_dcG (o0 := fun _ => .dK []) (fun {pins st H2 s2} I => I.laid (t' := s2.toks) (fun _ _ q => Heap.get?_push_of_some _ q) (Nat.le_refl _) (dk_empty s2.heap I.big)) hc hN hi ok hg ht hk he hs) fun st H Q h => by
    obtain ⟨z, r, S, sl, v, S', R, e, q⟩ := h
    exact dc_read hK hw hu hm R (fun r H D => .dK rfl (Nat.zero_le _) .nil) e q
end
end Mp
namespace L2
open PySem PySem.Spec
      PyProof.Rows
section
variable {X : Cx}
/-- y = {k: v for ..}, all on one row: the dict goes to the name within the comprehension -/
theorem ps_setDcG {i : Nat} {y : Str} {py spos : Pos} {kx vx tg iter : Expr} {ifs : List Expr} {scope : Scope} {own : List (Str × Nat)} {pos : Pos} {wi : TI} {g : TG} {tt : TT} {tk tv : TE} {o0 : Addr → HO}
    (hnew : ∀ {pins : List (Addr × Obj)} {st : L2.St} {H2 : Hp} {s2 : Shared}, Inv X pins st H2 s2 → Inv X pins st (upd H2 s2.heap.objs.size (o0 s2.heap.objs.size)) { s2 with heap := s2.heap.push { cls := .type "dict", data := .dict #[] } }) (hc : X.calm = true) (hN : X.N.Nodup) (hy : X.N[i]? = some y) (hyl : X.env.scope.names.lookup y = some .local)
    (hsw : swapsWith (.DictComp kx vx [⟨tg, iter, ifs, 0⟩] scope pos) (some (.Name y py)) spos.line X.env = pure true) (hi : PI X tg iter wi) (ok : BlkOk X.N X.env.scope scope own)
    (hg : ∀ (s : Shared) (H : Hp) (C : Addr) (cl : List (Str × Addr)) (fp : List Addr), PG (X.blk s H scope (compEnvC scope cl C X.env) fp) tg g)
          (ht : ∀ (s : Shared) (H : Hp) (C : Addr) (cl : List (Str × Addr)) (fp : List Addr), PTs (X.blk s H scope (compEnvC scope cl C X.env) fp) ifs tt)
    (hk : ∀ (s : Shared) (H : Hp) (C : Addr) (cl : List (Str × Addr))
          (fp : List Addr), PE (X.blk s H scope (compEnvC scope cl C X.env) fp) kx tk)
    (he : ∀ (s : Shared) (H : Hp) (C : Addr) (cl : List (Str × Addr)) (fp : List Addr), PE (X.blk s H scope
          (compEnvC scope cl C X.env) fp) vx tv) (hs : ∀ x, foldedSetIterable iter X.env x = pure x := by intro _; rfl) :
    PS X (.Assign [.Name y py] (.DictComp kx vx [⟨tg, iter, ifs, 0⟩] scope pos) spos) (tAsg (tDcG X.prog X.w X.K X.A o0 wi g tt tk tv (own.map (·.2))) (gName i)) := by
  refine ⟨fun pins s st H D I h => ?_⟩
  rw [exec_Assign_Name_used
        _ _ _ _ hsw]
  refine wpAny_bind
        (wpAny_standAt (wpAny_bind ?_))
  show wpAny _ X.A (do let _ ← comprehension (.DictComp kx vx [⟨tg, iter, ifs, 0⟩] scope pos) scope X.env (firstIterPos [⟨tg, iter, ifs, 0⟩] pos) newDict false (eval iter X.env) (some (assign (.Name y py) X.env))) _ _ s
  have h : tDcG X.prog X.w X.K X.A o0 wi g tt tk tv (own.map (·.2)) st H (fun x H1 => gName i x st H1 D.nx) := h
  have core := dcG_core (Qf := fun _ s' => SP X pins D .next s') (use := some (assign (.Name y py) X.env)) (pos := pos) (pos' := firstIterPos [⟨tg, iter, ifs, 0⟩] pos) hnew hc hN I hi ok hg ht hk he hs h
  refine wpAny_bind (thn (core ?_) fun _ s' hq => wpAny_pure (wpAny_pure hq))
  rintro L C s' m H' I' q hn ⟨f0, f1, f2, f3, f4, f5⟩
  show wpAny _ _ (assign
        (.Name y py) X.env (.ref L)) _ _ _
  refine wpAny_assign_Name (store_ok2 (v := V.ref L) I' hN hy
        (.inl hyl) rfl (fun s2 I2 ⟨a, sb, ha⟩ => ?_) (.inr hyl))
  have apart : C ≠ a := by
    rcases ha with z | z
    · rw [z]
      exact f1
    · exact fun e =>
            f4 y a z e.symm
  exact ⟨m, hn.sameBut sb apart, fun h3 sb3 => ⟨_, H', I2.turned (t' := s2.toks) (fun b o hb e => (sb3.2 b hb).trans e) f0 f1 f3 f4 f5, q⟩⟩
end
end L2
namespace Mp
open PySem PySem.Spec
      PyProof.Rows L2
section
variable {X : Cx} {g : Gx} {pos : Pos}
theorem ds_setDcN {i : Nat} {y : Str} {py spos : Pos} {kx vx tg iter : Expr} {ifs : List Expr} {scope : Scope} {own : List (Str × Nat)} {it : MI} {t : Tn} {tt : MT} {mk mv : ME} (hK : g.K = X.K) (hw : g.w = X.w) (hu : X.A.units + 12 < cLine) (hc : X.calm = true) (hN : X.N.Nodup) (hy : X.N[i]? = some y) (hyl : X.env.scope.names.lookup y = some .local)
    (hsw : swapsWith (.DictComp kx vx [⟨tg, iter, ifs, 0⟩] scope pos) (some (.Name y py)) spos.line X.env = pure true) (hi : PI X tg iter (iD g it)) (ok : BlkOk X.N X.env.scope scope own) (hm : ∀ i ∈ t.all, i ∈ own.map (·.2))
    (hg : ∀ (s : Shared) (H : Hp) (C : Addr) (cl : List (Str × Addr)) (fp : List Addr), PG (X.blk s H scope (compEnvC scope cl C X.env) fp) tg (t.t X.K)) (ht : ∀ (s : Shared) (H : Hp) (C : Addr) (cl : List (Str × Addr)) (fp : List Addr), PTs (X.blk s H scope (compEnvC scope cl C X.env) fp) ifs (tDt g tt))
    (hk : ∀ (s : Shared) (H : Hp) (C : Addr) (cl : List (Str × Addr)) (fp : List Addr), PE (X.blk s H scope (compEnvC scope cl C X.env) fp) kx (tD g mk))
    (he : ∀ (s : Shared) (H : Hp) (C : Addr) (cl : List (Str × Addr)) (fp : List Addr), PE (X.blk s H scope (compEnvC scope cl C X.env) fp) vx (tD g mv)) (hs : ∀ x, foldedSetIterable iter X.env x = pure x := by intro _; rfl) :
    PS X (.Assign [.Name y py] (.DictComp kx vx [⟨tg, iter, ifs, 0⟩] scope pos) spos) (tDS g (sSet i (eDc (.dN []) t it tt mk mv (own.map (·.2))))) := by
  refine PS.weak (ps_setDcG (o0 := fun D => DnHO X.w D []) (fun {pins st H2 s2} I => I.laid (t' := s2.toks) (fun _ _ q => Heap.get?_push_of_some _ q) (Nat.le_refl _) (dn_ok ⟨Nat.zero_le _, beq_eq_false_iff_ne.mpr (Ne.symm (Nat.ne_of_lt I.big)), [], .nil, _, #[], 0, Heap.get?_push_size _ rfl, ⟨rfl, rfl, rfl⟩, rfl, rfl, by simp⟩)) hc hN hy hyl hsw hi ok hg ht hk he hs) fun D st H h => ?_
  obtain ⟨z, r, S, sl, f, sl', S', R, e, q⟩ := h
  simp only [sSet, Option.bind_eq_some_iff] at e
  obtain ⟨⟨v, S1⟩, e1, e2⟩ := e
  cases e2
  refine dc_read hK hw hu hm R (fun r H D => ?_) e1 fun r' H' hv st' sr' rv => q r' H' _ st' ⟨sr', (R.sl.mono st' R.sr.own).set rv i⟩
  rw [← hw]
  exact RO.dN (rows := []) rfl (Nat.zero_le _) .nil .nil
theorem ds_setDcK {i : Nat} {y : Str} {py spos : Pos} {kx vx tg iter : Expr} {ifs : List Expr} {scope : Scope} {own : List (Str × Nat)} {it : MI} {t : Tn} {tt : MT} {mk mv : ME} (hK : g.K = X.K) (hw : g.w = X.w) (hu : X.A.units + 12 < cLine) (hc : X.calm = true) (hN : X.N.Nodup) (hy : X.N[i]? = some y) (hyl : X.env.scope.names.lookup y = some .local)
    (hsw : swapsWith (.DictComp kx vx [⟨tg, iter, ifs, 0⟩] scope pos) (some (.Name y py)) spos.line X.env = pure true) (hi : PI X tg iter (iD g it)) (ok : BlkOk X.N X.env.scope scope own) (hm : ∀ i ∈ t.all, i ∈ own.map (·.2))
    (hg : ∀ (s : Shared) (H : Hp) (C : Addr) (cl : List (Str × Addr)) (fp : List Addr), PG (X.blk s H scope (compEnvC scope cl C X.env) fp) tg (t.t X.K)) (ht : ∀ (s : Shared) (H : Hp) (C : Addr) (cl : List (Str × Addr)) (fp : List Addr), PTs (X.blk s H scope (compEnvC scope cl C X.env) fp) ifs (tDt g tt))
    (hk : ∀ (s : Shared) (H : Hp) (C : Addr) (cl : List (Str × Addr)) (fp : List Addr), PE (X.blk s H scope (compEnvC scope cl C X.env) fp) kx (tD g mk))
    (he : ∀ (s : Shared) (H : Hp) (C : Addr) (cl : List (Str × Addr)) (fp : List Addr), PE (X.blk s H scope (compEnvC scope cl C X.env) fp) vx (tD g mv)) (hs : ∀ x, foldedSetIterable iter X.env x = pure x := by intro _; rfl) :
    PS X (.Assign [.Name y py] (.DictComp kx vx [⟨tg, iter, ifs, 0⟩] scope pos) spos) (tDS g (sSet i (eDc (.dK []) t it tt mk mv (own.map (·.2))))) := by
  refine PS.weak (ps_setDcG (o0 := fun _ => .dK []) (fun {pins st H2 s2} I => I.laid (t' := s2.toks) (fun _ _ q => Heap.get?_push_of_some _ q) (Nat.le_refl _) (dk_empty s2.heap I.big)) hc hN hy hyl hsw hi ok hg ht hk he hs) fun D st H h => ?_
  obtain ⟨z, r, S, sl, f, sl', S', R, e, q⟩ := h
  simp only [sSet, Option.bind_eq_some_iff] at e
  obtain ⟨⟨v, S1⟩, e1, e2⟩ := e
  cases e2
  exact dc_read hK hw hu hm R (fun r H D => .dK rfl (Nat.zero_le _) .nil) e1 fun r' H' hv st' sr' rv => q r' H' _ st' ⟨sr', (R.sl.mono st' R.sr.own).set rv i⟩
end
end Mp
namespace Mp
open PySem PySem.Spec
      PyProof.Rows L2
/-! ### a statement that runs while one dict of the store is locked -/
def sLock (i : Nat) (m : MS) : MS := fun sl S => match sl[i]? with
  | some (some (.ref n)) => (lockS S n).bind fun p => (m sl p.2).bind fun q => some (q.1, q.2.1, q.2.2.set n p.1)
  | _ => none
section
variable {X : Cx} {g : Gx}
theorem ds_lock {s : Stmt} {i : Nat} {m : MS} (he : PS X s (tDS g m)) : PS X s (tDS g (sLock i m)) := by
  refine PS.weak (ps_lock he) fun D st H h => ?_
  obtain ⟨z, r, S, sl, f, sl', S', R, e0, q⟩ := h
  unfold sLock at e0
  split at e0
  · rename_i n hn
    simp only [Option.bind_eq_some_iff] at e0
    obtain ⟨⟨so, S1⟩, e1, ⟨f2, slf, S2⟩, e2, e3⟩ := e0
    cases e3
    obtain ⟨hv, _, rv⟩ := R.sl.at_ i _ hn
    cases rv with
    | @ref _ a ha =>
      obtain ⟨u, hu, mu, c, nf, ro, rfl, lk⟩ := lockS_at R.sr ha e1
      have ham := List.mem_of_getElem? ha
      refine ⟨a, u, hu, mu, fun od => ?_⟩
      obtain ⟨ro1, c1⟩ := lk od
      obtain ⟨sr1, st1⟩ := R.sr.put (so := .lk so) (o := .frz od u) ha hu c nf ro1
      have main : ∀ (r2 : List Addr) (H2 : Hp) (st' : L2.St), Step r (upd H a (.frz od u)) r2 H2 → Rep (g.at z) r2 H2 S2 slf st' →
          H2 a = some (.frz od u) ∧ Step r H r2 (upd H2 a u) ∧ Rep (g.at z) r2 (upd H2 a u) (S2.set n so) slf st' ∧ ∀ v hv, RV (g.at z) r2 H2 v hv → RV (g.at z) r2 (upd H2 a u) v hv := by
        intro r2 H2 st' st2 R2
        have hf : H2 a = some (.frz od u) := st2.frz _ _ _ upd_same
        have ha2 : r2[n]? = some a := st2.get ha
        have ham2 := List.mem_of_getElem? ha2
        have sr' := R2.sr
        have ro2 : RO (g.at z) r2 (upd H2 a u) a so u := ((RO.updr ham hu c ro).mono st2 sr1.own).updr ham2 hf c1
        have sr3 : SR (g.at z) r2 (upd H2 a u) (S2.set n so) := by
          refine ⟨by rw [List.length_set]; exact sr'.len, sr'.nd, fun p hp => ?_, sr'.zr, fun j x b h1 h2 => ?_⟩
          · obtain ⟨xs, e⟩ := sr'.zat p hp
            exact ⟨xs, by rw [upd_ne fun z => sr'.zr p hp (by rw [z]; exact ham2)]; exact e⟩
          · by_cases hj : n = j
            · subst hj
              rw [ha2] at h2
              cases h2
              have hl : n < S2.length := by rw [← sr'.len]; exact (List.getElem?_eq_some_iff.mp ha2).1
              rw [List.getElem?_set_self hl] at h1
              cases h1
              exact ⟨u, upd_same, ro2⟩
            · rw [List.getElem?_set_ne hj] at h1
              obtain ⟨y, hy, ro'⟩ := sr'.at_ j x b h1 h2
              have ne : b ≠ a := fun z => by
                rw [z] at h2
                have l1 := (List.getElem?_eq_some_iff.mp ha2).1
                exact hj ((List.getElem?_inj l1 sr'.nd).mp (ha2.trans h2.symm))
              exact ⟨y, by rw [upd_ne ne]; exact hy, ro'.updr ham2 hf c1⟩
        have keepN : ∀ b x, H b = some x → b ≠ a → (upd H a (.frz od u)) b = some x := fun b x h ne => by rw [upd_ne ne]; exact h
        refine ⟨hf, ⟨fun b x h hb => ?_, st2.pre, fun b hb => ?_, fun b ob x h => ?_⟩, ⟨sr3, ⟨R2.sl.len, fun j v hj => ?_⟩⟩, fun v hv rv => rv.updr ham2 hf c1⟩
        · have ne : b ≠ a := fun z => hb (by rw [z]; exact ham)
          rw [upd_ne ne]
          exact st2.ext b x (keepN b x h ne) hb
        · rcases st2.new b hb with y | y
          · exact .inl y
          · by_cases ne : b = a
            · rw [ne]; exact .inl ham
            · rw [upd_ne ne] at y; exact .inr y
        · have ne : b ≠ a := fun z => by rw [z, hu] at h; exact nf _ _ (Option.some.inj h)
          rw [upd_ne ne]
          exact st2.frz b ob x (keepN b _ h ne)
        · obtain ⟨hv, e, rr⟩ := R2.sl.at_ j v hj
          exact ⟨hv, e, rr.updr ham2 hf c1⟩
      refine ⟨z, r, S.set n (.lk so), sl, f2, _, S2, R.step st1 sr1, e2, fun r2 H2 st' st2 R2 => ?_⟩
      obtain ⟨hf, st3, R3, rvs⟩ := main r2 H2 st' st2 R2
      have q' := q r2 _ st' st3 R3
      cases f2 with
      | nxt => exact ⟨hf, q'⟩
      | brk => exact ⟨hf, q'⟩
      | cnt => exact ⟨hf, q'⟩
      | ret v => exact fun hv rv => ⟨hf, q' hv (rvs v hv rv)⟩
  · cases e0
end
end Mp
namespace Mp
open PySem PySem.Spec
      PyProof.Rows L2
/-! ### min of two numbers; a text among texts -/
def fMin2 : FN := fun _ xs => match xs with
  | [.int i, .int j] => some (.int (if j < i then j else i))
  | _ => none
theorem c_min2 {X : Cx} {g : Gx} (hc : X.calm = true) : CallR X (.builtin "min") (rGn g fMin2) := by
  intro pins s st H vs us Q I rs h
  obtain ⟨z, r, S, xs, v, sr, rx, e, q⟩ := h
  unfold fMin2 at e
  split at e
  · cases e
    cases rx with
    | cons a b =>
      cases a
      cases b with
      | cons a b =>
        cases a
        cases b
        exact call_min2 hc pins s st H _ us Q I rs ⟨_, _, rfl, q r H _ (.refl r H) sr (.int _)⟩
  · cases e
def toStrs : List Val → Option (List Str)
  | [] => some []
  | .str x :: xs => (toStrs xs).map fun ys => x :: ys
  | _ :: _ => none
def fInS (neg : Bool) (S : Sto) (a b : Val) : Option Val := match a with
  | .str x => (lstOf S b).bind fun ys => (toStrs ys).bind fun ts => some (.bl (neg ^^ decide (x ∈ ts)))
  | _ => none
theorem fInS_bl {neg : Bool} : ∀ S x y v, fInS neg S x y = some v → ∃ k, v = .bl k := fun S x y v e => by
  unfold fInS at e
  split at e
  · simp only [Option.bind_eq_some_iff] at e
    obtain ⟨ys, _, ts, _, e⟩ := e
    cases e
    exact ⟨_, rfl⟩
  · cases e
theorem rvs_strs {G : Gx} {r : List Addr} {H : Hp} : ∀ {ys : List Val} {ws : List V} {ts : List Str}, RVs G r H ys ws → toStrs ys = some ts → ws = ts.map V.str
  | [], _, _, .nil, e => by cases e; rfl
  | y :: ys, _, ts, .cons a t, e => by
    cases y with
    | str x =>
      simp only [toStrs, Option.map_eq_some_iff] at e
      obtain ⟨js, e1, rfl⟩ := e
      cases a
      rw [rvs_strs t e1]
      rfl
    | _ => cases e
theorem inV_strs (x : Str) (ts : List Str) : inV (.str x) (ts.map V.str) = decide (x ∈ ts) := by
  unfold inV
  rw [List.any_map]
  induction ts with
  | nil => simp
  | cons t ts ih =>
    rw [List.any_cons, ih]
    have : ((fun y => eqV y (V.str x)) ∘ V.str) t = decide (t = x) := rfl
    rw [this]
    by_cases h : t = x
    · subst h; simp
    · have h' : ¬ x = t := fun e => h e.symm
      simp [h, h']
theorem flat_strs (ts : List Str) : (ts.map V.str).all flatV = true := by
  rw [List.all_eq_true]
  intro v hv
  obtain ⟨t, _, rfl⟩ := List.mem_map.mp hv
  rfl
theorem o_inS {X : Cx} {g : Gx} : OpR X (compareOp .In) (rG2 g (fInS false)) := by
  intro pins s st H x y v u Q I rx ry h
  obtain ⟨z, r, S, a, b, w, sr, ra, rb, e, q⟩ := h
  unfold fInS at e
  split at e
  · simp only [Option.bind_eq_some_iff] at e
    obtain ⟨ys, e1, ts, e2, e3⟩ := e
    cases e3
    cases ra
    obtain ⟨p, ws, rfl, hp, hz, hs⟩ := lstOf_at sr rb e1
    have hw := rvs_strs hs e2
    subst hw
    refine op_in_seq pins s st H _ _ v u Q I rx ry ⟨p, _, rfl, .inl (.inl (.inl hp)), rfl, flat_strs ts, ?_⟩
    rw [if_neg Bool.false_ne_true, inV_strs, ← Bool.false_xor (decide _)]
    exact q r H _ (.refl r H) sr (.bl _)
  · cases e
theorem o_ninS {X : Cx} {g : Gx} : OpR X (compareOp .NotIn) (rG2 g (fInS true)) := by
  intro pins s st H x y v u Q I rx ry h
  obtain ⟨z, r, S, a, b, w, sr, ra, rb, e, q⟩ := h
  unfold fInS at e
  split at e
  · simp only [Option.bind_eq_some_iff] at e
    obtain ⟨ys, e1, ts, e2, e3⟩ := e
    cases e3
    cases ra
    obtain ⟨p, ws, rfl, hp, hz, hs⟩ := lstOf_at sr rb e1
    have hw := rvs_strs hs e2
    subst hw
    refine op_notIn_seq pins s st H _ _ v u Q I rx ry ⟨p, _, rfl, .inl (.inl (.inl hp)), rfl, flat_strs ts, ?_⟩
    rw [if_pos rfl, inV_strs, ← Bool.true_xor (decide _)]
    exact q r H _ (.refl r H) sr (.bl _)
  · cases e
/-! ### list(x), a list of the store -/
def eAdopt (m : ME) : ME := fun sl S => (m sl S).bind fun p => match p.1 with
  | .lst xs => some (.ref p.2.length, p.2 ++ [.lst xs])
  | _ => none
def rLM (g : Gx) : List V → Hp → VK → Prop := fun vs H Q => ∃ z r S a ys, SR (g.at z) r H S ∧ RVs (g.at z) r H [a] vs ∧ seqOf S a = some ys ∧ ∀ r' H' hv, Step r H r' H' → SR (g.at z) r' H' (S ++ [.lst ys]) → RV (g.at z) r' H' (.ref S.length) hv → Q hv H'
theorem c_listM {X : Cx} {g : Gx} (hK : g.K = X.K) : CallR X (.type "list") (rLM g) := by
  intro pins s st H vs us Q I rs h
  obtain ⟨z, r, S, a, ys, sr, rx, e1, q⟩ := h
  cases rx with
  | cons a b =>
    cases b
    obtain ⟨p, ws, rfl, hp, hz, hs⟩ := seqOf_at sr a e1
    rw [show (g.at z).K = X.K from hK] at hp
    refine call_list_of pins s st H _ us Q I rs ⟨p, ws, rfl, hp.imp (fun h => h) (fun h => h.1), fun l hl => ?_⟩
    obtain ⟨sr2, st2⟩ := sr.grow hl (RO.lst hz hs)
    refine q _ _ (.ref l) st2 sr2 (.ref ?_)
    rw [← sr.len, List.getElem?_append_right (Nat.le_refl _)]
    simp
theorem d_listM {X : Cx} {g : Gx} {pos : Pos} {p : Pos} {e : Expr} {m : ME} (hK : g.K = X.K) (hg : Gl X "list") (hm : X.mg "list" = none) (ha : PE X e (tD g m))
    (he : starEach [e] X.env = (false, eval e X.env) :: starEach [] X.env := by rfl) (hpl : (backTo pos (starEach [] X.env)).any (·.1) = false := by rfl) : PE X (.Call (.Name "list" p) [e] [] pos) (tD g (eAdopt (eFn fLstOf (esCons m esNil)))) := by
  refine PE.weak (pe_callTy (c_listM hK) hg hm (by decide +kernel) (d_cons ha d_nil he) (by decide) (by decide) he hpl) fun st H Q h => ?_
  obtain ⟨z, r, S, sl, v, S', R, e, q⟩ := h
  simp only [eAdopt, eFn, esCons, esNil, Option.bind_eq_some_iff] at e
  obtain ⟨⟨w, S1⟩, ⟨⟨xs, S2⟩, ⟨⟨a, S3⟩, e1, ⟨b, S4⟩, e2, e3⟩, u, e4, e5⟩, e6⟩ := e
  cases e2
  cases e3
  cases e5
  simp only [fLstOf, Option.map_eq_some_iff] at e4
  obtain ⟨ys, e7, rfl⟩ := e4
  cases e6
  refine ⟨z, r, S, sl, [a], S3, R, by simp only [esCons, esNil, e1, Option.bind_some], fun r1 H1 hv s1 sr1 rx => ?_⟩
  exact ⟨z, r1, S3, a, ys, sr1, rx, e7, fun r2 H2 hw s2 sr2 rv => q r2 H2 hw (s1.trans s2) sr2 rv⟩
end Mp
namespace Pilot
open PySem PySem.Spec PyProof.Rows L2 Mp
abbrev top (i : Nat) : Stmt := PySem.Challenge.pw_chosenlast_k16_coins_found.main.body.getD i (.Pass ⟨0, 0, 0, 0⟩)
end Pilot
namespace Pilot
open PySem PySem.Spec PyProof.Rows L2 Mp
section
variable {P : Program} {w : World} {K : PySem.W.Frag} {mg : Str → Option Value} {base : Heap} {g : Gx}
abbrev s_scps : Stmt := top 1
def n_scps : List Str := ["coins", "coin"]
theorem sc_scps : FnScope n_scps ["coins"] (defScope s_scps) := ⟨rfl, rfl, rfl, by decide +kernel, rfl, by decide +kernel, by decide +kernel⟩
def scps_1 : MS := sRet (eLc (.nm 1) (iSeq (eVar 0)) tYesM (eOp2 fIx (eVar 1) (eCon (.int 1))) [1])
def b_scps : MS := scps_1
def m_scps : MF := defM false b_scps 2 1
theorem ok_scps {f : Addr} {fd : FuncData} (F : Fun K "scopes_of" "scopes_of" s_scps f fd) (hK : g.K = K) (hw : g.w = w)  : FnOk P w K mg base CX0 1 f fd ["coins"] (spD g m_scps) := by
  refine ok_def F sc_scps rfl fun cdv A outer s H E hr => ?_
  have hu : (A.deeper (envOfC "scopes_of" (defScope s_scps) s.heap.objs.size f cdv)).units + 200 < cLine := by have := hr.un; omega
  exact ds_one (ds_ret (d_lc (own := [("coin", 1)]) hK rfl sc_scps.nd (di_seq hK (d_var (i := 0))) (show BlkOk n_scps (defScope s_scps) _ _ from ⟨rfl, by decide +kernel, by decide +kernel, by decide +kernel, by decide +kernel⟩) (by decide) (fun _ _ _ _ _ => pg_name sc_scps.nd rfl (by first | exact Or.inl rfl | exact Or.inr rfl)) (fun _ _ _ _ _ => dts_nil) (fun _ _ _ _ _ => (d_ix hK (d_var (i := 1)) d_int))))
abbrev s_srch : Stmt := top 4
def n_srch : List Str := ["scopes", "assignment", "pair", "payer", "other", "wishes", "reached", "at", "place"]
theorem sc_srch : FnScope n_srch ["scopes", "assignment", "pair"] (defScope s_srch) := ⟨rfl, rfl, rfl, by decide +kernel, rfl, by decide +kernel, by decide +kernel⟩
def srch_1 : MS := sLock 1 (sSet 3 (eDc (.dK []) (.nm 4) (iKeysN (eVar 1)) tYesM (eOp2 fDGet (eVar 1) (eVar 4)) (eVar 4) [4]))
def srch_2 : MS := sSet 5 eNewK
def srch_3 : MS := sSet 6 (eLstM (es1 (eVar 2)))
def srch_4 : MS := sSet 7 (eCon (.int 0))
def srch_5_1_1_a_1 : MS := sDPutM (eVar 5) (eVar 8) (eOp2 fIx (eVar 6) (eVar 7))
def srch_5_1_1_a_2_a_1 : MS := sRet (eTup (es3 (eVar 8) (eVar 5) (eVar 6)))
def srch_5_1_1_a_2 : MS := sIf (tTru (eOp2 (fDIn true) (eVar 8) (eVar 3))) srch_5_1_1_a_2_a_1 sSkip
def srch_5_1_1_a_3 : MS := sExp (eMeth isL fApp (eVar 6) (es1 (eOp2 fDGet (eVar 3) (eVar 8))))
def srch_5_1_1 : MS := sIf (tAndD (tTru (eOp2 (fDIn true) (eVar 8) (eVar 5))) (tTru (eOp2 (fIn false) (eOp2 fIx (eVar 6) (eVar 7)) (eOp2 fIx (eVar 0) (eVar 8))))) (sSeq srch_5_1_1_a_1 (sSeq srch_5_1_1_a_2 srch_5_1_1_a_3)) sSkip
def srch_5_1 : MS := sFor (gNm 8) (iRng1M (eFn fLen (es1 (eVar 0)))) srch_5_1_1
def srch_5_2 : MS := sAug 7 (eCon (.int 1))
def srch_5 : MS := sWhile 4000 (tTru (eOp2 (fOrd .Lt) (eVar 7) (eFn fLen (es1 (eVar 6))))) (sSeq srch_5_1 srch_5_2)
def srch_6 : MS := sRet (eTup (es3 (eCon .non) (eVar 5) (eVar 6)))
def b_srch : MS := sSeq srch_1 (sSeq srch_2 (sSeq srch_3 (sSeq srch_4 (sSeq srch_5 (srch_6)))))
def m_srchK : MF := defM true b_srch 9 3
theorem ok_srchK {f : Addr} {fd : FuncData} (F : Fun K "search_coin" "search_coin" s_srch f fd) (hK : g.K = K) (hw : g.w = w) (mlen : mg "len" = none) (mrange : mg "range" = none) : FnOk P w K mg base CX0 1 f fd ["scopes", "assignment", "pair"] (spD g m_srchK) := by
  refine ok_def F sc_srch rfl fun cdv A outer s H E hr => ?_
  have hu : (A.deeper (envOfC "search_coin" (defScope s_srch) s.heap.objs.size f cdv)).units + 200 < cLine := by have := hr.un; omega
  have hu12 := Nat.lt_of_le_of_lt (Nat.add_le_add_left (show 12 ≤ 200 by decide) _) hu
  have hu64 := Nat.lt_of_le_of_lt (Nat.add_le_add_left (show 64 ≤ 200 by decide) _) hu
  have hu66 := Nat.lt_of_le_of_lt (Nat.add_le_add_left (show 66 ≤ 200 by decide) _) hu
  refine ds_cons (ds_lock (i := 1) (ds_setDcK (i := 3) (own := [("other", 4)]) hK hw hu12 rfl sc_srch.nd rfl rfl rfl (di_keysN hw (d_var (i := 1))) (show BlkOk n_srch (defScope s_srch) _ _ from ⟨rfl, by decide +kernel, by decide +kernel, by decide +kernel, by decide +kernel⟩) (by decide) (fun _ _ _ _ _ => pg_name sc_srch.nd rfl (by first | exact Or.inl rfl | exact Or.inr rfl)) (fun _ _ _ _ _ => dts_nil) (fun _ _ _ _ _ => (d_dget hK hw hu12 (d_var (i := 1)) (d_var (i := 4)))) (fun _ _ _ _ _ => (d_var (i := 4))))) ?_
  refine ds_cons (ds_set (i := 5) sc_srch.nd rfl (by first | exact Or.inl rfl | exact Or.inr rfl) d_newK) ?_
  refine ds_cons (ds_set (i := 6) sc_srch.nd rfl (by first | exact Or.inl rfl | exact Or.inr rfl) (d_lstM (d_cons (d_var (i := 2)) d_nil) (esN_cons esN_nil))) ?_
  refine ds_cons (ds_set (i := 7) sc_srch.nd rfl (by first | exact Or.inl rfl | exact Or.inr rfl) d_int) ?_
  refine ds_cons (ds_while PassesOwn.never (d_tcmp hK (o_ord hK hu64) (d_var (i := 7)) (d_blt (c_len hK) rfl mlen (by decide +kernel) (d_cons (d_var (i := 6)) d_nil)) rfl fOrd_bl) (ds_cons (ds_for PassesOwn.never rfl (di_rng1 rfl mrange (d_blt (c_len hK) rfl mlen (by decide +kernel) (d_cons (d_var (i := 0)) d_nil))) (dg_nm (i := 8) sc_srch.nd rfl (by first | exact Or.inl rfl | exact Or.inr rfl)) (ds_one (ds_if (PW.pt (d_and (d_tcmp hK (o_din (neg := true) hK hw hu12) (d_var (i := 8)) (d_var (i := 5)) rfl fDIn_bl) (d_and1 (d_tcmp hK (o_in (neg := false) hK hu66) (d_ix hK (d_var (i := 6)) (d_var (i := 7))) (d_ix hK (d_var (i := 0)) (d_var (i := 8))) rfl fIn_bl)))) (ds_cons (ds_dput hK hw hu12 (d_var (i := 5)) (d_var (i := 8)) (d_ix hK (d_var (i := 6)) (d_var (i := 7)))) (ds_cons (ds_if (d_tcmp hK (o_din (neg := true) hK hw hu12) (d_var (i := 8)) (d_var (i := 3)) rfl fDIn_bl) (ds_one (ds_ret (d_tup (d_cons (d_var (i := 8)) (d_cons (d_var (i := 5)) (d_cons (d_var (i := 6)) d_nil))) (esN_cons (esN_cons (esN_cons esN_nil)))))) ds_nil) (ds_one (ds_exp (d_app (d_var (i := 6)) (d_cons (d_dget hK hw hu12 (d_var (i := 3)) (d_var (i := 8))) d_nil)))))) ds_nil))) (ds_one (ds_aug (i := 7) sc_srch.nd rfl (by first | exact Or.inl rfl | exact Or.inr rfl) d_int)))) ?_
  exact ds_one (ds_ret (d_tup (d_cons d_non (d_cons (d_var (i := 5)) (d_cons (d_var (i := 6)) d_nil))) (esN_cons (esN_cons (esN_cons esN_nil)))))
abbrev s_wcoin : Stmt := top 3
def n_wcoin : List Str := ["assignment", "wishes", "place", "wider", "pair", "taker", "freed"]
theorem sc_wcoin : FnScope n_wcoin ["assignment", "wishes", "place"] (defScope s_wcoin) := ⟨rfl, rfl, rfl, by decide +kernel, rfl, by decide +kernel, by decide +kernel⟩
def wcoin_1 : MS := sLock 0 (sSet 3 (eDc (.dN []) (.nm 4) (iKeysN (eVar 0)) tYesM (eVar 4) (eOp2 fDGet (eVar 0) (eVar 4)) [4]))
def wcoin_2_1 : MS := sSet 5 (eOp2 fDGet (eVar 1) (eVar 2))
def wcoin_2_2 : MS := sSet 6 (eMeth isDn fGetD (eVar 3) (es1 (eVar 5)))
def wcoin_2_3 : MS := sDPutM (eVar 3) (eVar 5) (eVar 2)
def wcoin_2_4 : MS := sSet 2 (eVar 6)
def wcoin_2 : MS := sWhile 4000 (tTru (eOp2 (fIs true) (eVar 2) (eCon .non))) (sSeq wcoin_2_1 (sSeq wcoin_2_2 (sSeq wcoin_2_3 wcoin_2_4)))
def wcoin_3 : MS := sRet (eVar 3)
def b_wcoin : MS := sSeq wcoin_1 (sSeq wcoin_2 (wcoin_3))
def m_wcoinK : MF := defM true b_wcoin 7 3
theorem ok_wcoinK {f : Addr} {fd : FuncData} (F : Fun K "with_coin" "with_coin" s_wcoin f fd) (hK : g.K = K) (hw : g.w = w)  : FnOk P w K mg base CX0 1 f fd ["assignment", "wishes", "place"] (spD g m_wcoinK) := by
  refine ok_def F sc_wcoin rfl fun cdv A outer s H E hr => ?_
  have hu : (A.deeper (envOfC "with_coin" (defScope s_wcoin) s.heap.objs.size f cdv)).units + 200 < cLine := by have := hr.un; omega
  have hu12 := Nat.lt_of_le_of_lt (Nat.add_le_add_left (show 12 ≤ 200 by decide) _) hu
  refine ds_cons (ds_lock (i := 0) (ds_setDcN (i := 3) (own := [("pair", 4)]) hK hw hu12 rfl sc_wcoin.nd rfl rfl rfl (di_keysN hw (d_var (i := 0))) (show BlkOk n_wcoin (defScope s_wcoin) _ _ from ⟨rfl, by decide +kernel, by decide +kernel, by decide +kernel, by decide +kernel⟩) (by decide) (fun _ _ _ _ _ => pg_name sc_wcoin.nd rfl (by first | exact Or.inl rfl | exact Or.inr rfl)) (fun _ _ _ _ _ => dts_nil) (fun _ _ _ _ _ => (d_var (i := 4))) (fun _ _ _ _ _ => (d_dget hK hw hu12 (d_var (i := 0)) (d_var (i := 4)))))) ?_
  refine ds_cons (ds_while PassesOwn.never (d_tcmp hK (o_is (neg := true)) (d_var (i := 2)) d_non rfl fIs_bl) (ds_cons (ds_set (i := 5) sc_wcoin.nd rfl (by first | exact Or.inl rfl | exact Or.inr rfl) (d_dget hK hw hu12 (d_var (i := 1)) (d_var (i := 2)))) (ds_cons (ds_set (i := 6) sc_wcoin.nd rfl (by first | exact Or.inl rfl | exact Or.inr rfl) (d_getD hK hw hu12 (d_var (i := 3)) (d_cons (d_var (i := 5)) d_nil))) (ds_cons (ds_dput hK hw hu12 (d_var (i := 3)) (d_var (i := 5)) (d_var (i := 2))) (ds_one (ds_set (i := 2) sc_wcoin.nd rfl (by first | exact Or.inl rfl | exact Or.inr rfl) (d_var (i := 6)))))))) ?_
  exact ds_one (ds_ret (d_var (i := 3)))
abbrev s_asgn : Stmt := top 2
def n_asgn : List Str := ["scopes", "pairs", "assignment", "pair", "place", "wishes", "reached"]
theorem sc_asgn : FnScope n_asgn ["scopes", "pairs"] (defScope s_asgn) := ⟨rfl, rfl, rfl, by decide +kernel, rfl, by decide +kernel, by decide +kernel⟩
def asgn_1 : MS := sSet 2 eNewN
def asgn_2_1 : MS := sAsg (gTp [4, 5, 6]) (eCall m_srchK (es3 (eVar 0) (eVar 2) (eVar 3)))
def asgn_2_2_a_1 : MS := sRet (eTup (es2 (eCon .non) (eFn fTupOf (es1 (eFn fSortL (es1 (eVar 6)))))))
def asgn_2_2 : MS := sIf (tTru (eOp2 (fIs false) (eVar 4) (eCon .non))) asgn_2_2_a_1 sSkip
def asgn_2_3 : MS := sSet 2 (eCall m_wcoinK (es3 (eVar 2) (eVar 5) (eVar 4)))
def asgn_2 : MS := sFor (gNm 3) (iSeq (eVar 1)) (sSeq asgn_2_1 (sSeq asgn_2_2 asgn_2_3))
def asgn_3 : MS := sRet (eTup (es2 (eVar 2) (eCon .non)))
def b_asgn : MS := sSeq asgn_1 (sSeq asgn_2 (asgn_3))
def m_asgnK : MF := defM true b_asgn 7 2
theorem ok_asgnK {f : Addr} {fd : FuncData} (F : Fun K "assignment_for" "assignment_for" s_asgn f fd) (hK : g.K = K) (hw : g.w = w) (mtuple : mg "tuple" = none) (msorted : mg "sorted" = none) (C1 : Cal1 P w K mg base g 1 "search_coin" ["scopes", "assignment", "pair"] m_srchK) (C2 : Cal1 P w K mg base g 1 "with_coin" ["assignment", "wishes", "place"] m_wcoinK) : FnOk P w K mg base CX0 2 f fd ["scopes", "pairs"] (spD g m_asgnK) := by
  obtain ⟨f1, fd1, F1, g1, k1, b1⟩ := C1.ex
  obtain ⟨f2, fd2, F2, g2, k2, b2⟩ := C2.ex
  refine ok_def F sc_asgn rfl fun cdv A outer s H E hr => ?_
  have hu : (A.deeper (envOfC "assignment_for" (defScope s_asgn) s.heap.objs.size f cdv)).units + 200 < cLine := by have := hr.un; omega
  have hu20 := Nat.lt_of_le_of_lt (Nat.add_le_add_left (show 20 ≤ 200 by decide) _) hu
  refine ds_cons (ds_set (i := 2) sc_asgn.nd rfl (by first | exact Or.inl rfl | exact Or.inr rfl) (d_newN hw)) ?_
  refine ds_cons (ds_for PassesOwn.never rfl (di_seq hK (d_var (i := 1))) (dg_nm (i := 3) sc_asgn.nd rfl (by first | exact Or.inl rfl | exact Or.inr rfl)) (ds_cons (ds_asg (d_call F1 hr (by decide) rfl g1 k1 b1 (d_cons (d_var (i := 0)) (d_cons (d_var (i := 2)) (d_cons (d_var (i := 3)) d_nil)))) (dg_tp hK rfl (dgs_cons (i := 4) sc_asgn.nd rfl (by first | exact Or.inl rfl | exact Or.inr rfl) (dgs_cons (i := 5) sc_asgn.nd rfl (by first | exact Or.inl rfl | exact Or.inr rfl) (dgs_cons (i := 6) sc_asgn.nd rfl (by first | exact Or.inl rfl | exact Or.inr rfl) dgs_nil))))) (ds_cons (ds_if (d_tcmp hK (o_is (neg := false)) (d_var (i := 4)) d_non rfl fIs_bl) (ds_one (ds_ret (d_tup (d_cons d_non (d_cons (d_typ (c_tuple hK) rfl mtuple (by decide +kernel) (d_cons (d_blt (c_sort hK hu20) rfl msorted (by decide +kernel) (d_cons (d_var (i := 6)) d_nil)) d_nil)) d_nil)) (esN_cons (esN_cons esN_nil))))) ds_nil) (ds_one (ds_set (i := 2) sc_asgn.nd rfl (by first | exact Or.inl rfl | exact Or.inr rfl) (d_call F2 hr (by decide) rfl g2 k2 b2 (d_cons (d_var (i := 2)) (d_cons (d_var (i := 5)) (d_cons (d_var (i := 4)) d_nil))))))))) ?_
  exact ds_one (ds_ret (d_tup (d_cons (d_var (i := 2)) (d_cons d_non d_nil)) (esN_cons (esN_cons esN_nil))))
abbrev s_cfor : Stmt := top 6
def n_cfor : List Str := ["coins", "pairs", "assignment", "_", "pair"]
theorem sc_cfor : FnScope n_cfor ["coins", "pairs"] (defScope s_cfor) := ⟨rfl, rfl, rfl, by decide +kernel, rfl, by decide +kernel, by decide +kernel⟩
def cfor_1 : MS := sAsg (gTp [2, 3]) (eCall m_asgnK (es2 (eCall m_scps (es1 (eVar 0))) (eVar 1)))
def cfor_2_a_1 : MS := sRet (eCon .non)
def cfor_2 : MS := sIf (tTru (eOp2 (fIs false) (eVar 2) (eCon .non))) cfor_2_a_1 sSkip
def cfor_3 : MS := sRet (eFn fTupOf (es1 (eLc (.nm 4) (iSeq (eVar 1)) tYesM (eOp2 fIx (eOp2 fIx (eVar 0) (eOp2 fDGet (eVar 2) (eVar 4))) (eCon (.int 0))) [4])))
def b_cfor : MS := sSeq cfor_1 (sSeq cfor_2 (cfor_3))
def m_cfor : MF := defM false b_cfor 5 2
theorem ok_cfor {f : Addr} {fd : FuncData} (F : Fun K "coins_for" "coins_for" s_cfor f fd) (hK : g.K = K) (hw : g.w = w) (mtuple : mg "tuple" = none) (C1 : Cal1 P w K mg base g 2 "assignment_for" ["scopes", "pairs"] m_asgnK) (C2 : Cal1 P w K mg base g 1 "scopes_of" ["coins"] m_scps) : FnOk P w K mg base CX0 3 f fd ["coins", "pairs"] (spD g m_cfor) := by
  obtain ⟨f1, fd1, F1, g1, k1, b1⟩ := C1.ex
  obtain ⟨f2, fd2, F2, g2, k2, b2⟩ := C2.ex
  refine ok_def F sc_cfor rfl fun cdv A outer s H E hr => ?_
  have hu : (A.deeper (envOfC "coins_for" (defScope s_cfor) s.heap.objs.size f cdv)).units + 200 < cLine := by have := hr.un; omega
  have hu12 := Nat.lt_of_le_of_lt (Nat.add_le_add_left (show 12 ≤ 200 by decide) _) hu
  refine ds_cons (ds_asg (d_call F1 hr (by decide) rfl g1 k1 b1 (d_cons (d_call F2 hr (by decide) rfl g2 k2 b2 (d_cons (d_var (i := 0)) d_nil)) (d_cons (d_var (i := 1)) d_nil))) (dg_tp hK rfl (dgs_cons (i := 2) sc_cfor.nd rfl (by first | exact Or.inl rfl | exact Or.inr rfl) (dgs_cons (i := 3) sc_cfor.nd rfl (by first | exact Or.inl rfl | exact Or.inr rfl) dgs_nil)))) ?_
  refine ds_cons (ds_if (d_tcmp hK (o_is (neg := false)) (d_var (i := 2)) d_non rfl fIs_bl) (ds_one (ds_ret d_non)) ds_nil) ?_
  exact ds_one (ds_ret (d_typ (c_tuple hK) rfl mtuple (by decide +kernel) (d_cons (d_lc (own := [("pair", 4)]) hK rfl sc_cfor.nd (di_seq hK (d_var (i := 1))) (show BlkOk n_cfor (defScope s_cfor) _ _ from ⟨rfl, by decide +kernel, by decide +kernel, by decide +kernel, by decide +kernel⟩) (by decide) (fun _ _ _ _ _ => pg_name sc_cfor.nd rfl (by first | exact Or.inl rfl | exact Or.inr rfl)) (fun _ _ _ _ _ => dts_nil) (fun _ _ _ _ _ => (d_ix hK (d_ix hK (d_var (i := 0)) (d_dget hK hw hu12 (d_var (i := 2)) (d_var (i := 4)))) d_int))) d_nil)))
end
end Pilot
namespace Pilot
open PySem PySem.Spec PyProof.Rows L2 Mp
section
variable {P : Program} {w : World} {K : PySem.W.Frag} {mg : Str → Option Value} {base : Heap} {g : Gx}
abbrev s_feed : Stmt := top 8
def n_feed : List Str := ["_law_script"]
theorem sc_feed : FnScope n_feed ["_law_script"] (defScope s_feed) := ⟨rfl, rfl, rfl, by decide +kernel, rfl, by decide +kernel, by decide +kernel⟩
def feed_1 : MS := sRet (eDisp ((["cells", "at", "rest", "draws"] : List Str).map Sum.inr) (esAll [(eFn fLstOf (es1 (eSl (eVar 0) oNo (oSo (eCon (.int 63)))))), (eCon (.int 0)), (eCon (.int 0)), (eCon (.int 0))]))
def b_feed : MS := feed_1
def m_feedK : MF := defM true b_feed 1 1
theorem ok_feedK {f : Addr} {fd : FuncData} (F : Fun K "_law_feed" "_law_feed" s_feed f fd) (hK : g.K = K) (hw : g.w = w) (mlist : mg "list" = none) : FnOk P w K mg base CX0 1 f fd ["_law_script"] (spD g m_feedK) := by
  refine ok_def F sc_feed rfl fun cdv A outer s H E hr => ?_
  have hu : (A.deeper (envOfC "_law_feed" (defScope s_feed) s.heap.objs.size f cdv)).units + 200 < cLine := by have := hr.un; omega
  exact ds_one (ds_ret (by refine d_disp (xs := ["cells", "at", "rest", "draws"]) (ms := [(eFn fLstOf (es1 (eSl (eVar 0) oNo (oSo (eCon (.int 63)))))), (eCon (.int 0)), (eCon (.int 0)), (eCon (.int 0))]) ?_ rfl (by decide) (by decide); exact (pps_cons d_str (d_typ (c_list hK) rfl mlist (by decide +kernel) (d_cons (d_sl hK (d_var (i := 0)) do_no (do_so d_int)) d_nil)) (pps_cons d_str d_int (pps_cons d_str d_int (pps_cons d_str d_int pps_nil))))))
abbrev s_draw : Stmt := top 9
def n_draw : List Str := ["_law_feed_here", "_law_limit", "_law_digit", "_law_at", "_law_cell", "_law_mixed"]
theorem sc_draw : FnScope n_draw ["_law_feed_here", "_law_limit"] (defScope s_draw) := ⟨rfl, rfl, rfl, by decide +kernel, rfl, by decide +kernel, by decide +kernel⟩
def draw_1 : MS := sDPutM (eVar 0) (eCon (.str "draws")) (eOp2 fAdd (eOp2 fDGet (eVar 0) (eCon (.str "draws"))) (eCon (.int 1)))
def draw_2_a_1 : MS := sSet 2 (eOp2 fMod (eOp2 fDGet (eVar 0) (eCon (.str "rest"))) (eVar 1))
def draw_2_a_2 : MS := sDPutM (eVar 0) (eCon (.str "rest")) (eOp2 fDiv (eOp2 fDGet (eVar 0) (eCon (.str "rest"))) (eVar 1))
def draw_2_a_3 : MS := sRet (eVar 2)
def draw_2 : MS := sIf (tTru (eOp2 (fOrd .Gt) (eOp2 fDGet (eVar 0) (eCon (.str "rest"))) (eCon (.int 0)))) (sSeq draw_2_a_1 (sSeq draw_2_a_2 draw_2_a_3)) sSkip
def draw_3 : MS := sSet 3 (eOp2 fDGet (eVar 0) (eCon (.str "at")))
def draw_4 : MS := sDPutM (eVar 0) (eCon (.str "at")) (eOp2 fAdd (eVar 3) (eCon (.int 1)))
def draw_5 : MS := sSet 4 (eIfE (tTru (eOp2 (fEq true) (eOp2 fDGet (eVar 0) (eCon (.str "cells"))) (eLst esNil))) (eOp2 fIx (eOp2 fDGet (eVar 0) (eCon (.str "cells"))) (eOp2 fMod (eVar 3) (eFn fLen (es1 (eOp2 fDGet (eVar 0) (eCon (.str "cells"))))))) (eCon (.int 43)))
def draw_6_a_1 : MS := sDPutM (eVar 0) (eCon (.str "rest")) (eOp2 fDiv (eVar 4) (eVar 1))
def draw_6_a_2 : MS := sRet (eOp2 fMod (eVar 4) (eVar 1))
def draw_6 : MS := sIf (tAndD (tTru (eOp2 (fOrd .GtE) (eVar 4) (eOp2 fPow (eCon (.int 10)) (eCon (.int 18))))) (tTru (eOp2 (fOrd .Lt) (eVar 3) (eFn fLen (es1 (eOp2 fDGet (eVar 0) (eCon (.str "cells")))))))) (sSeq draw_6_a_1 draw_6_a_2) sSkip
def draw_7 : MS := sSet 5 (eOp2 fMod (eOp2 fAdd (eOp2 fAdd (eOp2 fMod (eVar 4) (eCon (.int 2147483587))) (eOp2 fMul (eCon (.int 60621)) (eOp2 fDGet (eVar 0) (eCon (.str "draws"))))) (eCon (.int 19))) (eCon (.int 2147483647)))
def draw_8 : MS := sSet 5 (eOp2 fMod (eOp2 fAdd (eOp2 fAdd (eOp2 fMul (eVar 5) (eVar 5)) (eOp2 fMul (eCon (.int 8233)) (eOp2 fDGet (eVar 0) (eCon (.str "draws"))))) (eCon (.int 41))) (eCon (.int 2147483489)))
def draw_9 : MS := sRet (eOp2 fMod (eOp2 fDiv (eOp2 fMod (eOp2 fAdd (eOp2 fMul (eVar 5) (eVar 5)) (eOp2 fMul (eCon (.int 69)) (eVar 5))) (eCon (.int 2147483323))) (eCon (.int 32))) (eVar 1))
def b_draw : MS := sSeq draw_1 (sSeq draw_2 (sSeq draw_3 (sSeq draw_4 (sSeq draw_5 (sSeq draw_6 (sSeq draw_7 (sSeq draw_8 (draw_9))))))))
def m_drawK : MF := defM true b_draw 6 2
theorem ok_drawK {f : Addr} {fd : FuncData} (F : Fun K "_law_draw" "_law_draw" s_draw f fd) (hK : g.K = K) (hw : g.w = w) (mlen : mg "len" = none) : FnOk P w K mg base CX0 1 f fd ["_law_feed_here", "_law_limit"] (spD g m_drawK) := by
  refine ok_def F sc_draw rfl fun cdv A outer s H E hr => ?_
  have hu : (A.deeper (envOfC "_law_draw" (defScope s_draw) s.heap.objs.size f cdv)).units + 200 < cLine := by have := hr.un; omega
  have hu12 := Nat.lt_of_le_of_lt (Nat.add_le_add_left (show 12 ≤ 200 by decide) _) hu
  have hu64 := Nat.lt_of_le_of_lt (Nat.add_le_add_left (show 64 ≤ 200 by decide) _) hu
  refine ds_cons (ds_dput hK hw hu12 (d_var (i := 0)) d_str (d_bin (o_add hK) (d_dget hK hw hu12 (d_var (i := 0)) d_str) d_int)) ?_
  refine ds_cons (ds_if (d_tcmp hK (o_ord hK hu64) (d_dget hK hw hu12 (d_var (i := 0)) d_str) d_int rfl fOrd_bl) (ds_cons (ds_set (i := 2) sc_draw.nd rfl (by first | exact Or.inl rfl | exact Or.inr rfl) (d_bin o_mod (d_dget hK hw hu12 (d_var (i := 0)) d_str) (d_var (i := 1)))) (ds_cons (ds_dput hK hw hu12 (d_var (i := 0)) d_str (d_bin o_div (d_dget hK hw hu12 (d_var (i := 0)) d_str) (d_var (i := 1)))) (ds_one (ds_ret (d_var (i := 2)))))) ds_nil) ?_
  refine ds_cons (ds_set (i := 3) sc_draw.nd rfl (by first | exact Or.inl rfl | exact Or.inr rfl) (d_dget hK hw hu12 (d_var (i := 0)) d_str)) ?_
  refine ds_cons (ds_dput hK hw hu12 (d_var (i := 0)) d_str (d_bin (o_add hK) (d_var (i := 3)) d_int)) ?_
  refine ds_cons (ds_set (i := 4) sc_draw.nd rfl (by first | exact Or.inl rfl | exact Or.inr rfl) (d_ifE (d_tcmp hK (o_ne hK hu64) (d_dget hK hw hu12 (d_var (i := 0)) d_str) (d_lst d_nil esN_nil) rfl fEq_bl) (d_ix hK (d_dget hK hw hu12 (d_var (i := 0)) d_str) (d_bin o_mod (d_var (i := 3)) (d_blt (c_len hK) rfl mlen (by decide +kernel) (d_cons (d_dget hK hw hu12 (d_var (i := 0)) d_str) d_nil)))) d_int)) ?_
  refine ds_cons (ds_if (PW.pt (d_and (d_tcmp hK (o_ord hK hu64) (d_var (i := 4)) (d_bin o_pow d_int d_int) rfl fOrd_bl) (d_and1 (d_tcmp hK (o_ord hK hu64) (d_var (i := 3)) (d_blt (c_len hK) rfl mlen (by decide +kernel) (d_cons (d_dget hK hw hu12 (d_var (i := 0)) d_str) d_nil)) rfl fOrd_bl)))) (ds_cons (ds_dput hK hw hu12 (d_var (i := 0)) d_str (d_bin o_div (d_var (i := 4)) (d_var (i := 1)))) (ds_one (ds_ret (d_bin o_mod (d_var (i := 4)) (d_var (i := 1)))))) ds_nil) ?_
  refine ds_cons (ds_set (i := 5) sc_draw.nd rfl (by first | exact Or.inl rfl | exact Or.inr rfl) (d_bin o_mod (d_bin (o_add hK) (d_bin (o_add hK) (d_bin o_mod (d_var (i := 4)) d_int) (d_bin o_mul d_int (d_dget hK hw hu12 (d_var (i := 0)) d_str))) d_int) d_int)) ?_
  refine ds_cons (ds_set (i := 5) sc_draw.nd rfl (by first | exact Or.inl rfl | exact Or.inr rfl) (d_bin o_mod (d_bin (o_add hK) (d_bin (o_add hK) (d_bin o_mul (d_var (i := 5)) (d_var (i := 5))) (d_bin o_mul d_int (d_dget hK hw hu12 (d_var (i := 0)) d_str))) d_int) d_int)) ?_
  exact ds_one (ds_ret (d_bin o_mod (d_bin o_div (d_bin o_mod (d_bin (o_add hK) (d_bin o_mul (d_var (i := 5)) (d_var (i := 5))) (d_bin o_mul d_int (d_var (i := 5)))) d_int) d_int) (d_var (i := 1))))
abbrev s_choi : Stmt := top 10
def n_choi : List Str := ["_law_feed_here", "_law_values"]
theorem sc_choi : FnScope n_choi ["_law_feed_here", "_law_values"] (defScope s_choi) := ⟨rfl, rfl, rfl, by decide +kernel, rfl, by decide +kernel, by decide +kernel⟩
def choi_1 : MS := sRet (eOp2 fIx (eVar 1) (eCall m_drawK (es2 (eVar 0) (eFn fLen (es1 (eVar 1))))))
def b_choi : MS := choi_1
def m_choiK : MF := defM true b_choi 2 2
theorem ok_choiK {f : Addr} {fd : FuncData} (F : Fun K "_law_choice" "_law_choice" s_choi f fd) (hK : g.K = K) (hw : g.w = w) (mlen : mg "len" = none) (C1 : Cal1 P w K mg base g 1 "_law_draw" ["_law_feed_here", "_law_limit"] m_drawK) : FnOk P w K mg base CX0 2 f fd ["_law_feed_here", "_law_values"] (spD g m_choiK) := by
  obtain ⟨f1, fd1, F1, g1, k1, b1⟩ := C1.ex
  refine ok_def F sc_choi rfl fun cdv A outer s H E hr => ?_
  have hu : (A.deeper (envOfC "_law_choice" (defScope s_choi) s.heap.objs.size f cdv)).units + 200 < cLine := by have := hr.un; omega
  exact ds_one (ds_ret (d_ix hK (d_var (i := 1)) (d_call F1 hr (by decide) rfl g1 k1 b1 (d_cons (d_var (i := 0)) (d_cons (d_blt (c_len hK) rfl mlen (by decide +kernel) (d_cons (d_var (i := 1)) d_nil)) d_nil)))))
abbrev s_tabl : Stmt := top 11
def n_tabl : List Str := ["_law_feed_here", "_law_most_rows", "_law_names", "_law_lists", "_law_found", "_law_name", "_law_first", "_law_k", "_law_some"]
theorem sc_tabl : FnScope n_tabl ["_law_feed_here", "_law_most_rows"] (defScope s_tabl) := ⟨rfl, rfl, rfl, by decide +kernel, rfl, by decide +kernel, by decide +kernel⟩
def tabl_1 : MS := sSet 2 (eSl (eLst (es3 (eCon (.str "a")) (eCon (.str "bb")) (eCon (.str "zzzzzzzz")))) oNo (oSo (eOp2 fAdd (eCon (.int 1)) (eCall m_drawK (es2 (eVar 0) (eCon (.int 3)))))))
def tabl_2 : MS := sPar 3 4 (eLstM esNil) eNewN
def tabl_3_1 : MS := sSet 6 (eCall m_drawK (es2 (eVar 0) (eCon (.int 2))))
def tabl_3_2 : MS := sExp (eMeth isL fApp (eVar 3) (es1 (eSl (eLst (es5 (eCon (.str "p")) (eCon (.str "q")) (eCon (.str "r")) (eCon (.str "s")) (eCon (.str "tttttttt")))) (oSo (eVar 6)) (oSo (eOp2 fAdd (eCon (.int 3)) (eCall m_drawK (es2 (eVar 0) (eCon (.int 3)))))))))
def tabl_3 : MS := sFor (gNm 5) (iSeq (eVar 2)) (sSeq tabl_3_1 tabl_3_2)
def tabl_4_1 : MS := sDPutM (eVar 4) (eFn fTupOf (es1 (eLc (.nm 8) (iSeq (eVar 3)) tYesM (eOp2 fIx (eVar 8) (eVar 7)) [8]))) (eCon (.bl true))
def tabl_4 : MS := sFor (gNm 7) (iSeq (eTup (es2 (eCon (.int 0)) (eOp1 fNeg (eCon (.int 1)))))) tabl_4_1
def tabl_5_1 : MS := sDPutM (eVar 4) (eFn fTupOf (es1 (eLc (.nm 8) (iSeq (eVar 3)) tYesM (eCall m_choiK (es2 (eVar 0) (eVar 8))) [8]))) (eCon (.bl true))
def tabl_5 : MS := sFor (gNm 7) (iRng1M (eCall m_drawK (es2 (eVar 0) (eOp2 fSub (eVar 1) (eCon (.int 1)))))) tabl_5_1
def tabl_6 : MS := sRet (eTup (es2 (eFn fTupOf (es1 (eVar 2))) (eFn fTupOf (es1 (eFn fSortD (es1 (eVar 4)))))))
def b_tabl : MS := sSeq tabl_1 (sSeq tabl_2 (sSeq tabl_3 (sSeq tabl_4 (sSeq tabl_5 (tabl_6)))))
def m_tabl : MF := defM false b_tabl 9 2
theorem ok_tabl {f : Addr} {fd : FuncData} (F : Fun K "_law_table" "_law_table" s_tabl f fd) (hK : g.K = K) (hw : g.w = w) (mtuple : mg "tuple" = none) (mrange : mg "range" = none) (msorted : mg "sorted" = none) (C1 : Cal1 P w K mg base g 1 "_law_draw" ["_law_feed_here", "_law_limit"] m_drawK) (C2 : Cal1 P w K mg base g 2 "_law_choice" ["_law_feed_here", "_law_values"] m_choiK) : FnOk P w K mg base CX0 3 f fd ["_law_feed_here", "_law_most_rows"] (spD g m_tabl) := by
  obtain ⟨f1, fd1, F1, g1, k1, b1⟩ := C1.ex
  obtain ⟨f2, fd2, F2, g2, k2, b2⟩ := C2.ex
  refine ok_def F sc_tabl rfl fun cdv A outer s H E hr => ?_
  have hu : (A.deeper (envOfC "_law_table" (defScope s_tabl) s.heap.objs.size f cdv)).units + 200 < cLine := by have := hr.un; omega
  have hu12 := Nat.lt_of_le_of_lt (Nat.add_le_add_left (show 12 ≤ 200 by decide) _) hu
  have hu20 := Nat.lt_of_le_of_lt (Nat.add_le_add_left (show 20 ≤ 200 by decide) _) hu
  refine ds_cons (ds_set (i := 2) sc_tabl.nd rfl (by first | exact Or.inl rfl | exact Or.inr rfl) (d_sl hK (d_lst (d_cons d_str (d_cons d_str (d_cons d_str d_nil))) (esN_cons (esN_cons (esN_cons esN_nil)))) do_no (do_so (d_bin (o_add hK) d_int (d_call F1 hr (by decide) rfl g1 k1 b1 (d_cons (d_var (i := 0)) (d_cons d_int d_nil))))))) ?_
  refine ds_cons (ds_par (i := 3) (j := 4) rfl sc_tabl.nd rfl rfl (by decide) rfl rfl (d_lstM d_nil esN_nil) (d_newN hw) rfl) ?_
  refine ds_cons (ds_for PassesOwn.never rfl (di_seq hK (d_var (i := 2))) (dg_nm (i := 5) sc_tabl.nd rfl (by first | exact Or.inl rfl | exact Or.inr rfl)) (ds_cons (ds_set (i := 6) sc_tabl.nd rfl (by first | exact Or.inl rfl | exact Or.inr rfl) (d_call F1 hr (by decide) rfl g1 k1 b1 (d_cons (d_var (i := 0)) (d_cons d_int d_nil)))) (ds_one (ds_exp (d_app (d_var (i := 3)) (d_cons (d_sl hK (d_lst (d_cons d_str (d_cons d_str (d_cons d_str (d_cons d_str (d_cons d_str d_nil))))) (esN_cons (esN_cons (esN_cons (esN_cons (esN_cons esN_nil)))))) (do_so (d_var (i := 6))) (do_so (d_bin (o_add hK) d_int (d_call F1 hr (by decide) rfl g1 k1 b1 (d_cons (d_var (i := 0)) (d_cons d_int d_nil)))))) d_nil)))))) ?_
  refine ds_cons (ds_for PassesOwn.never rfl (di_seq hK (d_tup (d_cons d_int (d_cons (d_un o_neg d_int) d_nil)) (esN_cons (esN_cons esN_nil)))) (dg_nm (i := 7) sc_tabl.nd rfl (by first | exact Or.inl rfl | exact Or.inr rfl)) (ds_one (ds_dput hK hw hu12 (d_var (i := 4)) (d_typ (c_tuple hK) rfl mtuple (by decide +kernel) (d_cons (d_lc (own := [("_law_some", 8)]) hK rfl sc_tabl.nd (di_seq hK (d_var (i := 3))) (show BlkOk n_tabl (defScope s_tabl) _ _ from ⟨rfl, by decide +kernel, by decide +kernel, by decide +kernel, by decide +kernel⟩) (by decide) (fun _ _ _ _ _ => pg_name sc_tabl.nd rfl (by first | exact Or.inl rfl | exact Or.inr rfl)) (fun _ _ _ _ _ => dts_nil) (fun _ _ _ _ _ => (d_ix hK (d_var (i := 8)) (d_var (i := 7))))) d_nil)) d_bl))) ?_
  refine ds_cons (ds_for PassesOwn.never rfl (di_rng1 rfl mrange (d_call F1 hr (by decide) rfl g1 k1 b1 (d_cons (d_var (i := 0)) (d_cons (d_bin o_sub (d_var (i := 1)) d_int) d_nil)))) (dg_nm (i := 7) sc_tabl.nd rfl (by first | exact Or.inl rfl | exact Or.inr rfl)) (ds_one (ds_dput hK hw hu12 (d_var (i := 4)) (d_typ (c_tuple hK) rfl mtuple (by decide +kernel) (d_cons (d_lc (own := [("_law_some", 8)]) hK rfl sc_tabl.nd (di_seq hK (d_var (i := 3))) (show BlkOk n_tabl (defScope s_tabl) _ _ from ⟨rfl, by decide +kernel, by decide +kernel, by decide +kernel, by decide +kernel⟩) (by decide) (fun _ _ _ _ _ => pg_name sc_tabl.nd rfl (by first | exact Or.inl rfl | exact Or.inr rfl)) (fun _ _ _ _ _ => dts_nil) (fun _ _ _ _ _ => (d_call F2 hr (by decide) rfl g2 k2 b2 (d_cons (d_var (i := 0)) (d_cons (d_var (i := 8)) d_nil))))) d_nil)) d_bl))) ?_
  exact ds_one (ds_ret (d_tup (d_cons (d_typ (c_tuple hK) rfl mtuple (by decide +kernel) (d_cons (d_var (i := 2)) d_nil)) (d_cons (d_typ (c_tuple hK) rfl mtuple (by decide +kernel) (d_cons (d_blt (c_sortD hK hw rfl hu20) rfl msorted (by decide +kernel) (d_cons (d_var (i := 4)) d_nil)) d_nil)) d_nil)) (esN_cons (esN_cons esN_nil))))
abbrev s_prs : Stmt := top 12
def n_prs : List Str := ["_law_grid", "_law_found", "_law_line", "_law_pair"]
theorem sc_prs : FnScope n_prs ["_law_grid"] (defScope s_prs) := ⟨rfl, rfl, rfl, by decide +kernel, rfl, by decide +kernel, by decide +kernel⟩
def prs_1 : MS := sSet 1 eNewN
def prs_2_1 : MS := sExp (eMeth isDn fUpd (eVar 1) (es1 (eLc (.nm 3) (iZipT (eOp2 fIx (eVar 0) (eCon (.int 0))) (eVar 2)) tYesM (eTup (es2 (eVar 3) (eCon (.bl true)))) [3])))
def prs_2 : MS := sFor (gNm 2) (iSeq (eOp2 fIx (eVar 0) (eCon (.int 1)))) prs_2_1
def prs_3 : MS := sRet (eFn fSortD (es1 (eVar 1)))
def b_prs : MS := sSeq prs_1 (sSeq prs_2 (prs_3))
def m_prs : MF := defM false b_prs 4 1
theorem ok_prs {f : Addr} {fd : FuncData} (F : Fun K "_law_pairs" "_law_pairs" s_prs f fd) (hK : g.K = K) (hw : g.w = w) (mzip : mg "zip" = none) (msorted : mg "sorted" = none) : FnOk P w K mg base CX0 1 f fd ["_law_grid"] (spD g m_prs) := by
  refine ok_def F sc_prs rfl fun cdv A outer s H E hr => ?_
  have hu : (A.deeper (envOfC "_law_pairs" (defScope s_prs) s.heap.objs.size f cdv)).units + 200 < cLine := by have := hr.un; omega
  have hu12 := Nat.lt_of_le_of_lt (Nat.add_le_add_left (show 12 ≤ 200 by decide) _) hu
  have hu20 := Nat.lt_of_le_of_lt (Nat.add_le_add_left (show 20 ≤ 200 by decide) _) hu
  refine ds_cons (ds_set (i := 1) sc_prs.nd rfl (by first | exact Or.inl rfl | exact Or.inr rfl) (d_newN hw)) ?_
  refine ds_cons (ds_for PassesOwn.never rfl (di_seq hK (d_ix hK (d_var (i := 0)) d_int)) (dg_nm (i := 2) sc_prs.nd rfl (by first | exact Or.inl rfl | exact Or.inr rfl)) (ds_one (ds_exp (d_upd hK hw rfl hu12 (d_var (i := 1)) (d_cons (d_lc (own := [("_law_pair", 3)]) hK rfl sc_prs.nd (di_zipN hK rfl mzip (d_ix hK (d_var (i := 0)) d_int) (d_var (i := 2))) (show BlkOk n_prs (defScope s_prs) _ _ from ⟨rfl, by decide +kernel, by decide +kernel, by decide +kernel, by decide +kernel⟩) (by decide) (fun _ _ _ _ _ => pg_name sc_prs.nd rfl (by first | exact Or.inl rfl | exact Or.inr rfl)) (fun _ _ _ _ _ => dts_nil) (fun _ _ _ _ _ => (d_tup (d_cons (d_var (i := 3)) (d_cons d_bl d_nil)) (esN_cons (esN_cons esN_nil))))) d_nil))))) ?_
  exact ds_one (ds_ret (d_blt (c_sortD hK hw rfl hu20) rfl msorted (by decide +kernel) (d_cons (d_var (i := 1)) d_nil)))
abbrev s_scop : Stmt := top 13
def n_scop : List Str := ["_law_feed_here", "_law_every", "_law_most", "_law_found", "_law_k"]
theorem sc_scop : FnScope n_scop ["_law_feed_here", "_law_every", "_law_most"] (defScope s_scop) := ⟨rfl, rfl, rfl, by decide +kernel, rfl, by decide +kernel, by decide +kernel⟩
def scop_1 : MS := sSet 3 eNewN
def scop_2_1 : MS := sDPutM (eVar 3) (eCall m_choiK (es2 (eVar 0) (eVar 1))) (eCon (.bl true))
def scop_2 : MS := sFor (gNm 4) (iRng1M (eCall m_drawK (es2 (eVar 0) (eOp2 fAdd (eVar 2) (eCon (.int 1)))))) scop_2_1
def scop_3 : MS := sRet (eFn fTupOf (es1 (eFn fSortD (es1 (eVar 3)))))
def b_scop : MS := sSeq scop_1 (sSeq scop_2 (scop_3))
def m_scop : MF := defM false b_scop 5 3
theorem ok_scop {f : Addr} {fd : FuncData} (F : Fun K "_law_scope" "_law_scope" s_scop f fd) (hK : g.K = K) (hw : g.w = w) (mrange : mg "range" = none) (mtuple : mg "tuple" = none) (msorted : mg "sorted" = none) (C1 : Cal1 P w K mg base g 1 "_law_draw" ["_law_feed_here", "_law_limit"] m_drawK) (C2 : Cal1 P w K mg base g 2 "_law_choice" ["_law_feed_here", "_law_values"] m_choiK) : FnOk P w K mg base CX0 3 f fd ["_law_feed_here", "_law_every", "_law_most"] (spD g m_scop) := by
  obtain ⟨f1, fd1, F1, g1, k1, b1⟩ := C1.ex
  obtain ⟨f2, fd2, F2, g2, k2, b2⟩ := C2.ex
  refine ok_def F sc_scop rfl fun cdv A outer s H E hr => ?_
  have hu : (A.deeper (envOfC "_law_scope" (defScope s_scop) s.heap.objs.size f cdv)).units + 200 < cLine := by have := hr.un; omega
  have hu12 := Nat.lt_of_le_of_lt (Nat.add_le_add_left (show 12 ≤ 200 by decide) _) hu
  have hu20 := Nat.lt_of_le_of_lt (Nat.add_le_add_left (show 20 ≤ 200 by decide) _) hu
  refine ds_cons (ds_set (i := 3) sc_scop.nd rfl (by first | exact Or.inl rfl | exact Or.inr rfl) (d_newN hw)) ?_
  refine ds_cons (ds_for PassesOwn.never rfl (di_rng1 rfl mrange (d_call F1 hr (by decide) rfl g1 k1 b1 (d_cons (d_var (i := 0)) (d_cons (d_bin (o_add hK) (d_var (i := 2)) d_int) d_nil)))) (dg_nm (i := 4) sc_scop.nd rfl (by first | exact Or.inl rfl | exact Or.inr rfl)) (ds_one (ds_dput hK hw hu12 (d_var (i := 3)) (d_call F2 hr (by decide) rfl g2 k2 b2 (d_cons (d_var (i := 0)) (d_cons (d_var (i := 1)) d_nil))) d_bl))) ?_
  exact ds_one (ds_ret (d_typ (c_tuple hK) rfl mtuple (by decide +kernel) (d_cons (d_blt (c_sortD hK hw rfl hu20) rfl msorted (by decide +kernel) (d_cons (d_var (i := 3)) d_nil)) d_nil)))
abbrev s_purse : Stmt := top 14
def n_purse : List Str := ["_law_feed_here", "_law_every", "_law_most", "_law_found", "_law_next_number", "_law_k"]
theorem sc_purse : FnScope n_purse ["_law_feed_here", "_law_every", "_law_most"] (defScope s_purse) := ⟨rfl, rfl, rfl, by decide +kernel, rfl, by decide +kernel, by decide +kernel⟩
def purse_1 : MS := sPar 3 4 (eLstM esNil) (eCon (.int 0))
def purse_2_1 : MS := sSet 4 (eOp2 fAdd (eVar 4) (eCall m_choiK (es2 (eVar 0) (eLst (es4 (eCon (.int 0)) (eCon (.int 1)) (eCon (.int 2)) (eOp2 fPow (eCon (.int 10)) (eCon (.int 20))))))))
def purse_2_2 : MS := sExp (eMeth isL fApp (eVar 3) (es1 (eTup (es2 (eVar 4) (eCall m_scop (es3 (eVar 0) (eVar 1) (eCon (.int 3))))))))
def purse_2_3 : MS := sSet 4 (eOp2 fAdd (eVar 4) (eCon (.int 1)))
def purse_2 : MS := sFor (gNm 5) (iRng1M (eCall m_drawK (es2 (eVar 0) (eOp2 fAdd (eVar 2) (eCon (.int 1)))))) (sSeq purse_2_1 (sSeq purse_2_2 purse_2_3))
def purse_3 : MS := sRet (eFn fTupOf (es1 (eVar 3)))
def b_purse : MS := sSeq purse_1 (sSeq purse_2 (purse_3))
def m_purse : MF := defM false b_purse 6 3
theorem ok_purse {f : Addr} {fd : FuncData} (F : Fun K "_law_purse" "_law_purse" s_purse f fd) (hK : g.K = K) (hw : g.w = w) (mrange : mg "range" = none) (mtuple : mg "tuple" = none) (C1 : Cal1 P w K mg base g 1 "_law_draw" ["_law_feed_here", "_law_limit"] m_drawK) (C2 : Cal1 P w K mg base g 2 "_law_choice" ["_law_feed_here", "_law_values"] m_choiK) (C3 : Cal1 P w K mg base g 3 "_law_scope" ["_law_feed_here", "_law_every", "_law_most"] m_scop) : FnOk P w K mg base CX0 4 f fd ["_law_feed_here", "_law_every", "_law_most"] (spD g m_purse) := by
  obtain ⟨f1, fd1, F1, g1, k1, b1⟩ := C1.ex
  obtain ⟨f2, fd2, F2, g2, k2, b2⟩ := C2.ex
  obtain ⟨f3, fd3, F3, g3, k3, b3⟩ := C3.ex
  refine ok_def F sc_purse rfl fun cdv A outer s H E hr => ?_
  have hu : (A.deeper (envOfC "_law_purse" (defScope s_purse) s.heap.objs.size f cdv)).units + 200 < cLine := by have := hr.un; omega
  refine ds_cons (ds_par (i := 3) (j := 4) rfl sc_purse.nd rfl rfl (by decide) rfl rfl (d_lstM d_nil esN_nil) d_int rfl) ?_
  refine ds_cons (ds_for PassesOwn.never rfl (di_rng1 rfl mrange (d_call F1 hr (by decide) rfl g1 k1 b1 (d_cons (d_var (i := 0)) (d_cons (d_bin (o_add hK) (d_var (i := 2)) d_int) d_nil)))) (dg_nm (i := 5) sc_purse.nd rfl (by first | exact Or.inl rfl | exact Or.inr rfl)) (ds_cons (ds_set (i := 4) sc_purse.nd rfl (by first | exact Or.inl rfl | exact Or.inr rfl) (d_bin (o_add hK) (d_var (i := 4)) (d_call F2 hr (by decide) rfl g2 k2 b2 (d_cons (d_var (i := 0)) (d_cons (d_lst (d_cons d_int (d_cons d_int (d_cons d_int (d_cons (d_bin o_pow d_int d_int) d_nil)))) (esN_cons (esN_cons (esN_cons (esN_cons esN_nil))))) d_nil))))) (ds_cons (ds_exp (d_app (d_var (i := 3)) (d_cons (d_tup (d_cons (d_var (i := 4)) (d_cons (d_call F3 hr (by decide) rfl g3 k3 b3 (d_cons (d_var (i := 0)) (d_cons (d_var (i := 1)) (d_cons d_int d_nil)))) d_nil)) (esN_cons (esN_cons esN_nil))) d_nil))) (ds_one (ds_set (i := 4) sc_purse.nd rfl (by first | exact Or.inl rfl | exact Or.inr rfl) (d_bin (o_add hK) (d_var (i := 4)) d_int)))))) ?_
  exact ds_one (ds_ret (d_typ (c_tuple hK) rfl mtuple (by decide +kernel) (d_cons (d_var (i := 3)) d_nil)))
abbrev s_pays : Stmt := top 15
def n_pays : List Str := ["_law_purse_here", "_law_wanted_here", "_law_found", "_law_pair", "_law_longer", "_law_ahead", "_law_number", "_law_scope_here"]
theorem sc_pays : FnScope n_pays ["_law_purse_here", "_law_wanted_here"] (defScope s_pays) := ⟨rfl, rfl, rfl, by decide +kernel, rfl, by decide +kernel, by decide +kernel⟩
def pays_1 : MS := sSet 2 (eLst (es1 (eTup esNil)))
def pays_2_1 : MS := sSet 4 (eLstM esNil)
def pays_2_2_1 : MS := sExp (eMeth isL fExt (eVar 4) (es1 (eLc (.tp [6, 7]) (iSeq (eVar 0)) (tAndD (tTru (eOp2 (fIn false) (eVar 3) (eVar 7))) (tTru (eOp2 (fIn true) (eVar 6) (eVar 5)))) (eOp2 fAdd (eVar 5) (eTup (es1 (eVar 6)))) [6, 7])))
def pays_2_2 : MS := sFor (gNm 5) (iSeq (eVar 2)) pays_2_2_1
def pays_2_3 : MS := sSet 2 (eVar 4)
def pays_2 : MS := sFor (gNm 3) (iSeq (eVar 1)) (sSeq pays_2_1 (sSeq pays_2_2 pays_2_3))
def pays_3 : MS := sRet (eVar 2)
def b_pays : MS := sSeq pays_1 (sSeq pays_2 (pays_3))
def m_pays : MF := defM false b_pays 8 2
theorem ok_pays {f : Addr} {fd : FuncData} (F : Fun K "_law_payments" "_law_payments" s_pays f fd) (hK : g.K = K) (hw : g.w = w)  : FnOk P w K mg base CX0 1 f fd ["_law_purse_here", "_law_wanted_here"] (spD g m_pays) := by
  refine ok_def F sc_pays rfl fun cdv A outer s H E hr => ?_
  have hu : (A.deeper (envOfC "_law_payments" (defScope s_pays) s.heap.objs.size f cdv)).units + 200 < cLine := by have := hr.un; omega
  have hu66 := Nat.lt_of_le_of_lt (Nat.add_le_add_left (show 66 ≤ 200 by decide) _) hu
  refine ds_cons (ds_set (i := 2) sc_pays.nd rfl (by first | exact Or.inl rfl | exact Or.inr rfl) (d_lst (d_cons (d_tup d_nil esN_nil) d_nil) (esN_cons esN_nil))) ?_
  refine ds_cons (ds_for PassesOwn.never rfl (di_seq hK (d_var (i := 1))) (dg_nm (i := 3) sc_pays.nd rfl (by first | exact Or.inl rfl | exact Or.inr rfl)) (ds_cons (ds_set (i := 4) sc_pays.nd rfl (by first | exact Or.inl rfl | exact Or.inr rfl) (d_lstM d_nil esN_nil)) (ds_cons (ds_for PassesOwn.never rfl (di_seq hK (d_var (i := 2))) (dg_nm (i := 5) sc_pays.nd rfl (by first | exact Or.inl rfl | exact Or.inr rfl)) (ds_one (ds_exp (d_ext hK (d_var (i := 4)) (d_cons (d_lc (own := [("_law_number", 6), ("_law_scope_here", 7)]) hK rfl sc_pays.nd (di_seq hK (d_var (i := 0))) (show BlkOk n_pays (defScope s_pays) _ _ from ⟨rfl, by decide +kernel, by decide +kernel, by decide +kernel, by decide +kernel⟩) (by decide) (fun _ _ _ _ _ => pg_tup rfl (dgs_cons (i := 6) sc_pays.nd rfl (by first | exact Or.inl rfl | exact Or.inr rfl) (dgs_cons (i := 7) sc_pays.nd rfl (by first | exact Or.inl rfl | exact Or.inr rfl) dgs_nil))) (fun _ _ _ _ _ => dts_one (PW.pt (d_and (d_tcmp hK (o_in (neg := false) hK hu66) (d_var (i := 3)) (d_var (i := 7)) rfl fIn_bl) (d_and1 (d_tcmp hK (o_in (neg := true) hK hu66) (d_var (i := 6)) (d_var (i := 5)) rfl fIn_bl))))) (fun _ _ _ _ _ => (d_bin (o_add hK) (d_var (i := 5)) (d_tup (d_cons (d_var (i := 6)) d_nil) (esN_cons esN_nil))))) d_nil))))) (ds_one (ds_set (i := 2) sc_pays.nd rfl (by first | exact Or.inl rfl | exact Or.inr rfl) (d_var (i := 4))))))) ?_
  exact ds_one (ds_ret (d_var (i := 2)))
abbrev s_rchb : Stmt := top 16
def n_rchb : List Str := ["_law_purse_here", "_law_some", "_law_number", "_law_scope_here", "_law_pair"]
theorem sc_rchb : FnScope n_rchb ["_law_purse_here", "_law_some"] (defScope s_rchb) := ⟨rfl, rfl, rfl, by decide +kernel, rfl, by decide +kernel, by decide +kernel⟩
abbrev so_rchb_97_15 : Scope := { kind := .function, names := [(".0", .local), ("_law_number", .local), ("_law_scope_here", .local), ("_law_some", .free)], isGenerator := false, isCoroutine := false, more := [] }
def rchb_1 : MS := sRet (eFn fLen (es1 (eLc (.tp [2, 3]) (iSeq (eVar 0)) (tTru (eOp2 (fEq true) (eLc (.nm 4) (iSeq (eVar 3)) (tTru (eOp2 (fIn false) (eVar 4) (eVar 1))) (eVar 4) [4]) (eLst esNil))) (eVar 2) [2, 3])))
def b_rchb : MS := rchb_1
def m_rchb : MF := defM false b_rchb 5 2
theorem ok_rchb {f : Addr} {fd : FuncData} (F : Fun K "_law_reachable" "_law_reachable" s_rchb f fd) (hK : g.K = K) (hw : g.w = w) (mlen : mg "len" = none) : FnOk P w K mg base CX0 1 f fd ["_law_purse_here", "_law_some"] (spD g m_rchb) := by
  refine ok_def F sc_rchb rfl fun cdv A outer s H E hr => ?_
  have hu : (A.deeper (envOfC "_law_reachable" (defScope s_rchb) s.heap.objs.size f cdv)).units + 200 < cLine := by have := hr.un; omega
  have hu64 := Nat.lt_of_le_of_lt (Nat.add_le_add_left (show 64 ≤ 200 by decide) _) hu
  have hu66 := Nat.lt_of_le_of_lt (Nat.add_le_add_left (show 66 ≤ 200 by decide) _) hu
  exact ds_one (ds_ret (d_blt (c_len hK) rfl mlen (by decide +kernel) (d_cons (d_lc (own := [("_law_number", 2), ("_law_scope_here", 3)]) hK rfl sc_rchb.nd (di_seq hK (d_var (i := 0))) (show BlkOk n_rchb (defScope s_rchb) _ _ from ⟨rfl, by decide +kernel, by decide +kernel, by decide +kernel, by decide +kernel⟩) (by decide) (fun _ _ _ _ _ => pg_tup rfl (dgs_cons (i := 2) sc_rchb.nd rfl (by first | exact Or.inl rfl | exact Or.inr rfl) (dgs_cons (i := 3) sc_rchb.nd rfl (by first | exact Or.inl rfl | exact Or.inr rfl) dgs_nil))) (fun _ _ _ _ _ => dts_one (d_tcmp hK (o_ne hK hu64) (d_lc (own := [("_law_pair", 4)]) hK rfl sc_rchb.nd (di_seq hK (d_var (i := 3))) (show BlkOk n_rchb (relS so_rchb_97_15 (defScope s_rchb)) _ _ from ⟨rfl, by decide +kernel, by decide +kernel, by decide +kernel, by decide +kernel⟩) (by decide) (fun _ _ _ _ _ => pg_name sc_rchb.nd rfl (by first | exact Or.inl rfl | exact Or.inr rfl)) (fun _ _ _ _ _ => dts_one (d_tcmp hK (o_in (neg := false) hK hu66) (d_var (i := 4)) (d_var (i := 1)) rfl fIn_bl)) (fun _ _ _ _ _ => (d_var (i := 4)))) (d_lst d_nil esN_nil) rfl fEq_bl)) (fun _ _ _ _ _ => (d_var (i := 2)))) d_nil)))
abbrev s_want : Stmt := top 17
def n_want : List Str := ["_law_feed_here", "_law_every", "_law_most", "_law_pool", "_law_found", "_law_k"]
theorem sc_want : FnScope n_want ["_law_feed_here", "_law_every", "_law_most"] (defScope s_want) := ⟨rfl, rfl, rfl, by decide +kernel, rfl, by decide +kernel, by decide +kernel⟩
def want_1 : MS := sPar 3 4 (eAdopt (eFn fLstOf (es1 (eVar 1)))) (eLstM esNil)
def want_2_1 : MS := sExp (eMeth isL fApp (eVar 4) (es1 (eMeth isL fPop (eVar 3) (es1 (eCall m_drawK (es2 (eVar 0) (eFn fLen (es1 (eVar 3)))))))))
def want_2 : MS := sFor (gNm 5) (iRng1M (eCall m_drawK (es2 (eVar 0) (eOp2 fAdd (eFn fMin2 (es2 (eVar 2) (eFn fLen (es1 (eVar 3))))) (eCon (.int 1)))))) want_2_1
def want_3 : MS := sRet (eFn fTupOf (es1 (eVar 4)))
def b_want : MS := sSeq want_1 (sSeq want_2 (want_3))
def m_want : MF := defM false b_want 6 3
theorem ok_want {f : Addr} {fd : FuncData} (F : Fun K "_law_wanted" "_law_wanted" s_want f fd) (hK : g.K = K) (hw : g.w = w) (mlist : mg "list" = none) (mrange : mg "range" = none) (mmin : mg "min" = none) (mlen : mg "len" = none) (mtuple : mg "tuple" = none) (C1 : Cal1 P w K mg base g 1 "_law_draw" ["_law_feed_here", "_law_limit"] m_drawK) : FnOk P w K mg base CX0 2 f fd ["_law_feed_here", "_law_every", "_law_most"] (spD g m_want) := by
  obtain ⟨f1, fd1, F1, g1, k1, b1⟩ := C1.ex
  refine ok_def F sc_want rfl fun cdv A outer s H E hr => ?_
  have hu : (A.deeper (envOfC "_law_wanted" (defScope s_want) s.heap.objs.size f cdv)).units + 200 < cLine := by have := hr.un; omega
  refine ds_cons (ds_par (i := 3) (j := 4) rfl sc_want.nd rfl rfl (by decide) rfl rfl (d_listM hK rfl mlist (d_var (i := 1))) (d_lstM d_nil esN_nil) rfl) ?_
  refine ds_cons (ds_for PassesOwn.never rfl (di_rng1 rfl mrange (d_call F1 hr (by decide) rfl g1 k1 b1 (d_cons (d_var (i := 0)) (d_cons (d_bin (o_add hK) (d_blt (c_min2 rfl) rfl mmin (by decide +kernel) (d_cons (d_var (i := 2)) (d_cons (d_blt (c_len hK) rfl mlen (by decide +kernel) (d_cons (d_var (i := 3)) d_nil)) d_nil))) d_int) d_nil)))) (dg_nm (i := 5) sc_want.nd rfl (by first | exact Or.inl rfl | exact Or.inr rfl)) (ds_one (ds_exp (d_app (d_var (i := 4)) (d_cons (d_pop (d_var (i := 3)) (d_cons (d_call F1 hr (by decide) rfl g1 k1 b1 (d_cons (d_var (i := 0)) (d_cons (d_blt (c_len hK) rfl mlen (by decide +kernel) (d_cons (d_var (i := 3)) d_nil)) d_nil))) d_nil)) d_nil))))) ?_
  exact ds_one (ds_ret (d_typ (c_tuple hK) rfl mtuple (by decide +kernel) (d_cons (d_var (i := 4)) d_nil)))
abbrev s_agr : Stmt := top 18
def n_agr : List Str := ["_law_purse_here", "_law_wanted_here", "_law_before", "_law_payments_here", "_law_found", "_law_one"]
theorem sc_agr : FnScope n_agr ["_law_purse_here", "_law_wanted_here"] (defScope s_agr) := ⟨rfl, rfl, rfl, by decide +kernel, rfl, by decide +kernel, by decide +kernel⟩
def agr_1 : MS := sPar 2 3 (eFn fRepr (es1 (eTup (es2 (eVar 0) (eVar 1))))) (eCall m_pays (es2 (eVar 0) (eVar 1)))
def agr_2_1 : MS := sIf (tAndD (tTru (eOp2 (fEq false) (eVar 3) (eLst esNil))) (tTru (eOp2 (fIs true) (eVar 4) (eCon .non)))) sNo sSkip
def agr_2_2 : MS := sIf (tAndD (tTru (eOp2 (fEq true) (eVar 3) (eLst esNil))) (tTru (eOp2 (fInS true) (eFn fRepr (es1 (eVar 4))) (eLc (.nm 5) (iSeq (eVar 3)) tYesM (eFn fRepr (es1 (eVar 5))) [5])))) sNo sSkip
def agr_2 : MS := sFor (gNm 4) (iSeq (eTup (es2 (eCall m_cfor (es2 (eVar 0) (eVar 1))) (eCallK m_cfor [1, 0] (es2 (eVar 1) (eVar 0)))))) (sSeq agr_2_1 agr_2_2)
def agr_3 : MS := sRet (eOp2 (fEqS false) (eFn fRepr (es1 (eTup (es2 (eVar 0) (eVar 1))))) (eVar 2))
def b_agr : MS := sSeq agr_1 (sSeq agr_2 (agr_3))
def m_agr : MF := defM false b_agr 6 2
theorem ok_agr {f : Addr} {fd : FuncData} (F : Fun K "_law_agrees" "_law_agrees" s_agr f fd) (hK : g.K = K) (hw : g.w = w) (mrepr : mg "repr" = none) (C1 : Cal1 P w K mg base g 1 "_law_payments" ["_law_purse_here", "_law_wanted_here"] m_pays) (C2 : Cal1 P w K mg base g 3 "coins_for" ["coins", "pairs"] m_cfor) (C3 : Cal1K P w K mg base g 3 "coins_for" ["coins", "pairs"] m_cfor ["pairs", "coins"] [1, 0]) : FnG P w K mg base 4 f fd ["_law_purse_here", "_law_wanted_here"] (spD g m_agr) := by
  obtain ⟨f1, fd1, F1, g1, k1, b1⟩ := C1.ex
  obtain ⟨f2, fd2, F2, g2, k2, b2⟩ := C2.ex
  obtain ⟨f3, fd3, F3, g3, k3, b3⟩ := C3.ex
  refine ok_defG F sc_agr rfl fun cdv A outer s H E hG hr => ?_
  have hu : (A.deeper (envOfC "_law_agrees" (defScope s_agr) s.heap.objs.size f cdv)).units + 200 < cLine := by have := hr.un; omega
  have hu64 := Nat.lt_of_le_of_lt (Nat.add_le_add_left (show 64 ≤ 200 by decide) _) hu
  have hu80 := Nat.lt_of_le_of_lt (Nat.add_le_add_left (show 80 ≤ 200 by decide) _) hu
  refine ds_cons (ds_par (i := 2) (j := 3) rfl sc_agr.nd rfl rfl (by decide) rfl rfl (d_blt (c_repr hK hu80 hG) rfl mrepr (by decide +kernel) (d_cons (d_tup (d_cons (d_var (i := 0)) (d_cons (d_var (i := 1)) d_nil)) (esN_cons (esN_cons esN_nil))) d_nil)) (d_call F1 hr (by decide) rfl g1 k1 b1 (d_cons (d_var (i := 0)) (d_cons (d_var (i := 1)) d_nil))) rfl) ?_
  refine ds_cons (ds_for PassesOwn.never rfl (di_seq hK (d_tup (d_cons (d_call F2 hr (by decide) rfl g2 k2 b2 (d_cons (d_var (i := 0)) (d_cons (d_var (i := 1)) d_nil))) (d_cons (d_callK F3 hr (by decide) rfl g3 k3 b3 (dk_cons (d_var (i := 1)) (dk_cons (d_var (i := 0)) dk_nil))) d_nil)) (esN_cons (esN_cons esN_nil)))) (dg_nm (i := 4) sc_agr.nd rfl (by first | exact Or.inl rfl | exact Or.inr rfl)) (ds_cons (ds_if (PW.pt (d_and (d_tcmp hK (o_eq hK hu64) (d_var (i := 3)) (d_lst d_nil esN_nil) rfl fEq_bl) (d_and1 (d_tcmp hK (o_is (neg := true)) (d_var (i := 4)) d_non rfl fIs_bl)))) (ds_one (ds_ret d_bl)) ds_nil) (ds_one (ds_if (PW.pt (d_and (d_tcmp hK (o_ne hK hu64) (d_var (i := 3)) (d_lst d_nil esN_nil) rfl fEq_bl) (d_and1 (d_tcmp hK o_ninS (d_blt (c_repr hK hu80 hG) rfl mrepr (by decide +kernel) (d_cons (d_var (i := 4)) d_nil)) (d_lc (own := [("_law_one", 5)]) hK rfl sc_agr.nd (di_seq hK (d_var (i := 3))) (show BlkOk n_agr (defScope s_agr) _ _ from ⟨rfl, by decide +kernel, by decide +kernel, by decide +kernel, by decide +kernel⟩) (by decide) (fun _ _ _ _ _ => pg_name sc_agr.nd rfl (by first | exact Or.inl rfl | exact Or.inr rfl)) (fun _ _ _ _ _ => dts_nil) (fun _ _ _ _ _ => (d_blt (c_repr hK hu80 hG) rfl mrepr (by decide +kernel) (d_cons (d_var (i := 5)) d_nil)))) rfl fInS_bl)))) (ds_one (ds_ret d_bl)) ds_nil)))) ?_
  exact ds_one (ds_ret (d_cmp (o_eqS) (d_blt (c_repr hK hu80 hG) rfl mrepr (by decide +kernel) (d_cons (d_tup (d_cons (d_var (i := 0)) (d_cons (d_var (i := 1)) d_nil)) (esN_cons (esN_cons esN_nil))) d_nil)) (d_var (i := 2)) rfl))
abbrev s_hand : Stmt := top 19
def n_hand : List Str := ["_law_p", "_law_q", "_law_r", "_law_chain", "_law_found", "_law_some", "_law_alike", "_law_k"]
theorem sc_hand : FnScope n_hand [] (defScope s_hand) := ⟨rfl, rfl, rfl, by decide +kernel, rfl, by decide +kernel, by decide +kernel⟩
def hand_1 : MS := sAsg (gTp [0, 1, 2]) (eTup (es3 (eTup (es2 (eCon (.str "a")) (eCon (.str "p")))) (eTup (es2 (eCon (.str "a")) (eCon (.str "q")))) (eTup (es2 (eCon (.str "a")) (eCon (.str "r"))))))
def hand_2 : MS := sSet 3 (eTup (es4 (eTup (es2 (eCon (.int 0)) (eTup (es2 (eVar 0) (eVar 1))))) (eTup (es2 (eCon (.int 3)) (eTup (es2 (eVar 1) (eVar 2))))) (eTup (es2 (eCon (.int 4)) (eTup (es1 (eVar 2))))) (eTup (es2 (eCon (.int 9)) (eTup (es1 (eVar 0)))))))
def hand_3 : MS := sSet 4 (eLc (.nm 5) (iSeq (eTup (esCons (eTup (es3 (eVar 0) (eVar 1) (eVar 2))) (esCons (eTup (es3 (eVar 2) (eVar 1) (eVar 0))) (esCons (eTup (es2 (eVar 1) (eVar 2))) (esCons (eTup (es2 (eVar 2) (eVar 0))) (esCons (eTup esNil) (esCons (eTup (es1 (eVar 0))) esNil)))))))) tYesM (eTup (es2 (eVar 3) (eVar 5))) [5])
def hand_4 : MS := sSet 4 (eOp2 fAdd (eVar 4) (eLst (es2 (eTup (es2 (eTup (es2 (eTup (es2 (eCon (.int 0)) (eTup (es2 (eVar 0) (eVar 1))))) (eTup (es2 (eCon (.int 1)) (eTup (es1 (eVar 0))))))) (eTup (es2 (eVar 0) (eVar 1))))) (eTup (es2 (eTup (es3 (eTup (es2 (eCon (.int 0)) (eTup (es2 (eVar 0) (eVar 1))))) (eTup (es2 (eCon (.int 1)) (eTup (es2 (eVar 1) (eVar 2))))) (eTup (es2 (eCon (.int 2)) (eTup (es1 (eVar 0))))))) (eTup (es3 (eVar 0) (eVar 1) (eVar 2))))))))
def hand_5 : MS := sSet 6 (eFn fTupOf (es1 (eLc (.nm 7) (iRng1M (eCon (.int 5))) tYesM (eTup (es2 (eVar 7) (eTup (es3 (eVar 0) (eVar 1) (eVar 2))))) [7])))
def hand_6 : MS := sSet 4 (eOp2 fAdd (eVar 4) (eLst (es4 (eTup (es2 (eVar 6) (eTup (es3 (eVar 2) (eVar 0) (eVar 1))))) (eTup (es2 (eSl (eVar 6) oNo (oSo (eCon (.int 2)))) (eTup (es3 (eVar 0) (eVar 1) (eVar 2))))) (eTup (es2 (eTup esNil) (eTup esNil))) (eTup (es2 (eTup esNil) (eTup (es1 (eVar 0))))))))
def hand_7 : MS := sRet (eOp2 fAdd (eVar 4) (eLst (es2 (eTup (es2 (eTup (es2 (eTup (es2 (eCon (.int 1)) (eTup esNil))) (eTup (es2 (eCon (.int 2)) (eTup (es1 (eVar 0))))))) (eTup (es1 (eVar 0))))) (eTup (es2 (eTup (es3 (eTup (es2 (eCon (.int 1)) (eTup (es1 (eVar 0))))) (eTup (es2 (eCon (.int 2)) (eTup (es1 (eVar 0))))) (eTup (es2 (eCon (.int 5)) (eTup (es1 (eVar 1))))))) (eTup (es3 (eVar 0) (eVar 1) (eVar 2))))))))
def b_hand : MS := sSeq hand_1 (sSeq hand_2 (sSeq hand_3 (sSeq hand_4 (sSeq hand_5 (sSeq hand_6 (hand_7))))))
def m_hand : MF := defM false b_hand 8 0
theorem ok_hand {f : Addr} {fd : FuncData} (F : Fun K "_law_by_hand" "_law_by_hand" s_hand f fd) (hK : g.K = K) (hw : g.w = w) (mtuple : mg "tuple" = none) (mrange : mg "range" = none) : FnOk P w K mg base CX0 1 f fd [] (spD g m_hand) := by
  refine ok_def F sc_hand rfl fun cdv A outer s H E hr => ?_
  have hu : (A.deeper (envOfC "_law_by_hand" (defScope s_hand) s.heap.objs.size f cdv)).units + 200 < cLine := by have := hr.un; omega
  refine ds_cons (ds_asg (d_tup (d_cons (d_tup (d_cons d_str (d_cons d_str d_nil)) (esN_cons (esN_cons esN_nil))) (d_cons (d_tup (d_cons d_str (d_cons d_str d_nil)) (esN_cons (esN_cons esN_nil))) (d_cons (d_tup (d_cons d_str (d_cons d_str d_nil)) (esN_cons (esN_cons esN_nil))) d_nil))) (esN_cons (esN_cons (esN_cons esN_nil)))) (dg_tp hK rfl (dgs_cons (i := 0) sc_hand.nd rfl (by first | exact Or.inl rfl | exact Or.inr rfl) (dgs_cons (i := 1) sc_hand.nd rfl (by first | exact Or.inl rfl | exact Or.inr rfl) (dgs_cons (i := 2) sc_hand.nd rfl (by first | exact Or.inl rfl | exact Or.inr rfl) dgs_nil))))) ?_
  refine ds_cons (ds_set (i := 3) sc_hand.nd rfl (by first | exact Or.inl rfl | exact Or.inr rfl) (d_tup (d_cons (d_tup (d_cons d_int (d_cons (d_tup (d_cons (d_var (i := 0)) (d_cons (d_var (i := 1)) d_nil)) (esN_cons (esN_cons esN_nil))) d_nil)) (esN_cons (esN_cons esN_nil))) (d_cons (d_tup (d_cons d_int (d_cons (d_tup (d_cons (d_var (i := 1)) (d_cons (d_var (i := 2)) d_nil)) (esN_cons (esN_cons esN_nil))) d_nil)) (esN_cons (esN_cons esN_nil))) (d_cons (d_tup (d_cons d_int (d_cons (d_tup (d_cons (d_var (i := 2)) d_nil) (esN_cons esN_nil)) d_nil)) (esN_cons (esN_cons esN_nil))) (d_cons (d_tup (d_cons d_int (d_cons (d_tup (d_cons (d_var (i := 0)) d_nil) (esN_cons esN_nil)) d_nil)) (esN_cons (esN_cons esN_nil))) d_nil)))) (esN_cons (esN_cons (esN_cons (esN_cons esN_nil)))))) ?_
  refine ds_cons (ds_setLc (own := [("_law_some", 5)]) (i := 4) hK rfl sc_hand.nd rfl rfl rfl (di_seq hK (d_tup (d_cons (d_tup (d_cons (d_var (i := 0)) (d_cons (d_var (i := 1)) (d_cons (d_var (i := 2)) d_nil))) (esN_cons (esN_cons (esN_cons esN_nil)))) (d_cons (d_tup (d_cons (d_var (i := 2)) (d_cons (d_var (i := 1)) (d_cons (d_var (i := 0)) d_nil))) (esN_cons (esN_cons (esN_cons esN_nil)))) (d_cons (d_tup (d_cons (d_var (i := 1)) (d_cons (d_var (i := 2)) d_nil)) (esN_cons (esN_cons esN_nil))) (d_cons (d_tup (d_cons (d_var (i := 2)) (d_cons (d_var (i := 0)) d_nil)) (esN_cons (esN_cons esN_nil))) (d_cons (d_tup d_nil esN_nil) (d_cons (d_tup (d_cons (d_var (i := 0)) d_nil) (esN_cons esN_nil)) d_nil)))))) (esN_cons (esN_cons (esN_cons (esN_cons (esN_cons (esN_cons esN_nil)))))))) (show BlkOk n_hand (defScope s_hand) _ _ from ⟨rfl, by decide +kernel, by decide +kernel, by decide +kernel, by decide +kernel⟩) (by decide) (fun _ _ _ _ _ => pg_name sc_hand.nd rfl (by first | exact Or.inl rfl | exact Or.inr rfl)) (fun _ _ _ _ _ => dts_nil) (fun _ _ _ _ _ => (d_tup (d_cons (d_var (i := 3)) (d_cons (d_var (i := 5)) d_nil)) (esN_cons (esN_cons esN_nil))))) ?_
  refine ds_cons (ds_set (i := 4) sc_hand.nd rfl (by first | exact Or.inl rfl | exact Or.inr rfl) (d_bin (o_add hK) (d_var (i := 4)) (d_lst (d_cons (d_tup (d_cons (d_tup (d_cons (d_tup (d_cons d_int (d_cons (d_tup (d_cons (d_var (i := 0)) (d_cons (d_var (i := 1)) d_nil)) (esN_cons (esN_cons esN_nil))) d_nil)) (esN_cons (esN_cons esN_nil))) (d_cons (d_tup (d_cons d_int (d_cons (d_tup (d_cons (d_var (i := 0)) d_nil) (esN_cons esN_nil)) d_nil)) (esN_cons (esN_cons esN_nil))) d_nil)) (esN_cons (esN_cons esN_nil))) (d_cons (d_tup (d_cons (d_var (i := 0)) (d_cons (d_var (i := 1)) d_nil)) (esN_cons (esN_cons esN_nil))) d_nil)) (esN_cons (esN_cons esN_nil))) (d_cons (d_tup (d_cons (d_tup (d_cons (d_tup (d_cons d_int (d_cons (d_tup (d_cons (d_var (i := 0)) (d_cons (d_var (i := 1)) d_nil)) (esN_cons (esN_cons esN_nil))) d_nil)) (esN_cons (esN_cons esN_nil))) (d_cons (d_tup (d_cons d_int (d_cons (d_tup (d_cons (d_var (i := 1)) (d_cons (d_var (i := 2)) d_nil)) (esN_cons (esN_cons esN_nil))) d_nil)) (esN_cons (esN_cons esN_nil))) (d_cons (d_tup (d_cons d_int (d_cons (d_tup (d_cons (d_var (i := 0)) d_nil) (esN_cons esN_nil)) d_nil)) (esN_cons (esN_cons esN_nil))) d_nil))) (esN_cons (esN_cons (esN_cons esN_nil)))) (d_cons (d_tup (d_cons (d_var (i := 0)) (d_cons (d_var (i := 1)) (d_cons (d_var (i := 2)) d_nil))) (esN_cons (esN_cons (esN_cons esN_nil)))) d_nil)) (esN_cons (esN_cons esN_nil))) d_nil)) (esN_cons (esN_cons esN_nil))))) ?_
  refine ds_cons (ds_set (i := 6) sc_hand.nd rfl (by first | exact Or.inl rfl | exact Or.inr rfl) (d_typ (c_tuple hK) rfl mtuple (by decide +kernel) (d_cons (d_lc (own := [("_law_k", 7)]) hK rfl sc_hand.nd (di_rng1 rfl mrange d_int) (show BlkOk n_hand (defScope s_hand) _ _ from ⟨rfl, by decide +kernel, by decide +kernel, by decide +kernel, by decide +kernel⟩) (by decide) (fun _ _ _ _ _ => pg_name sc_hand.nd rfl (by first | exact Or.inl rfl | exact Or.inr rfl)) (fun _ _ _ _ _ => dts_nil) (fun _ _ _ _ _ => (d_tup (d_cons (d_var (i := 7)) (d_cons (d_tup (d_cons (d_var (i := 0)) (d_cons (d_var (i := 1)) (d_cons (d_var (i := 2)) d_nil))) (esN_cons (esN_cons (esN_cons esN_nil)))) d_nil)) (esN_cons (esN_cons esN_nil))))) d_nil))) ?_
  refine ds_cons (ds_set (i := 4) sc_hand.nd rfl (by first | exact Or.inl rfl | exact Or.inr rfl) (d_bin (o_add hK) (d_var (i := 4)) (d_lst (d_cons (d_tup (d_cons (d_var (i := 6)) (d_cons (d_tup (d_cons (d_var (i := 2)) (d_cons (d_var (i := 0)) (d_cons (d_var (i := 1)) d_nil))) (esN_cons (esN_cons (esN_cons esN_nil)))) d_nil)) (esN_cons (esN_cons esN_nil))) (d_cons (d_tup (d_cons (d_sl hK (d_var (i := 6)) do_no (do_so d_int)) (d_cons (d_tup (d_cons (d_var (i := 0)) (d_cons (d_var (i := 1)) (d_cons (d_var (i := 2)) d_nil))) (esN_cons (esN_cons (esN_cons esN_nil)))) d_nil)) (esN_cons (esN_cons esN_nil))) (d_cons (d_tup (d_cons (d_tup d_nil esN_nil) (d_cons (d_tup d_nil esN_nil) d_nil)) (esN_cons (esN_cons esN_nil))) (d_cons (d_tup (d_cons (d_tup d_nil esN_nil) (d_cons (d_tup (d_cons (d_var (i := 0)) d_nil) (esN_cons esN_nil)) d_nil)) (esN_cons (esN_cons esN_nil))) d_nil)))) (esN_cons (esN_cons (esN_cons (esN_cons esN_nil))))))) ?_
  exact ds_one (ds_ret (d_bin (o_add hK) (d_var (i := 4)) (d_lst (d_cons (d_tup (d_cons (d_tup (d_cons (d_tup (d_cons d_int (d_cons (d_tup d_nil esN_nil) d_nil)) (esN_cons (esN_cons esN_nil))) (d_cons (d_tup (d_cons d_int (d_cons (d_tup (d_cons (d_var (i := 0)) d_nil) (esN_cons esN_nil)) d_nil)) (esN_cons (esN_cons esN_nil))) d_nil)) (esN_cons (esN_cons esN_nil))) (d_cons (d_tup (d_cons (d_var (i := 0)) d_nil) (esN_cons esN_nil)) d_nil)) (esN_cons (esN_cons esN_nil))) (d_cons (d_tup (d_cons (d_tup (d_cons (d_tup (d_cons d_int (d_cons (d_tup (d_cons (d_var (i := 0)) d_nil) (esN_cons esN_nil)) d_nil)) (esN_cons (esN_cons esN_nil))) (d_cons (d_tup (d_cons d_int (d_cons (d_tup (d_cons (d_var (i := 0)) d_nil) (esN_cons esN_nil)) d_nil)) (esN_cons (esN_cons esN_nil))) (d_cons (d_tup (d_cons d_int (d_cons (d_tup (d_cons (d_var (i := 1)) d_nil) (esN_cons esN_nil)) d_nil)) (esN_cons (esN_cons esN_nil))) d_nil))) (esN_cons (esN_cons (esN_cons esN_nil)))) (d_cons (d_tup (d_cons (d_var (i := 0)) (d_cons (d_var (i := 1)) (d_cons (d_var (i := 2)) d_nil))) (esN_cons (esN_cons (esN_cons esN_nil)))) d_nil)) (esN_cons (esN_cons esN_nil))) d_nil)) (esN_cons (esN_cons esN_nil)))))
abbrev s_lw : Stmt := top 20
def n_lw : List Str := ["_law_script", "_law_feed_here", "_law_case", "_law_attempt", "_law_every", "_law_purse_here", "_law_k", "_law_tried", "_law_pair"]
theorem sc_lw : FnScope n_lw ["_law_script"] (defScope s_lw) := ⟨rfl, rfl, rfl, by decide +kernel, rfl, by decide +kernel, by decide +kernel⟩
def lw_1 : MS := sSet 1 (eCall m_feedK (es1 (eVar 0)))
def lw_2 : MS := sIf (tTru (eOp2 (fEq true) (eLc (.nm 2) (iSeq (eCall m_hand esNil)) (tNotD (tTru (eCall m_agr (es2 (eOp2 fIx (eVar 2) (eCon (.int 0))) (eOp2 fIx (eVar 2) (eCon (.int 1))))))) (eVar 2) [2]) (eLst esNil))) sNo sSkip
def lw_3_1 : MS := sSet 4 (eCall m_prs (es1 (eCall m_tabl (es2 (eVar 1) (eCon (.int 9))))))
def lw_3_2 : MS := sSet 5 (eCall m_purse (es3 (eVar 1) (eVar 4) (eCon (.int 5))))
def lw_3_3_1 : MS := sIf (tNotD (tTru (eCall m_agr (es2 (eVar 5) (eCall m_want (es3 (eVar 1) (eVar 4) (eCon (.int 5)))))))) sNo sSkip
def lw_3_3 : MS := sFor (gNm 6) (iRng1M (eCon (.int 5))) lw_3_3_1
def lw_3_4 : MS := sSet 7 (eFn fSortSet (es1 (eLc (.nm 8) (iSeq (eVar 4)) (tTru (eOp2 (fOrd .Gt) (eCall m_rchb (es2 (eVar 5) (eTup (es1 (eVar 8))))) (eCon (.int 0)))) (eVar 8) [8])))
def lw_3_5 : MS := sIf (tOrD (tNotD (tTru (eCall m_agr (es2 (eVar 5) (eFn fTupOf (es1 (eSl (eVar 7) oNo (oSo (eCon (.int 4)))))))))) (tNotD (tTru (eCall m_agr (es2 (eVar 5) (eFn fTupOf (es1 (eSl (eRev (eVar 7)) oNo (oSo (eCon (.int 4))))))))))) sNo sSkip
def lw_3 : MS := sFor (gNm 3) (iRng1M (eCon (.int 8))) (sSeq lw_3_1 (sSeq lw_3_2 (sSeq lw_3_3 (sSeq lw_3_4 lw_3_5))))
def lw_4 : MS := sRet (eCon (.bl true))
def b_lw : MS := sSeq lw_1 (sSeq lw_2 (sSeq lw_3 (lw_4)))
def m_lw : MF := defM false b_lw 9 1
theorem ok_lw {f : Addr} {fd : FuncData} (F : Fun K "law" "law" s_lw f fd) (hK : g.K = K) (hw : g.w = w) (mrange : mg "range" = none) (msorted : mg "sorted" = none) (mset : mg "set" = none) (mtuple : mg "tuple" = none) (C1 : Cal1 P w K mg base g 1 "_law_feed" ["_law_script"] m_feedK) (C2 : Cal1 P w K mg base g 1 "_law_by_hand" [] m_hand) (C3 : Cal1G P w K mg base g 4 "_law_agrees" ["_law_purse_here", "_law_wanted_here"] m_agr) (C4 : Cal1 P w K mg base g 1 "_law_pairs" ["_law_grid"] m_prs) (C5 : Cal1 P w K mg base g 3 "_law_table" ["_law_feed_here", "_law_most_rows"] m_tabl) (C6 : Cal1 P w K mg base g 4 "_law_purse" ["_law_feed_here", "_law_every", "_law_most"] m_purse) (C7 : Cal1 P w K mg base g 2 "_law_wanted" ["_law_feed_here", "_law_every", "_law_most"] m_want) (C8 : Cal1 P w K mg base g 1 "_law_reachable" ["_law_purse_here", "_law_some"] m_rchb) : FnG P w K mg base 5 f fd ["_law_script"] (spD g m_lw) := by
  obtain ⟨f1, fd1, F1, g1, k1, b1⟩ := C1.ex
  obtain ⟨f2, fd2, F2, g2, k2, b2⟩ := C2.ex
  obtain ⟨f3, fd3, F3, g3, k3, b3⟩ := C3.ex
  obtain ⟨f4, fd4, F4, g4, k4, b4⟩ := C4.ex
  obtain ⟨f5, fd5, F5, g5, k5, b5⟩ := C5.ex
  obtain ⟨f6, fd6, F6, g6, k6, b6⟩ := C6.ex
  obtain ⟨f7, fd7, F7, g7, k7, b7⟩ := C7.ex
  obtain ⟨f8, fd8, F8, g8, k8, b8⟩ := C8.ex
  refine ok_defG F sc_lw rfl fun cdv A outer s H E hG hr => ?_
  have hu : (A.deeper (envOfC "law" (defScope s_lw) s.heap.objs.size f cdv)).units + 200 < cLine := by have := hr.un; omega
  have hu20 := Nat.lt_of_le_of_lt (Nat.add_le_add_left (show 20 ≤ 200 by decide) _) hu
  have hu64 := Nat.lt_of_le_of_lt (Nat.add_le_add_left (show 64 ≤ 200 by decide) _) hu
  refine ds_cons (ds_set (i := 1) sc_lw.nd rfl (by first | exact Or.inl rfl | exact Or.inr rfl) (d_call F1 hr (by decide) rfl g1 k1 b1 (d_cons (d_var (i := 0)) d_nil))) ?_
  refine ds_cons (ds_if (d_tcmp hK (o_ne hK hu64) (d_lc (own := [("_law_case", 2)]) hK rfl sc_lw.nd (di_seq hK (d_call0 F2 hr (by decide) rfl g2 k2 b2)) (show BlkOk n_lw (defScope s_lw) _ _ from ⟨rfl, by decide +kernel, by decide +kernel, by decide +kernel, by decide +kernel⟩) (by decide) (fun _ _ _ _ _ => pg_name sc_lw.nd rfl (by first | exact Or.inl rfl | exact Or.inr rfl)) (fun _ _ _ _ _ => dts_one (d_not (d_tru hK (d_callG F3 hG hr (by decide) rfl g3 k3 b3 (d_cons (d_ix hK (d_var (i := 2)) d_int) (d_cons (d_ix hK (d_var (i := 2)) d_int) d_nil)))))) (fun _ _ _ _ _ => (d_var (i := 2)))) (d_lst d_nil esN_nil) rfl fEq_bl) (ds_one (ds_ret d_bl)) ds_nil) ?_
  refine ds_cons (ds_for PassesOwn.never rfl (di_rng1 rfl mrange d_int) (dg_nm (i := 3) sc_lw.nd rfl (by first | exact Or.inl rfl | exact Or.inr rfl)) (ds_cons (ds_set (i := 4) sc_lw.nd rfl (by first | exact Or.inl rfl | exact Or.inr rfl) (d_call F4 hr (by decide) rfl g4 k4 b4 (d_cons (d_call F5 hr (by decide) rfl g5 k5 b5 (d_cons (d_var (i := 1)) (d_cons d_int d_nil))) d_nil))) (ds_cons (ds_set (i := 5) sc_lw.nd rfl (by first | exact Or.inl rfl | exact Or.inr rfl) (d_call F6 hr (by decide) rfl g6 k6 b6 (d_cons (d_var (i := 1)) (d_cons (d_var (i := 4)) (d_cons d_int d_nil))))) (ds_cons (ds_for PassesOwn.never rfl (di_rng1 rfl mrange d_int) (dg_nm (i := 6) sc_lw.nd rfl (by first | exact Or.inl rfl | exact Or.inr rfl)) (ds_one (ds_if (d_not (d_tru hK (d_callG F3 hG hr (by decide) rfl g3 k3 b3 (d_cons (d_var (i := 5)) (d_cons (d_call F7 hr (by decide) rfl g7 k7 b7 (d_cons (d_var (i := 1)) (d_cons (d_var (i := 4)) (d_cons d_int d_nil)))) d_nil))))) (ds_one (ds_ret d_bl)) ds_nil))) (ds_cons (ds_set (i := 7) sc_lw.nd rfl (by first | exact Or.inl rfl | exact Or.inr rfl) (d_sortSet hK rfl hu20 rfl msorted rfl mset (d_lc (own := [("_law_pair", 8)]) hK rfl sc_lw.nd (di_seq hK (d_var (i := 4))) (show BlkOk n_lw (defScope s_lw) _ _ from ⟨rfl, by decide +kernel, by decide +kernel, by decide +kernel, by decide +kernel⟩) (by decide) (fun _ _ _ _ _ => pg_name sc_lw.nd rfl (by first | exact Or.inl rfl | exact Or.inr rfl)) (fun _ _ _ _ _ => dts_one (d_tcmp hK (o_ord hK hu64) (d_call F8 hr (by decide) rfl g8 k8 b8 (d_cons (d_var (i := 5)) (d_cons (d_tup (d_cons (d_var (i := 8)) d_nil) (esN_cons esN_nil)) d_nil))) d_int rfl fOrd_bl)) (fun _ _ _ _ _ => (d_var (i := 8)))))) (ds_one (ds_if (PW.pt (d_or (d_not (d_tru hK (d_callG F3 hG hr (by decide) rfl g3 k3 b3 (d_cons (d_var (i := 5)) (d_cons (d_typ (c_tuple hK) rfl mtuple (by decide +kernel) (d_cons (d_sl hK (d_var (i := 7)) do_no (do_so d_int)) d_nil)) d_nil))))) (d_or1 (d_not (d_tru hK (d_callG F3 hG hr (by decide) rfl g3 k3 b3 (d_cons (d_var (i := 5)) (d_cons (d_typ (c_tuple hK) rfl mtuple (by decide +kernel) (d_cons (d_sl hK (d_rev hK (d_var (i := 7))) do_no (do_so d_int)) d_nil)) d_nil)))))))) (ds_one (ds_ret d_bl)) ds_nil))))))) ?_
  exact ds_one (ds_ret d_bl)
end
end Pilot
namespace K5
open PySem PySem.Spec PyProof.Rows L2 Mp
abbrev NK := NestedKey

/-! ### keys: data, equality, membership -/
theorem toDS_ofK (S : Sto) : ∀ k : NK, toDS S (ofK k) = toD (ofK k)
  | .none => rfl
  | .num _ => rfl
  | .text _ => rfl
  | .tup _ => rfl
mutual
theorem toD_ofK : ∀ k : NK, toD (ofK k) = some k.data
  | .none => rfl
  | .num _ => rfl
  | .text _ => rfl
  | .tup ks => by rw [ofK, toD, toDs_ofKs ks]; rfl
theorem toDs_ofKs : ∀ ks : List NK, toDs (ofKs ks) = some (NestedKey.datas ks)
  | [] => rfl
  | k :: ks => by rw [ofKs, toDs, toD_ofK k, toDs_ofKs ks]; rfl
end
mutual
theorem eqv_self : ∀ a : NK, PyData.eqv a.data a.data = true
  | .none => by simp [NestedKey.data, PyData.eqv]
  | .num i => by simp [NestedKey.data, PyData.eqv]
  | .text x => by simp [NestedKey.data, PyData.eqv]
  | .tup ks => by simpa [NestedKey.data, PyData.eqv] using eqvs_self ks
theorem eqvs_self : ∀ a : List NK, PyData.eqvAll (NestedKey.datas a) (NestedKey.datas a) = true
  | [] => by simp [NestedKey.datas, PyData.eqvAll]
  | k :: ks => by simp [NestedKey.datas, PyData.eqvAll, eqv_self k, eqvs_self ks]
end
theorem eqv_iff (a b : NK) : PyData.eqv a.data b.data = decide (a = b) := by
  by_cases h : a = b
  · subst h; simp [eqv_self]
  · simp only [h, decide_false]
    cases e : PyData.eqv a.data b.data with
    | false => rfl
    | true => exact absurd (eqv_keys a b e) h
theorem eqvs_iff (a b : List NK) : PyData.eqvAll (NestedKey.datas a) (NestedKey.datas b) = decide (a = b) := by
  by_cases h : a = b
  · subst h; simp [eqvs_self]
  · simp only [h, decide_false]
    cases e : PyData.eqvAll (NestedKey.datas a) (NestedKey.datas b) with
    | false => rfl
    | true => exact absurd (eqv_keyss a b e) h
theorem datas_eq (ks : List NK) : NestedKey.datas ks = ks.map NestedKey.data := by
  induction ks with
  | nil => rfl
  | cons k ks ih => rw [NestedKey.datas, ih]; rfl
/-- a key that may be asked for anything here: its texts are fine, it is not deep -/
def Fine (k : NK) : Prop := k.data.canLay0 = true ∧ k.depth ≤ 6
theorem canLayAll0_of : ∀ {ks : List NK}, (∀ k ∈ ks, k.data.canLay0 = true) → PyData.canLayAll0 (NestedKey.datas ks) = true
  | [], _ => rfl
  | k :: ks, h => by
    rw [NestedKey.datas, PyData.canLayAll0, h k List.mem_cons_self, canLayAll0_of fun x hx => h x (List.mem_cons_of_mem _ hx)]
    rfl
theorem fEq_ofK {neg : Bool} {S : Sto} {a b : NK} (ha : Fine a) (hb : Fine b) : fEq neg S (ofK a) (ofK b) = some (.bl (neg ^^ decide (a = b))) := by
  have e : eqOk a.data b.data = true := by
    unfold eqOk
    rw [ha.1, hb.1, data_depth, data_depth]
    have := ha.2
    simp only [Bool.true_and, decide_eq_true_eq]
    omega
  simp only [fEq, toDS_ofK, toD_ofK, Option.bind_some, e, if_true, eqv_iff]
theorem fEq_lst {neg : Bool} {S : Sto} {a b : List NK} (ha : ∀ k ∈ a, Fine k) (hb : ∀ k ∈ b, Fine k) (hd : (PyData.list (NestedKey.datas a)).depth ≤ 64) : fEq neg S (.lst (ofKs a)) (.lst (ofKs b)) = some (.bl (neg ^^ decide (a = b))) := by
  have e : eqOk (PyData.list (NestedKey.datas a)) (PyData.list (NestedKey.datas b)) = true := by
    unfold eqOk
    simp only [PyData.canLay0, canLayAll0_of fun k hk => (ha k hk).1, canLayAll0_of fun k hk => (hb k hk).1, Bool.true_and, decide_eq_true_eq]
    omega
  have d1 : toDS S (.lst (ofKs a)) = some (.list (NestedKey.datas a)) := by simp [toDS, toD, toDs_ofKs]
  have d2 : toDS S (.lst (ofKs b)) = some (.list (NestedKey.datas b)) := by simp [toDS, toD, toDs_ofKs]
  simp only [fEq, d1, d2, Option.bind_some, e, if_true, PyData.eqv, eqvs_iff]
theorem any_eqv (a : NK) (ks : List NK) : ((NestedKey.datas ks).any fun z => PyData.eqv z a.data) = decide (a ∈ ks) := by
  rw [datas_eq, List.any_map]
  induction ks with
  | nil => simp
  | cons k ks ih =>
    rw [List.any_cons, ih]
    simp only [Function.comp, eqv_iff, List.mem_cons]
    by_cases h : k = a
    · subst h; simp
    · simp [h, Ne.symm h]
theorem fIn_core {neg : Bool} {S : Sto} {a : NK} {ks : List NK} {d : PyData} (hd : itemsD d = some (NestedKey.datas ks)) (ha : Fine a) (hk : ∀ k ∈ ks, Fine k) : ((toDS S (ofK a)).bind fun d' => (some d).bind fun e => (itemsD e).bind fun ds => if d'.canLay0 && PyData.canLayAll0 ds && decide (min (PyData.depthAll ds) d'.depth ≤ 64) then some (Val.bl (neg ^^ (ds.any fun z => PyData.eqv z d'))) else none) = some (.bl (neg ^^ decide (a ∈ ks))) := by
  have e : (a.data.canLay0 && PyData.canLayAll0 (NestedKey.datas ks) && decide (min (PyData.depthAll (NestedKey.datas ks)) a.data.depth ≤ 64)) = true := by
    rw [ha.1, canLayAll0_of fun k hk' => (hk k hk').1, data_depth]
    have := ha.2
    simp only [Bool.true_and, decide_eq_true_eq]
    omega
  simp only [toDS_ofK, toD_ofK, Option.bind_some, hd, e, if_true, any_eqv]
theorem fIn_tup {neg : Bool} {S : Sto} {a : NK} {ks : List NK} (ha : Fine a) (hk : ∀ k ∈ ks, Fine k) : fIn neg S (ofK a) (.tup (ofKs ks)) = some (.bl (neg ^^ decide (a ∈ ks))) := by
  have h := fIn_core (neg := neg) (S := S) (d := .tuple (NestedKey.datas ks)) rfl ha hk
  have d1 : toDS S (.tup (ofKs ks)) = some (.tuple (NestedKey.datas ks)) := by simp [toDS, toD, toDs_ofKs]
  unfold fIn
  split
  · rename_i h2; cases h2
  · rw [d1]; exact h
theorem fIn_lst {neg : Bool} {S : Sto} {a : NK} {ks : List NK} (ha : Fine a) (hk : ∀ k ∈ ks, Fine k) : fIn neg S (ofK a) (.lst (ofKs ks)) = some (.bl (neg ^^ decide (a ∈ ks))) := by
  have h := fIn_core (neg := neg) (S := S) (d := .list (NestedKey.datas ks)) rfl ha hk
  have d1 : toDS S (.lst (ofKs ks)) = some (.list (NestedKey.datas ks)) := by simp [toDS, toD, toDs_ofKs]
  unfold fIn
  split
  · rename_i h2; cases h2
  · rw [d1]; exact h
theorem fIn_ptp {neg : Bool} {S : Sto} {a : NK} {ks : List NK} (ha : Fine a) (hk : ∀ k ∈ ks, Fine k) : fIn neg S (ofK a) (.ptp (ofKs ks)) = some (.bl (neg ^^ decide (a ∈ ks))) := by
  have h := fIn_core (neg := neg) (S := S) (d := .tuple (NestedKey.datas ks)) rfl ha hk
  have d1 : toDS S (.ptp (ofKs ks)) = some (.tuple (NestedKey.datas ks)) := by simp [toDS, toD, toDs_ofKs]
  unfold fIn
  split
  · rename_i h2; cases h2
  · rw [d1]; exact h

/-! ### walks that leave the store as it is -/
theorem filter_yes {α : Type} (l : List α) : (l.filter fun _ => true) = l := by
  induction l with
  | nil => rfl
  | cons a l ih => rw [List.filter_cons, if_pos rfl, ih]
theorem lc_pure {α : Type} {i : Nat} {tt : MT} {m : ME} {s : Src} {sl : Sl} {S : Sto} (f : α → Val) (p : α → Bool) (h : α → Val) (hs : s.ok S = true) : ∀ (l : List α), (∀ x ∈ l, tt (sl.set i (some (f x))) S = some (p x, S)) → (∀ x ∈ l, p x = true → m (sl.set i (some (f x))) S = some (h x, S)) →
    lcX (.nm i) tt m s sl (l.map f) S = some ((l.filter p).map h, S)
  | [], _, _ => by simp [lcX, hs]
  | x :: l, h2, h3 => by
    have ih := lc_pure f p h hs l (fun y hy => h2 y (List.mem_cons_of_mem _ hy)) (fun y hy => h3 y (List.mem_cons_of_mem _ hy))
    have a := h2 x List.mem_cons_self
    have b := h3 x List.mem_cons_self
    cases hp : p x with
    | true =>
      rw [hp] at a
      simp only [List.map_cons, lcX, hs, if_true, Tn.m, gNm, Option.bind_some, a, b hp, ih, List.filter_cons, hp]
    | false =>
      rw [hp] at a
      simp only [List.map_cons, lcX, hs, if_true, Tn.m, gNm, Option.bind_some, a, ih, List.filter_cons, hp, Bool.false_eq_true, if_false]
theorem eLc_pure {α : Type} {i : Nat} {it : MI} {tt : MT} {m : ME} {vs : List Nat} {sl : Sl} {S : Sto} (l : List α) (f : α → Val) (p : α → Bool) (h : α → Val) (hit : it sl S = some (⟨l.map f, none⟩, S)) (h2 : ∀ x ∈ l, tt ((wipeS sl vs).set i (some (f x))) S = some (p x, S)) (h3 : ∀ x ∈ l, p x = true → m ((wipeS sl vs).set i (some (f x))) S = some (h x, S)) :
    eLc (.nm i) it tt m vs sl S = some (.lst ((l.filter p).map h), S) := by
  simp only [eLc, hit, Option.bind_some, lc_pure f p h (s := ⟨l.map f, none⟩) rfl l h2 h3]
theorem eLc_all {α : Type} {i : Nat} {it : MI} {m : ME} {vs : List Nat} {sl : Sl} {S : Sto} (l : List α) (f : α → Val) (h : α → Val) (hit : it sl S = some (⟨l.map f, none⟩, S)) (h3 : ∀ x ∈ l, m ((wipeS sl vs).set i (some (f x))) S = some (h x, S)) :
    eLc (.nm i) it tYesM m vs sl S = some (.lst (l.map h), S) := by
  rw [eLc_pure l f (fun _ => true) h hit (fun _ _ => rfl) fun x hx _ => h3 x hx, filter_yes]
theorem lc2_pure {α β : Type} {i j : Nat} {it1 : MI} {m : ME} {vs1 : List Nat} {s : Src} {sl : Sl} {S : Sto} (f : α → Val) (inner : α → List β) (f1 : β → Val) (h : α → β → Val) (hs : s.ok S = true) : ∀ (l : List α), (∀ x ∈ l, it1 (sl.set i (some (f x))) S = some (⟨(inner x).map f1, none⟩, S)) →
    (∀ x ∈ l, ∀ y ∈ inner x, m ((wipeS (sl.set i (some (f x))) vs1).set j (some (f1 y))) S = some (h x y, S)) → lc2X (.nm i) tYesM it1 (.nm j) tYesM m vs1 s sl (l.map f) S = some (l.flatMap (fun x => (inner x).map (h x)), S)
  | [], _, _ => by simp [lc2X, hs]
  | x :: l, h2, h3 => by
    have ih := lc2_pure f inner f1 h hs l (fun y hy => h2 y (List.mem_cons_of_mem _ hy)) (fun y hy => h3 y (List.mem_cons_of_mem _ hy))
    have a := h2 x List.mem_cons_self
    have b := lc_pure (i := j) (tt := tYesM) (m := m) (s := ⟨(inner x).map f1, none⟩) (sl := wipeS (sl.set i (some (f x))) vs1) (S := S) f1 (fun _ => true) (h x) rfl (inner x) (fun _ _ => rfl) fun y hy _ => h3 x List.mem_cons_self y hy
    rw [filter_yes] at b
    simp only [List.map_cons, lc2X, hs, if_true, Tn.m, gNm, Option.bind_some, tYesM, a, ih, List.flatMap_cons]
    rw [b]
    simp only [Option.bind_some, ih]
theorem eLc2_pure {α β : Type} {i j : Nat} {it it1 : MI} {m : ME} {vs vs1 : List Nat} {sl : Sl} {S : Sto} (l : List α) (f : α → Val) (inner : α → List β) (f1 : β → Val) (h : α → β → Val) (hit : it sl S = some (⟨l.map f, none⟩, S)) (h2 : ∀ x ∈ l, it1 ((wipeS sl vs).set i (some (f x))) S = some (⟨(inner x).map f1, none⟩, S))
    (h3 : ∀ x ∈ l, ∀ y ∈ inner x, m ((wipeS ((wipeS sl vs).set i (some (f x))) vs1).set j (some (f1 y))) S = some (h x y, S)) (hl : (l.flatMap fun x => (inner x).map (h x)).length ≤ sizeLine) : eLc2 (.nm i) it tYesM it1 (.nm j) tYesM m vs vs1 sl S = some (.lst (l.flatMap fun x => (inner x).map (h x)), S) := by
  simp only [eLc2, hit, Option.bind_some, lc2_pure f inner f1 h (s := ⟨l.map f, none⟩) rfl l h2 h3, hl, if_true]
/-- a for that goes through, with what holds between its turns -/
theorem for_inv {α : Type} {tg : MG} {body : MS} {s : Src} (P : Sl → Sto → Prop) (hs : s.n = none) (f : α → Val) : ∀ (l : List α) {sl : Sl} {S : Sto}, (∀ x ∈ l, ∀ sl S, P sl S → ∃ sl1 sl2 S2, tg sl S (f x) = some sl1 ∧ body sl1 S = some (.nxt, sl2, S2) ∧ P sl2 S2) → P sl S →
    ∃ sl' S', forX tg body s (l.map f) sl S = some (.nxt, sl', S') ∧ P sl' S'
  | [], sl, S, _, hP => ⟨sl, S, by simp [forX, Src.ok, hs], hP⟩
  | x :: l, sl, S, h, hP => by
    obtain ⟨sl1, sl2, S2, e1, e2, hP2⟩ := h x List.mem_cons_self sl S hP
    obtain ⟨sl', S', e, hQ⟩ := for_inv P hs f l (fun y hy => h y (List.mem_cons_of_mem _ hy)) hP2
    exact ⟨sl', S', by simp only [List.map_cons, forX, Src.ok, hs, if_true, e1, Option.bind_some, e2, e], hQ⟩
/-- a comprehension whose parts change the store, with what holds so far -/
theorem lc_step {N i : Nat} {m : ME} {s : Src} {sl : Sl} (I : List Val → Sto → Prop) (hs : s.n = none) : ∀ (l : List Val) {done : List Val} {S : Sto}, (∀ x ∈ l, ∀ done S, done.length < N → I done S → ∃ v S', m (sl.set i (some x)) S = some (v, S') ∧ I (done ++ [v]) S') → done.length + l.length ≤ N → I done S →
    ∃ vs S', lcX (.nm i) tYesM m s sl l S = some (vs, S') ∧ I (done ++ vs) S' ∧ vs.length = l.length
  | [], done, S, _, _, h => ⟨[], S, by simp [lcX, Src.ok, hs], by simpa using h, rfl⟩
  | x :: l, done, S, st, hl, h => by
    obtain ⟨v, S1, e1, h1⟩ := st x List.mem_cons_self done S (by simp at hl; omega) h
    obtain ⟨vs, S2, e2, h2, h3⟩ := lc_step I hs l (fun y hy => st y (List.mem_cons_of_mem _ hy)) (by simp at hl ⊢; omega) h1
    refine ⟨v :: vs, S2, ?_, by simpa using h2, by simp [h3]⟩
    simp only [lcX, Src.ok, hs, if_true, Tn.m, gNm, Option.bind_some, tYesM, e1]
    rw [e2]
    rfl

/-! ### tables -/
abbrev txt (x : Str) : NK := .text x
def pK (i c : Str) : NK := .tup [.text i, .text c]
def rK (r : List Str) : NK := .tup (r.map txt)
theorem rK_inj {a b : List Str} (h : rK a = rK b) : a = b := by
  have e : a.map txt = b.map txt := by injection h
  have q : ∀ a b : List Str, a.map txt = b.map txt → a = b := fun a => by
    induction a with
    | nil => intro b e; cases b with
      | nil => rfl
      | cons y b => simp at e
    | cons x a ih => intro b e; cases b with
      | nil => simp at e
      | cons y b =>
        simp only [List.map_cons, List.cons.injEq, NestedKey.text.injEq] at e
        rw [e.1, ih b e.2]
  exact q a b e
theorem pK_inj {a b c d : Str} (h : pK a b = pK c d) : a = c ∧ b = d := by
  have e : [NestedKey.text a, NestedKey.text b] = [NestedKey.text c, NestedKey.text d] := by injection h
  simp at e
  exact e
structure Tab where
  items : List Str
  rows : List (List Str)
def poolH : List Str := ["a", "door", "room", "time", "zzzzzzzz"]
def poolW : List Str := ["x", "y", "z", "big", "abcdefgh"]
structure Tab.Ok (T : Tab) : Prop where
  nd : T.items.Nodup
  it : ∀ i ∈ T.items, i ∈ poolH
  len : ∀ r ∈ T.rows, r.length = T.items.length
  wd : ∀ r ∈ T.rows, ∀ c ∈ r, c ∈ poolW
  few : T.rows.length ≤ 24
theorem poolH_ok : ∀ x ∈ poolH, PyData.strOk x = true := by decide +kernel
theorem poolW_ok : ∀ x ∈ poolW, PyData.strOk x = true := by decide +kernel
def prs (T : Tab) (r : List Str) : List NK := List.zipWith pK T.items r
def allP (T : Tab) : List NK := T.rows.flatMap (prs T)
def pairsOf (T : Tab) : List NK := sortKeys (allP T)
def struckB (T : Tab) (r : List Str) (G : List NK) : Bool := (prs T r).any fun p => decide (p ∈ G)
def alive (T : Tab) (G : List NK) : List (List Str) := T.rows.filter fun r => !struckB T r G
def living (T : Tab) (G : List NK) : List NK := (alive T G).flatMap (prs T)
def dead (T : Tab) (G : List NK) : List NK := (pairsOf T).filter fun p => decide (p ∉ living T G)
/-- a pair as it may stand in a table -/
def Pr (k : NK) : Prop := ∃ i ∈ poolH, ∃ c ∈ poolW, k = pK i c
theorem Pr.fine {k : NK} (h : Pr k) : Fine k := by
  obtain ⟨i, hi, c, hc, rfl⟩ := h
  refine ⟨?_, ?_⟩
  · simp [pK, NestedKey.data, NestedKey.datas, PyData.canLay0, PyData.canLayAll0, poolH_ok i hi, poolW_ok c hc]
  · simp [pK, NestedKey.depth, NestedKey.depthAll]
theorem rK_fine {r : List Str} (h : ∀ c ∈ r, c ∈ poolW) : Fine (rK r) := by
  constructor
  · simp only [rK, NestedKey.data, PyData.canLay0]
    exact canLayAll0_of fun k hk => by
      obtain ⟨c, hc, rfl⟩
            := List.mem_map.mp hk
      simp [NestedKey.data, PyData.canLay0, poolW_ok c (h c hc)]
  · have : ∀ l : List Str, NestedKey.depthAll (l.map txt) ≤ 1 := fun l => by
      induction l with
      | nil => simp [NestedKey.depthAll]
      | cons a l ih => simp [NestedKey.depthAll, NestedKey.depth]; omega
    simp only [rK, NestedKey.depth]
    have := this r
    omega
theorem Pr.cases : ∀ k, Pr k ↔ k ∈ poolH.flatMap fun i => poolW.map fun c => pK i c := fun k => by
  simp only [List.mem_flatMap, List.mem_map, Pr]
  constructor
  · rintro ⟨i, hi, c, hc, rfl⟩; exact ⟨i, hi, c, hc, rfl⟩
  · rintro ⟨i, hi, c, hc, rfl⟩; exact ⟨i, hi, c, hc, rfl⟩
theorem prs_pr {T : Tab} (ok : T.Ok) {r : List Str} (hr : r ∈ T.rows) {k : NK} (h : k ∈ prs T r) : Pr k := by
  unfold prs at h
  obtain ⟨n, hn, e⟩ := List.mem_iff_getElem.mp h
  rw [List.getElem_zipWith] at e
  exact ⟨_, ok.it _ (List.getElem_mem _), _, ok.wd r hr _ (List.getElem_mem _), e.symm⟩
theorem allP_pr {T : Tab} (ok : T.Ok) {k : NK} (h : k ∈ allP T) : Pr k := by
  obtain ⟨r, hr, h⟩ := List.mem_flatMap.mp h
  exact prs_pr ok hr h
theorem mem_sortKeys {k : NK} {ks : List NK} : k ∈ sortKeys ks ↔ k ∈ ks := ((sortKeys_perm ks).mem_iff).trans mem_uniq
theorem mem_pairsOf {T : Tab} {k : NK} : k ∈ pairsOf T ↔ k ∈ allP T := mem_sortKeys
theorem pairsOf_pr {T : Tab} (ok : T.Ok) {k : NK} (h : k ∈ pairsOf T) : Pr k := allP_pr ok (mem_pairsOf.mp h)
theorem alike_pr {a b : NK} (ha : Pr a) (hb : Pr b) : PySem.W.alike a.data b.data = true := by
  obtain ⟨i, _, c, _, rfl⟩ := ha
  obtain ⟨j, _, d, _, rfl⟩ := hb
  simp [pK, NestedKey.data, NestedKey.datas, PySem.W.alike, PySem.W.alikeAll]
theorem alikeAll_of : ∀ (xs ys : List PyData), (∀ x ∈ xs, ∀ y ∈ ys, PySem.W.alike x y = true) → PySem.W.alikeAll xs ys = true
  | [], _, _ => by simp [PySem.W.alikeAll]
  | _ :: _, [], _ => by simp [PySem.W.alikeAll]
  | x :: xs, y :: ys, h => by
    rw [PySem.W.alikeAll, h x List.mem_cons_self y List.mem_cons_self, alikeAll_of xs ys fun a ha b hb => h a (List.mem_cons_of_mem _ ha) b (List.mem_cons_of_mem _ hb)]
    rfl
theorem alike_tup {as bs : List NK} (h : ∀ a ∈ as, ∀ b ∈ bs, PySem.W.alike a.data b.data = true) : PySem.W.alike (NestedKey.tup as).data (NestedKey.tup bs).data = true := by
  rw [NestedKey.data, NestedKey.data, PySem.W.alike, datas_eq, datas_eq]
  refine alikeAll_of _ _ fun x hx y hy => ?_
  obtain ⟨a, ha, rfl⟩ := List.mem_map.mp hx
  obtain ⟨b, hb, rfl⟩
        := List.mem_map.mp hy
  exact h a ha b hb
theorem alike_rK (a b : List Str) : PySem.W.alike (rK a).data (rK b).data = true := alike_tup fun x hx y hy => by
  obtain ⟨c, _, rfl⟩ := List.mem_map.mp hx
  obtain ⟨d, _, rfl⟩ := List.mem_map.mp hy
  simp [NestedKey.data, PySem.W.alike]
theorem alikeKeys_of {ks : List NK} (h : ∀ a ∈ ks, ∀ b ∈ ks, PySem.W.alike a.data b.data = true) : alikeKeys ks = true := by
  unfold alikeKeys
  rw [List.all_eq_true]
  intro a ha
  rw [List.all_eq_true]
  exact fun b hb => h a ha b hb
theorem sortOk_of {ks : List NK} (h : ∀ a ∈ ks, ∀ b ∈ ks, PySem.W.alike a.data b.data = true) (ht : ∀ k ∈ ks, ∃ xs, k = .tup xs) (hd : ∀ k ∈ ks, Fine k) : sortOk ks = true := by
  unfold sortOk
  rw [alikeKeys_of h]
  have e : sortableKeys ks = true := by
    unfold sortableKeys
    rw [Bool.or_eq_true, List.all_eq_true]
    left
    intro k hk
    obtain ⟨xs, rfl⟩ := ht k hk
    rfl
  rw [e]
  simp only [Bool.true_and, List.all_eq_true, decide_eq_true_eq]
  exact fun k hk => Nat.le_trans (hd k hk).2 (by decide)
theorem setOk_of {ks : List NK} (ht : ∀ k ∈ ks, ∃ xs, k = .tup xs) (hd : ∀ k ∈ ks, Fine k) (hl : (uniq ks).length < 64) : setOk ks = true := by
  unfold setOk
  rw [Bool.and_eq_true, List.all_eq_true, decide_eq_true_eq]
  refine ⟨fun k hk => ?_, hl⟩
  obtain ⟨xs, rfl⟩ := ht k hk
  have := (hd _ hk).2
  simp only [keyOk, Bool.and_true, decide_eq_true_eq]
  omega
theorem Pr.tup {k : NK} (h : Pr k) : ∃ xs, k = .tup xs := by
  obtain ⟨i, _, c, _, rfl⟩ := h
  exact ⟨_, rfl⟩
theorem uniq_pr {ks : List NK} (h : ∀ k ∈ ks, Pr k) : (uniq ks).length ≤ 25 := by
  have : (uniq ks).length ≤ (poolH.flatMap fun i => poolW.map fun c => pK i c).length := (nodup_uniq ks).length_le_of_subset fun k hk => (Pr.cases k).mp (h k (mem_uniq.mp hk))
  refine Nat.le_trans this ?_
  decide
theorem sort_pr {ks : List NK} (h : ∀ k ∈ ks, Pr k) : sortOk ks = true := sortOk_of (fun a ha b hb => alike_pr (h a ha) (h b hb)) (fun k hk => (h k hk).tup) fun k hk => (h k hk).fine
theorem set_pr {ks : List NK} (h : ∀ k ∈ ks, Pr k) : setOk ks = true := setOk_of (fun k hk => (h k hk).tup) (fun k hk => (h k hk).fine) (by have := uniq_pr h; omega)
theorem fSortSet_pr {S : Sto} {ks : List NK} (h : ∀ k ∈ ks, Pr k) : fSortSet S [.lst (ofKs ks)] = some (.lst (ofKs (sortKeys ks))) := by
  simp only [fSortSet, seqOf, lstOf, Option.bind_some, toKs_ofKs, sort_pr h, set_pr h, Bool.and_self, if_true]
theorem fSortSet_prT {S : Sto} {ks : List NK} (h : ∀ k ∈ ks, Pr k) : fSortSet S [.tup (ofKs ks)] = some (.lst (ofKs (sortKeys ks))) := by
  simp only [fSortSet, seqOf, Option.bind_some, toKs_ofKs, sort_pr h, set_pr h, Bool.and_self, if_true]
/-- ordered, each once -/
theorem keyLe_sorted (ks : List NK) : (sortKeys ks).Pairwise fun a b => keyLe a b = true := List.pairwise_mergeSort keyLe_total.trans (fun a b => by rw [Bool.or_eq_true]; exact keyLe_total.total a b) _
theorem nodup_sortKeys (ks : List NK) : (sortKeys ks).Nodup := (sortKeys_perm ks).symm.nodup (nodup_uniq ks)
theorem sorted_ext {a b : List NK} (al : ∀ x ∈ a, ∀ y ∈ b, PySem.W.alike x.data y.data = true) (sa : a.Pairwise fun a b => keyLe a b = true) (sb : b.Pairwise fun a b => keyLe a b = true) (na : a.Nodup) (nb : b.Nodup) (m : ∀ k, k ∈ a ↔ k ∈ b) : a = b :=
  ((List.perm_ext_iff_of_nodup na nb).mpr m).eq_of_pairwise (fun x y hx hy h1 h2 => keyLe_anti (al x hx y hy) h1 h2) sa sb
theorem filter_sortKeys {ks : List NK} (h : ∀ k ∈ ks, Pr k) (p : NK → Bool) : (sortKeys ks).filter p = sortKeys (ks.filter p) := by
  refine sorted_ext (fun x hx y hy => alike_pr (h x ?_) (h y ?_)) ((keyLe_sorted ks).filter _) (keyLe_sorted _) ((nodup_sortKeys ks).filter _) (nodup_sortKeys _) fun k => ?_
  · exact mem_sortKeys.mp (List.mem_filter.mp hx).1
  · exact (List.mem_filter.mp (mem_sortKeys.mp hy)).1
  · rw [List.mem_filter, mem_sortKeys, mem_sortKeys, List.mem_filter]
theorem sortKeys_ext {as bs : List NK} (h : ∀ k ∈ as, Pr k) (m : ∀ k, k ∈ as ↔ k ∈ bs) : sortKeys as = sortKeys bs :=
  sorted_ext (fun x hx y hy => alike_pr (h x (mem_sortKeys.mp hx)) (h y ((m y).mpr (mem_sortKeys.mp hy)))) (keyLe_sorted _) (keyLe_sorted _) (nodup_sortKeys _) (nodup_sortKeys _) fun k => by rw [mem_sortKeys, mem_sortKeys, m]
end K5
namespace Ev
open PySem PySem.Spec PyProof.Rows L2 Mp Pilot
section
variable {sl sl1 : Sl} {S S1 S2 : Sto} {v w x y : Val} {vs xs : List Val}
theorem var_ev {i : Nat} (h : sl[i]? = some (some v)) : eVar i sl S = some (v, S) := by simp only [eVar, h]
theorem con_ev : eCon v sl S = some (v, S) := rfl
theorem nil_ev : esNil sl S = some ([], S) := rfl
theorem cons_ev {m : ME} {ms : MEs} (h1 : m sl S = some (v, S1)) (h2 : ms sl S1 = some (vs, S2)) : esCons m ms sl S = some (v :: vs, S2) := by simp only [esCons, h1, h2, Option.bind_some]
theorem star_ev {m : ME} {ms : MEs} (h1 : m sl S = some (v, S1)) (h3 : seqOf S1 v = some xs) (h2 : ms sl S1 = some (vs, S2)) : esStar m ms sl S = some (xs ++ vs, S2) := by simp only [esStar, h1, h2, h3, Option.bind_some]
theorem tup_ev {ms : MEs} (h : ms sl S = some (vs, S1)) : eTup ms sl S = some (.tup vs, S1) := by simp only [eTup, h, Option.bind_some]
theorem tupP_ev {ms : MEs} (h : ms sl S = some (vs, S1)) : eTupP ms sl S = some (.ptp vs, S1) := by simp only [eTupP, h, Option.bind_some]
theorem tupV_ev {ms : MEs} (h : ms sl S = some (vs, S1)) (hl : vs.length ≤ sizeLine) : eTupV ms sl S = some (.tup vs, S1) := by simp only [eTupV, h, Option.bind_some, hl, if_true]
theorem lst_ev {ms : MEs} (h : ms sl S = some (vs, S1)) : eLst ms sl S = some (.lst vs, S1) := by simp only [eLst, h, Option.bind_some]
theorem lstM_ev {ms : MEs} (h : ms sl S = some (vs, S1)) : eLstM ms sl S = some (.ref S1.length, S1 ++ [.lst vs]) := by simp only [eLstM, h, Option.bind_some]
theorem op2_ev {f : Sto → Val → Val → Option Val} {a b : ME} (h1 : a sl S = some (x, S1)) (h2 : b sl S1 = some (y, S2)) (h3 : f S2 x y = some v) : eOp2 f a b sl S = some (v, S2) := by simp only [eOp2, h1, h2, h3, Option.bind_some]
theorem fn_ev {f : FN} {ms : MEs} (h1 : ms sl S = some (vs, S1)) (h2 : f S1 vs = some v) : eFn f ms sl S = some (v, S1) := by simp only [eFn, h1, h2, Option.bind_some]
theorem call_ev {m : MF} {ms : MEs} {r : Val × Sto} (h1 : ms sl S = some (vs, S1)) (h2 : m vs S1 = some r) : eCall m ms sl S = some r := by simp only [eCall, h1, h2, Option.bind_some]
theorem meth_ev {c : Sto → Val → Bool} {f : Sto → Val → List Val → Option (Val × Sto)} {o : ME} {ms : MEs} {r : Val × Sto} (h1 : o sl S = some (v, S1)) (hc : c S1 v = true) (h2 : ms sl S1 = some (vs, S2)) (h3 : f S2 v vs = some r) : eMeth c f o ms sl S = some r := by simp only [eMeth, h1, h2, h3, hc, if_true, Option.bind_some]
theorem tru_ev {a : ME} {b : Bool} (h : a sl S = some (.bl b, S1)) : tTru a sl S = some (b, S1) := by simp only [tTru, h, truth, Option.bind_some]
theorem truV_ev {a : ME} {b : Bool} (h : a sl S = some (v, S1)) (h2 : truth S1 v = some b) : tTru a sl S = some (b, S1) := by simp only [tTru, h, h2, Option.bind_some]
theorem not_ev {a : MT} {b : Bool} (h : a sl S = some (b, S1)) : tNotD a sl S = some (!b, S1) := by simp only [tNotD, h, Option.bind_some]
theorem and_f {a b : MT} (h : a sl S = some (false, S1)) : tAndD a b sl S = some (false, S1) := by simp [tAndD, h]
theorem and_t {a b : MT} {r : Bool × Sto} (h : a sl S = some (true, S1)) (h2 : b sl S1 = some r) : tAndD a b sl S = some r := by simp [tAndD, h, h2]
theorem or_t {a b : MT} (h : a sl S = some (true, S1)) : tOrD a b sl S = some (true, S1) := by simp [tOrD, h]
theorem or_f {a b : MT} {r : Bool × Sto} (h : a sl S = some (false, S1)) (h2 : b sl S1 = some r) : tOrD a b sl S = some r := by simp [tOrD, h, h2]
theorem ifE_t {c : MT} {a b : ME} {r : Val × Sto} (h : c sl S = some (true, S1)) (h2 : a sl S1 = some r) : eIfE c a b sl S = some r := by simp [eIfE, h, h2]
theorem ifE_f {c : MT} {a b : ME} {r : Val × Sto} (h : c sl S = some (false, S1)) (h2 : b sl S1 = some r) : eIfE c a b sl S = some r := by simp [eIfE, h, h2]
theorem seq_ev {a b : MS} {r : Option (Fl × Sl × Sto)} (h1 : a sl S = some (.nxt, sl1, S1)) (h2 : b sl1 S1 = r) : sSeq a b sl S = r := by simp only [sSeq, h1, h2, Option.bind_some]
theorem seq_ret {a b : MS} (h1 : a sl S = some (.ret v, sl1, S1)) : sSeq a b sl S = some (.ret v, sl1, S1) := by simp only [sSeq, h1, Option.bind_some]
theorem set_ev {i : Nat} {m : ME} (h : m sl S = some (v, S1)) : sSet i m sl S = some (.nxt, sl.set i (some v), S1) := by simp only [sSet, h, Option.bind_some]
theorem exp_ev {m : ME} (h : m sl S = some (v, S1)) : sExp m sl S = some (.nxt, sl, S1) := by simp only [sExp, h, Option.bind_some]
theorem ret_ev {m : ME} (h : m sl S = some (v, S1)) : sRet m sl S = some (.ret v, sl, S1) := by simp only [sRet, h, Option.bind_some]
theorem skip_ev : sSkip sl S = some (.nxt, sl, S) := rfl
theorem if_t {c : MT} {a b : MS} {r : Option (Fl × Sl × Sto)} (h : c sl S = some (true, S1)) (h2 : a sl S1 = r) : sIf c a b sl S = r := by simp [sIf, h, h2]
theorem if_f {c : MT} {a b : MS} {r : Option (Fl × Sl × Sto)} (h : c sl S = some (false, S1)) (h2 : b sl S1 = r) : sIf c a b sl S = r := by simp [sIf, h, h2]
theorem asg_ev {tg : MG} {m : ME} (h : m sl S = some (v, S1)) (h2 : tg sl S1 v = some sl1) : sAsg tg m sl S = some (.nxt, sl1, S1) := by simp only [sAsg, h, h2, Option.bind_some]
theorem par_ev {i j : Nat} {a b : ME} (h1 : a sl S = some (v, S1)) (h2 : b sl S1 = some (w, S2)) : sPar i j a b sl S = some (.nxt, (sl.set i (some v)).set j (some w), S2) := by simp only [sPar, h1, h2, Option.bind_some]
theorem seqT_ev {m : ME} (h : m sl S = some (.tup xs, S1)) : iSeq m sl S = some (⟨xs, none⟩, S1) := by simp only [iSeq, h, Option.bind_some]
theorem seqP_ev {m : ME} (h : m sl S = some (.ptp xs, S1)) : iSeq m sl S = some (⟨xs, none⟩, S1) := by simp only [iSeq, h, Option.bind_some]
theorem seqL_ev {m : ME} (h : m sl S = some (.lst xs, S1)) : iSeq m sl S = some (⟨xs, none⟩, S1) := by simp only [iSeq, h, Option.bind_some]
theorem rng_ev {m : ME} {n : Nat} (h : m sl S = some (.int n, S1)) (hn : n ≤ 16000000) : iRng1M m sl S = some (⟨rngL 0 n, none⟩, S1) := by
  simp only [iRng1M, h, Option.bind_some]
  rw [if_pos ⟨by omega, by omega⟩, Int.toNat_natCast]
theorem rng2_ev {a b : ME} {i j : Int} (h : a sl S = some (.int i, S1)) (h2 : b sl S1 = some (.int j, S2)) (hn : -16000 ≤ i ∧ i ≤ 16000 ∧ -(2 ^ 62) ≤ j ∧ j ≤ 16000000) : iRng2M a b sl S = some (⟨rngL i (j - i).toNat, none⟩, S2) := by
  simp only [iRng2M, h, h2, Option.bind_some]
  rw [if_pos hn]
theorem for_ev {tg : MG} {it : MI} {body : MS} {s : Src} {r : Option (Fl × Sl × Sto)} (h : it sl S = some (s, S1)) (h2 : forX tg body s s.l sl S1 = r) : sFor tg it body sl S = r := by simp only [sFor, h, h2, Option.bind_some]
theorem lput_ev {mo mi mv : ME} {o i : Val} {S3 S4 : Sto} (h1 : mv sl S = some (v, S1)) (h2 : mo sl S1 = some (o, S2)) (h3 : mi sl S2 = some (i, S3)) (h4 : lstPut S3 o i v = some S4) : sLPut mo mi mv sl S = some (.nxt, sl, S4) := by simp only [sLPut, h1, h2, h3, h4, Option.bind_some, Option.map_some]
theorem dput_ev {md mk mv : ME} {d k : Val} {S3 S4 : Sto} (h1 : mv sl S = some (v, S1)) (h2 : md sl S1 = some (d, S2)) (h3 : mk sl S2 = some (k, S3)) (h4 : dicPut S3 d k v = some S4) : sDPutM md mk mv sl S = some (.nxt, sl, S4) := by simp only [sDPutM, h1, h2, h3, h4, Option.bind_some, Option.map_some]
theorem sl_ev {m : ME} {a b : MO} {lo hi : Option Int} {S3 : Sto} (h1 : m sl S = some (v, S1)) (h2 : a sl S1 = some (lo, S2)) (h3 : b sl S2 = some (hi, S3)) (h4 : fSl S3 lo hi v = some w) : eSl m a b sl S = some (w, S3) := by simp only [eSl, h1, h2, h3, h4, Option.bind_some, Option.map_some]
theorem slP_ev {m : ME} {a b : MO} {lo hi : Option Int} {S3 : Sto} (h1 : m sl S = some (v, S1)) (h2 : a sl S1 = some (lo, S2)) (h3 : b sl S2 = some (hi, S3)) (h4 : fSlP lo hi v = some w) : eSlP m a b sl S = some (w, S3) := by simp only [eSlP, h1, h2, h3, h4, Option.bind_some, Option.map_some]
theorem no_ev : oNo sl S = some (none, S) := rfl
theorem so_ev {m : ME} {i : Int} (h : m sl S = some (.int i, S1)) : oSo m sl S = some (some i, S1) := by simp only [oSo, h, Option.bind_some]
theorem leave_self : leaveS S.length v S = some (v, S) := by unfold leaveS; rw [if_pos rfl]
theorem def_ret {keep : Bool} {body : MS} {n np : Nat} (hl : xs.length = np) (hb : body (xs.map some ++ List.replicate (n - np) none) S = some (.ret v, sl, S)) : defM keep body n np xs S = some (v, S) := by
  unfold defM
  rw [if_pos hl, hb]
  simp only [Option.bind_some, leave_self]
  cases keep <;> rfl
theorem def_nxt {keep : Bool} {body : MS} {n np : Nat} (hl : xs.length = np) (hb : body (xs.map some ++ List.replicate (n - np) none) S = some (.nxt, sl, S)) : defM keep body n np xs S = some (.non, S) := by
  unfold defM
  rw [if_pos hl, hb]
  simp only [Option.bind_some, leave_self]
  cases keep <;> rfl
theorem def_keep {body : MS} {n np : Nat} (hl : xs.length = np) (hb : body (xs.map some ++ List.replicate (n - np) none) S = some (.ret v, sl, S1)) : defM true body n np xs S = some (v, S1) := by
  unfold defM
  rw [if_pos hl, hb]
  simp only [Option.bind_some, if_true]
theorem def_leave {body : MS} {n np : Nat} (hl : xs.length = np) (hb : body (xs.map some ++ List.replicate (n - np) none) S = some (.ret v, sl, S1)) (h : leaveS S.length v S1 = some (w, S2)) : defM false body n np xs S = some (w, S2) := by
  unfold defM
  rw [if_pos hl, hb]
  simp only [Option.bind_some, Bool.false_eq_true, if_false, h]
end
/-! ### values without references; leaving a def -/
mutual
def nr : Val → Bool
  | .ref _ => false
  | .scr _ => false
  | .tup xs => nrs xs
  | .ptp xs => nrs xs
  | .lst xs => nrs xs
  | _ => true
def nrs : List Val → Bool
  | [] => true
  | x :: xs => nr x && nrs xs
end
mutual
def vsz : Val → Nat
  | .tup xs => vszs xs + 1
  | .ptp xs => vszs xs + 1
  | .lst xs => vszs xs + 1
  | _ => 1
def vszs : List Val → Nat
  | [] => 1
  | x :: xs => max (vsz x) (vszs xs) + 1
end
mutual
theorem nr_in {n : Nat} : ∀ v : Val, nr v = true → Val.inB n v = true
  | .ref _, h => by cases h
  | .scr _, h => by cases h
  | .tup xs, h => by simp only [nr] at h; simp only [Val.inB]; exact nrs_in xs h
  | .ptp xs, h => by simp only [nr] at h; simp only [Val.inB]; exact nrs_in xs h
  | .lst xs, h => by simp only [nr] at h; simp only [Val.inB]; exact nrs_in xs h
  | .non, _ => rfl
  | .bl _, _ => rfl
  | .int _, _ => rfl
  | .str _, _ => rfl
  | .ty _, _ => rfl
  | .fn _, _ => rfl
theorem nrs_in {n : Nat} : ∀ v : List Val, nrs v = true → Val.inBs n v = true
  | [], _ => rfl
  | x :: xs, h => by
    simp only [nrs, Bool.and_eq_true] at h
    simp only [Val.inBs, Bool.and_eq_true]
    exact ⟨nr_in x h.1, nrs_in xs h.2⟩
end
theorem fz_nr {S : Sto} {n : Nat} : ∀ (k : Nat), (∀ v : Val, nr v = true → vsz v ≤ k → fzV S n k v = some v) ∧ ∀ v : List Val, nrs v = true → vszs v ≤ k → fzVs S n k v = some v
  | 0 => ⟨fun v _ h => by cases v <;> simp [vsz] at h, fun v _ h => by cases v <;> simp [vszs] at h⟩
  | k + 1 => by
    obtain ⟨h1, h2⟩ := fz_nr (S := S) (n := n) k
    refine ⟨fun v hn hs => ?_, fun v hn hs => ?_⟩
    · cases v with
      | ref => cases hn
      | scr => cases hn
      | tup xs => simp only [nr] at hn; simp only [vsz] at hs; simp only [fzV, h2 xs hn (by omega), Option.map_some]
      | ptp xs => simp only [nr] at hn; simp only [vsz] at hs; simp only [fzV, h2 xs hn (by omega), Option.map_some]
      | lst xs => simp only [nr] at hn; simp only [vsz] at hs; simp only [fzV, h2 xs hn (by omega), Option.map_some]
      | _ => simp only [fzV]
    · cases v with
      | nil => simp only [fzVs]
      | cons x xs =>
        simp only [nrs, Bool.and_eq_true] at hn
        simp only [vszs] at hs
        simp only [fzVs, h1 x hn.1 (by omega), h2 xs hn.2 (by omega), Option.bind_some, Option.map_some]
/-- a store that may be left behind -/
def SB (S : Sto) : Prop := S.all (SO.inB S.length) = true
theorem leave_app {S l : Sto} {v : Val} (hS : SB S) (hl : l ≠ []) (hv : nr v = true) (hs : vsz v ≤ 4000) : leaveS S.length v (S ++ l) = some (v, S) := by
  unfold leaveS
  rw [if_neg (by rw [List.length_append]; have := List.length_pos_iff.mpr hl; omega), List.take_left, if_pos (show S.all (SO.inB S.length) = true from hS), (fz_nr 4000).1 v hv hs]
  rfl
theorem leave_gen {S l : Sto} {v w : Val} (hS : SB S) (hl : l ≠ []) (hv : fzV (S ++ l) S.length 4000 v = some w) : leaveS S.length v (S ++ l) = some (w, S) := by
  unfold leaveS
  rw [if_neg (by rw [List.length_append]; have := List.length_pos_iff.mpr hl; omega), List.take_left, if_pos (show S.all (SO.inB S.length) = true from hS), hv]
  rfl
theorem def_app {S l : Sto} {v : Val} {xs : List Val} {sl : Sl} {keep : Bool} {body : MS} {n np : Nat} (hk : keep = false) (hl : xs.length = np) (hb : body (xs.map some ++ List.replicate (n - np) none) S = some (.ret v, sl, S ++ l)) (hS : SB S) (hne : l ≠ []) (hv : nr v = true) (hs : vsz v ≤ 4000) : defM keep body n np xs S = some (v, S) := by
  subst hk
  exact def_leave hl hb (leave_app hS hne hv hs)
/-! ### the store's own lists -/
theorem sto0 {S l : Sto} {a : SO} : (S ++ a :: l)[S.length]? = some a := by simp
theorem sto1 {S l : Sto} {a b : SO} : (S ++ a :: b :: l)[S.length + 1]? = some b := by simp [List.getElem?_append_right]
theorem sto2 {S l : Sto} {a b c : SO} : (S ++ a :: b :: c :: l)[S.length + 2]? = some c := by simp [List.getElem?_append_right]
theorem ste0 {S l : Sto} {a x : SO} : (S ++ a :: l).set S.length x = S ++ x :: l := by simp [List.set_append]
theorem ste1 {S l : Sto} {a b x : SO} : (S ++ a :: b :: l).set (S.length + 1) x = S ++ a :: x :: l := by simp [List.set_append]
theorem ste2 {S l : Sto} {a b c x : SO} : (S ++ a :: b :: c :: l).set (S.length + 2) x = S ++ a :: b :: x :: l := by simp [List.set_append]
theorem app_cat {S l m : Sto} : (S ++ l) ++ m = S ++ (l ++ m) := List.append_assoc ..
/-! ### parts of tuples -/
section
variable {S : Sto} {a b c d e : Val} {l : List Val} {i : Int}
theorem fIx_tup : fIx S (.tup l) (.int i) = L2.atI l i := rfl
theorem fIx_ptp : fIx S (.ptp l) (.int i) = L2.atI l i := rfl
theorem fIx_lst : fIx S (.lst l) (.int i) = L2.atI l i := rfl
theorem at0 : L2.atI (a :: l) 0 = some a := L2.atI_nat (j := 0) rfl
theorem at1 : L2.atI (a :: b :: l) 1 = some b := L2.atI_nat (j := 1) rfl
theorem at2 : L2.atI (a :: b :: c :: l) 2 = some c := L2.atI_nat (j := 2) rfl
theorem at3 : L2.atI (a :: b :: c :: d :: l) 3 = some d := L2.atI_nat (j := 3) rfl
theorem at4 : L2.atI (a :: b :: c :: d :: e :: l) 4 = some e := L2.atI_nat (j := 4) rfl
theorem rng_map (n : Nat) : rngL 0 n = (List.range n).map fun i => Val.int ((i : Nat) : Int) := by
  unfold rngL
  congr 1
  funext i
  rw [Int.zero_add]
theorem fEq_int {neg : Bool} {i j : Int} : fEq neg S (.int i) (.int j) = some (.bl (neg ^^ decide (i = j))) := by
  have h : fEq neg S (.int i) (.int j) = some (.bl (neg ^^ PyData.eqv (.int i) (.int j))) := rfl
  rw [h]
  rfl
theorem fEq_str {neg : Bool} {x y : Str} (hx : PyData.strOk x = true) (hy : PyData.strOk y = true) : fEq neg S (.str x) (.str y) = some (.bl (neg ^^ decide (x = y))) := by
  have h := K5.fEq_ofK (neg := neg) (S := S) (a := .text x) (b := .text y) ⟨hx, by simp [NestedKey.depth]⟩ ⟨hy, by simp [NestedKey.depth]⟩
  rw [show (Val.str x) = ofK (.text x) from rfl, show (Val.str y) = ofK (.text y) from rfl, h]
  congr 3
  exact decide_eq_decide.mpr ⟨fun q => by injection q, fun q => by rw [q]⟩
theorem fEq_bl {neg p q : Bool} : fEq neg S (.bl p) (.bl q) = some (.bl (neg ^^ decide (p = q))) := by
  have h : fEq neg S (.bl p) (.bl q) = some (.bl (neg ^^ PyData.eqv (.bool p) (.bool q))) := rfl
  rw [h]
  cases p <;> cases q <;> cases neg <;> rfl
theorem sizes : 4000 ≤ sizeLine := by decide
end
end Ev
namespace Ev
open PySem PySem.Spec PyProof.Rows L2 Mp Pilot
/-! ### values that can be shown -/
mutual
def vsh : Val → Bool
  | .non => true
  | .bl _ => true
  | .str x => decide (x.cps.size ≤ 8) && PyData.strOk x
  | .int i => decide (i.natAbs < 1000)
  | .tup xs => vshs xs
  | .ptp xs => vshs xs
  | .lst xs => vshs xs
  | _ => false
def vshs : List Val → Bool
  | [] => true
  | x :: xs => vsh x && vshs xs
end
mutual
def vwt : Val → Nat
  | .str _ => 8
  | .int _ => 10
  | .tup xs => vwts xs
  | .ptp xs => vwts xs
  | .lst xs => vwts xs
  | _ => 0
def vwts : List Val → Nat
  | [] => 0
  | x :: xs => vwt x + 1 + vwts xs
end
mutual
def vdp : Val → Nat
  | .tup xs => vdps xs + 1
  | .ptp xs => vdps xs + 1
  | .lst xs => vdps xs + 1
  | _ => 0
def vdps : List Val → Nat
  | [] => 0
  | x :: xs => max (vdp x) (vdps xs)
end
mutual
theorem data_ev : ∀ v : Val, vsh v = true → ∃ d, toD v = some d ∧ d.canLay0 = true ∧ d.showable = true ∧ d.intsShort 13 = true ∧ d.weight ≤ vwt v ∧ d.depth ≤ vdp v
  | .non, _ => ⟨.none, rfl, rfl, rfl, rfl, Nat.le_refl _, Nat.le_refl _⟩
  | .bl b, _ => ⟨.bool b, rfl, rfl, rfl, rfl, Nat.le_refl _, Nat.le_refl _⟩
  | .str x, h => by
    simp only [vsh, Bool.and_eq_true, decide_eq_true_eq] at h
    exact ⟨.str x, rfl, h.2, rfl, rfl, h.1, Nat.le_refl _⟩
  | .tup xs, h => by
    simp only [vsh] at h
    obtain ⟨ds, e, h1, h2, h3, h4, h5⟩ := datas_ev xs h
    refine ⟨.tuple ds, by simp only [toD, e, Option.map_some], by simpa only [PyData.canLay0] using h1, by simpa only [PyData.showable] using h2, by simpa only [PyData.intsShort] using h3, by simpa only [PyData.weight, vwt] using h4, by simpa only [PyData.depth, vdp, Nat.add_le_add_iff_right] using h5⟩
  | .ptp xs, h => by
    simp only [vsh] at h
    obtain ⟨ds, e, h1, h2, h3, h4, h5⟩ := datas_ev xs h
    refine ⟨.tuple ds, by simp only [toD, e, Option.map_some], by simpa only [PyData.canLay0] using h1, by simpa only [PyData.showable] using h2, by simpa only [PyData.intsShort] using h3, by simpa only [PyData.weight, vwt] using h4, by simpa only [PyData.depth, vdp, Nat.add_le_add_iff_right] using h5⟩
  | .lst xs, h => by
    simp only [vsh] at h
    obtain ⟨ds, e, h1, h2, h3, h4, h5⟩ := datas_ev xs h
    refine ⟨.list ds, by simp only [toD, e, Option.map_some], by simpa only [PyData.canLay0] using h1, by simpa only [PyData.showable] using h2, by simpa only [PyData.intsShort] using h3, by simpa only [PyData.weight, vwt] using h4, by simpa only [PyData.depth, vdp, Nat.add_le_add_iff_right] using h5⟩
  | .int i, h => by
    simp only [vsh, decide_eq_true_eq] at h
    have h10 : i.natAbs.log2 < 10 := by
      by_cases h0 : i.natAbs = 0
      · rw [h0]; decide
      · exact (Nat.log2_lt h0).mpr (by omega)
    refine ⟨.int i, rfl, rfl, ?_, ?_, ?_, Nat.le_refl _⟩
    · simp only [PyData.showable, decide_eq_true_eq]; omega
    · simp only [PyData.intsShort, decide_eq_true_eq]
      exact PyData.shown_int_le (by omega)
    · simp only [PyData.weight, vwt]
      split <;> omega
  | .ref _, h => by simp [vsh] at h
  | .scr _, h => by simp [vsh] at h
  | .ty _, h => by simp [vsh] at h
  | .fn _, h => by simp [vsh] at h
theorem datas_ev : ∀ xs : List Val, vshs xs = true → ∃ ds, toDs xs = some ds ∧ PyData.canLayAll0 ds = true ∧ PyData.showableAll ds = true ∧ PyData.intsShortAll 13 ds = true ∧ PyData.weightAll ds ≤ vwts xs ∧ PyData.depthAll ds ≤ vdps xs
  | [], _ => ⟨[], rfl, rfl, rfl, rfl, Nat.le_refl _, Nat.le_refl _⟩
  | x :: xs, h => by
    simp only [vshs, Bool.and_eq_true] at h
    obtain ⟨d, e, h1, h2, h3, h4, h5⟩ := data_ev x h.1
    obtain ⟨ds, e', g1, g2, g3, g4, g5⟩ := datas_ev xs h.2
    refine ⟨d :: ds, by simp only [toDs, e, e', Option.bind_some, Option.map_some], by simp only [PyData.canLayAll0, h1, g1, Bool.and_self], by simp only [PyData.showableAll, h2, g2, Bool.and_self], by simp only [PyData.intsShortAll, h3, g3, Bool.and_self], ?_, ?_⟩
    · simp only [PyData.weightAll, vwts]
      omega
    · simp only [PyData.depthAll, vdps]
      omega
end
theorem toDS_toD {S : Sto} {v : Val} (h : vsh v = true) : toDS S v = toD v := by
  cases v with
  | ref => simp [vsh] at h
  | _ => rfl
theorem repr_ev {v : Val} (h : vsh v = true) (hw : vwt v ≤ 1000000) (hd : vdp v ≤ 60) : ∃ t : Str, ∀ S : Sto, fRepr S [v] = some (.str t) := by
  obtain ⟨d, e, h1, h2, h3, h4, h5⟩ := data_ev v h
  refine ⟨d.shown, fun S => ?_⟩
  have big : (1000000 : Nat) ≤ 2 ^ 20 := by decide
  have fit : d.shown.length ≤ sizeLine := PyData.shown_fits (B := 13) (by decide) (by decide) (PyData.leavesShort_of_canLay0 13 d h1 h3) (by omega)
  simp only [fRepr, toDS_toD h, e, Option.bind_some, showOk, h1, h2, fit, decide_true, Bool.and_true, Bool.true_and]
  rw [if_pos (by simp; omega)]
theorem eqS_ev {S : Sto} {neg : Bool} {x : Str} : fEqS neg S (.str x) (.str x) = some (.bl (!neg)) := by
  simp [fEqS]
theorem vshs_iff {xs : List Val} : vshs xs = true ↔ ∀ x ∈ xs, vsh x = true := by
  induction xs with
  | nil => simp [vshs]
  | cons x xs ih => simp [vshs, ih]
theorem vshs_map {α : Type} {f : α → Val} {l : List α} (h : ∀ x ∈ l, vsh (f x) = true) : vshs (l.map f) = true := vshs_iff.mpr fun x hx => by
  obtain ⟨y, hy, rfl⟩
        := List.mem_map.mp hx
  exact h y hy
theorem vwts_map {α : Type} {f : α → Val} {m : Nat} : ∀ {l : List α}, (∀ x ∈ l, vwt (f x) ≤ m) → vwts (l.map f) ≤ l.length * (m + 1)
  | [], _ => by simp [vwts]
  | x :: l, h => by
    have h1 := vwts_map (l := l) fun y hy => h y (List.mem_cons_of_mem _ hy)
    have h2 := h x List.mem_cons_self
    simp only [List.map_cons, vwts, List.length_cons, Nat.add_mul]
    omega
theorem vdps_map {α : Type} {f : α → Val} {m : Nat} : ∀ {l : List α}, (∀ x ∈ l, vdp (f x) ≤ m) → vdps (l.map f) ≤ m
  | [], _ => by simp [vdps]
  | x :: l, h => by
    have h1 := vdps_map (l := l) fun y hy => h y (List.mem_cons_of_mem _ hy)
    have h2 := h x List.mem_cons_self
    simp only [List.map_cons, vdps]
    omega
/-! ### a comprehension over pairs -/
theorem lcT_ev {α : Type} {is : List Nat} {tt : MT} {m : ME} {s : Src} {sl : Sl} {S : Sto} (f : α → Val) (sl1 : α → Sl) (p : α → Bool) (h : α → Val) (hs : s.n = none) : ∀ l : List α, (∀ x ∈ l, gTp is sl S (f x) = some (sl1 x)) → (∀ x ∈ l, tt (sl1 x) S = some (p x, S)) → (∀ x ∈ l, p x = true → m (sl1 x) S = some (h x, S)) → lcX (.tp is) tt m s sl (l.map f) S = some ((l.filter p).map h, S)
  | [], _, _, _ => by simp [lcX, Src.ok, hs]
  | x :: l, h1, h2, h3 => by
    have ih := lcT_ev f sl1 p h hs l (fun y hy => h1 y (List.mem_cons_of_mem _ hy)) (fun y hy => h2 y (List.mem_cons_of_mem _ hy)) fun y hy => h3 y (List.mem_cons_of_mem _ hy)
    have a := h1 x List.mem_cons_self
    have b := h2 x List.mem_cons_self
    have c := h3 x List.mem_cons_self
    simp only [List.map_cons, lcX, Src.ok, hs, if_true, Tn.m, a, b, Option.bind_some, List.filter_cons]
    cases hp : p x with
    | true => simp [c hp, ih]
    | false => simp [ih]
theorem eLcT_ev {α : Type} {is : List Nat} {it : MI} {tt : MT} {m : ME} {vs : List Nat} {sl : Sl} {S S1 : Sto} (l : List α) (f : α → Val) (sl1 : α → Sl) (p : α → Bool) (h : α → Val) (hit : it sl S = some (⟨l.map f, none⟩, S1)) (h1 : ∀ x ∈ l, gTp is (wipeS sl vs) S1 (f x) = some (sl1 x)) (h2 : ∀ x ∈ l, tt (sl1 x) S1 = some (p x, S1)) (h3 : ∀ x ∈ l, p x = true → m (sl1 x) S1 = some (h x, S1)) :
    eLc (.tp is) it tt m vs sl S = some (.lst ((l.filter p).map h), S1) := by
  simp only [eLc, hit, Option.bind_some, lcT_ev f sl1 p h (s := ⟨l.map f, none⟩) rfl l h1 h2 h3]
theorem callK_ev {m : MF} {ix : List Nat} {ms : MEs} {sl : Sl} {S S1 : Sto} {vs ws : List Val} {r : Val × Sto} (h1 : ms sl S = some (vs, S1)) (hl : vs.length = ix.length) (hw : laid .non ix vs = ws) (h2 : m ws S1 = some r) : eCallK m ix ms sl S = some r := by
  simp only [eCallK, h1, Option.bind_some, hl, if_true, hw, h2]
theorem for_cons {tg : MG} {body : MS} {s : Src} {v : Val} {vs : List Val} {sl sl1 sl2 : Sl} {S S2 : Sto} {r : Option (Fl × Sl × Sto)} (hs : s.n = none) (h1 : tg sl S v = some sl1) (h2 : body sl1 S = some (.nxt, sl2, S2)) (h3 : forX tg body s vs sl2 S2 = r) : forX tg body s (v :: vs) sl S = r := by
  simp only [forX, Src.ok, hs, if_true, h1, Option.bind_some, h2, h3]
end Ev
namespace Mt
/-! ### who pays what: a search for one more -/
section
variable {α : Type} [DecidableEq α] {adj : Nat → α → Prop} {D : List α} {A B : α → Option Nat} {x0 : α} {W : Nat → Option α} {R : List α}
structure Pay (adj : Nat → α → Prop) (D : List α) (f : α → Option Nat) : Prop where
  dom : ∀ y, (f y).isSome = true ↔ y ∈ D
  ok : ∀ y p, f y = some p → adj p y
  inj : ∀ y z p, f y = some p → f z = some p → y = z
def CanPay (adj : Nat → α → Prop) (D : List α) : Prop := ∃ f, Pay adj D f
theorem Pay.less {D' : List α} (h : ∀ y ∈ D', y ∈ D) (P : Pay adj D A) : CanPay adj D' := ⟨fun y => if y ∈ D' then A y else none, {
  dom := fun y => by
    by_cases q : y ∈ D'
    · simp only [if_pos q, q, iff_true]; exact (P.dom y).mpr (h y q)
    · simp [q]
  ok := fun y p e => by
    by_cases q : y ∈ D'
    · rw [if_pos q] at e; exact P.ok y p e
    · rw [if_neg q] at e; cases e
  inj := fun y z p e1 e2 => by
    by_cases q : y ∈ D'
    · by_cases q2 : z ∈ D'
      · rw [if_pos q] at e1; rw [if_pos q2] at e2; exact P.inj y z p e1 e2
      · rw [if_neg q2] at e2; cases e2
    · rw [if_neg q] at e1; cases e1 }⟩
/-- a search that has come so far -/
structure Srch (adj : Nat → α → Prop) (D : List α) (A : α → Option Nat) (x0 : α) (W : Nat → Option α) (R : List α) : Prop where
  nd : R.Nodup
  hd : R[0]? = some x0
  new : x0 ∉ D
  in_ : ∀ y ∈ R, y = x0 ∨ y ∈ D
  wish : ∀ p y, W p = some y → y ∈ R ∧ adj p y
  back : ∀ (i : Nat) (y : α), R[i]? = some y → y ≠ x0 → ∃ q j y', A y = some q ∧ W q = some y' ∧ R[j]? = some y' ∧ j < i
def upd1 (B : α → Option Nat) (y : α) (p : Nat) : α → Option Nat := fun z => if z = y then some p else B z
/-- the takers, one after another, take the place that was wished for and free their own -/
def flip (W : Nat → Option α) : Nat → (α → Option Nat) → Nat → (α → Option Nat)
  | 0, B, _ => B
  | n + 1, B, p => match W p with
    | none => B
    | some y => match B y with
      | none => upd1 B y p
      | some q => flip W n (upd1 B y p) q
theorem flip_ok (S : Srch adj D A x0 W R) (P : Pay adj D A) : ∀ (i n : Nat) (B : α → Option Nat) (p : Nat) (y : α), i < n → R[i]? = some y → W p = some y → (∀ j z, j ≤ i → R[j]? = some z → B z = A z) → Pay adj D B → (∀ z, B z ≠ some p) → Pay adj (x0 :: D) (flip W n B p) := by
  intro i
  induction i using Nat.strongRecOn with
  | ind i ih =>
    intro n B p y hn hi hw hag PB free
    obtain ⟨n, rfl⟩ : ∃ k, n = k + 1 := ⟨n - 1, by omega⟩
    have hadj := (S.wish p y hw).2
    have hBy : B y = A y := hag i y (Nat.le_refl _) hi
    simp only [flip, hw]
    by_cases hx : y = x0
    · have hA : A y = none := by
        cases e : A y with
        | none => rfl
        | some q => exact (S.new (hx ▸ (P.dom y).mp (by rw [e]; rfl))).elim
      rw [hBy, hA]
      show Pay adj (x0 :: D) (upd1 B y p)
      refine ⟨fun z => ?_, fun z q e => ?_, fun z z' q e1 e2 => ?_⟩
      · unfold upd1
        by_cases h : z = y
        · rw [if_pos h, h, hx]; simp
        · rw [if_neg h, PB.dom z, List.mem_cons]
          exact ⟨.inr, fun q => q.elim (fun e => (h (e.trans hx.symm)).elim) id⟩
      · unfold upd1 at e
        by_cases h : z = y
        · rw [if_pos h] at e; cases e; rw [h]; exact hadj
        · rw [if_neg h] at e; exact PB.ok z q e
      · unfold upd1 at e1 e2
        by_cases h : z = y <;> by_cases h' : z' = y
        · rw [h, h']
        · rw [if_pos h] at e1; rw [if_neg h'] at e2; cases e1; exact (free z' e2).elim
        · rw [if_neg h] at e1; rw [if_pos h'] at e2; cases e2; exact (free z e1).elim
        · rw [if_neg h] at e1; rw [if_neg h'] at e2; exact PB.inj z z' q e1 e2
    · obtain ⟨q, j, y', hAy, hq, hj, hji⟩ := S.back i y hi hx
      rw [hBy, hAy]
      show Pay adj (x0 :: D) (flip W n (upd1 B y p) q)
      have hB : B y = some q := hBy.trans hAy
      have hpq : p ≠ q := fun e => free y (by rw [hB, e])
      refine ih j hji n (upd1 B y p) q y' (by omega) hj hq (fun k z hk hz => ?_) ⟨fun z => ?_, fun z r e => ?_, fun z z' r e1 e2 => ?_⟩ fun z e => ?_
      · have hne : z ≠ y := fun e => by
          have h1 := (List.getElem?_eq_some_iff.mp hz).1
          have := (List.getElem?_inj h1 S.nd).mp (hz.trans (e ▸ hi.symm))
          omega
        unfold upd1
        rw [if_neg hne]
        exact hag k z (by omega) hz
      · unfold upd1
        by_cases h : z = y
        · rw [if_pos h, h]
          exact ⟨fun _ => (PB.dom y).mp (by rw [hB]; rfl), fun _ => rfl⟩
        · rw [if_neg h]; exact PB.dom z
      · unfold upd1 at e
        by_cases h : z = y
        · rw [if_pos h] at e; cases e; rw [h]; exact hadj
        · rw [if_neg h] at e; exact PB.ok z r e
      · unfold upd1 at e1 e2
        by_cases h : z = y <;> by_cases h' : z' = y
        · rw [h, h']
        · rw [if_pos h] at e1; rw [if_neg h'] at e2; cases e1; exact (free z' e2).elim
        · rw [if_neg h] at e1; rw [if_pos h'] at e2; cases e2; exact (free z e1).elim
        · rw [if_neg h] at e1; rw [if_neg h'] at e2; exact PB.inj z z' r e1 e2
      · unfold upd1 at e
        by_cases h : z = y
        · rw [if_pos h] at e; cases e; exact hpq rfl
        · rw [if_neg h] at e; exact h (PB.inj z y q e hB)
/-- if the search found nothing, one more cannot be paid -/
theorem none_ok (S : Srch adj D A x0 W R) (P : Pay adj D A) (closed : ∀ y ∈ R, ∀ p, adj p y → (W p).isSome = true) (paid : ∀ p, (W p).isSome = true → ∃ z ∈ R, A z = some p) : ¬ CanPay adj (x0 :: D) := by
  rintro ⟨f, F⟩
  have pick : ∀ y : α, ∃ z : α, y ∈ R → ∃ p, f y = some p ∧ z ∈ R ∧ A z = some p := fun y => by
    by_cases h : y ∈ R
    · have hd : (f y).isSome = true := (F.dom y).mpr ((S.in_ y h).elim (fun e => e ▸ List.mem_cons_self) fun q => List.mem_cons_of_mem _ q)
      obtain ⟨p, hp⟩ := Option.isSome_iff_exists.mp hd
      obtain ⟨z, hz, hA⟩ := paid p (closed y h p (F.ok y p hp))
      exact ⟨z, fun _ => ⟨p, hp, hz, hA⟩⟩
    · exact ⟨y, fun q => (h q).elim⟩
  obtain ⟨g, hg⟩ := Classical.axiomOfChoice pick
  have nd : (R.map g).Nodup := by
    unfold List.Nodup
    rw [List.pairwise_map]
    refine List.Pairwise.imp_of_mem (fun {a b} ha hb hne e => ?_) S.nd
    obtain ⟨p, h1, _, h2⟩ := hg a ha
    obtain ⟨q, h3, _, h4⟩ := hg b hb
    have hpq : p = q := Option.some.inj ((e ▸ h2).symm.trans h4)
    exact hne (F.inj a b p h1 (hpq ▸ h3))
  have sub : ∀ z ∈ R.map g, z ∈ R.erase x0 := fun z hz => by
    obtain ⟨y, hy, rfl⟩ := List.mem_map.mp hz
    obtain ⟨p, _, h2, h3⟩ := hg y hy
    refine (List.mem_erase_of_ne fun e => ?_).mpr h2
    exact S.new (e ▸ (P.dom _).mp (by rw [h3]; rfl))
  have h0 : x0 ∈ R := List.mem_of_getElem? S.hd
  have h1 := nd.length_le_of_subset sub
  rw [List.length_map, List.length_erase_of_mem h0] at h1
  have := List.length_pos_of_mem h0
  omega
end
end Mt
namespace Mt
/-! ### trying all coins one after another -/
section
variable {α : Type}
      [DecidableEq α]
abbrev adjL (L : List (List α)) (p : Nat) (y : α) : Prop := ∃ s, L[p]? = some s ∧ y ∈ s
def brute : List α → List (List α) → Bool
  | [], _ => true
  | y :: ys, L => (List.range L.length).any fun k => decide (y ∈ L.getD k []) && brute ys (L.eraseIdx k)
theorem brute_pay : ∀ {ys : List α} {L : List (List α)}, ys.Nodup → brute ys L = true → CanPay (adjL L) ys
  | [], L, _, _ => ⟨fun _ => none, ⟨fun y => by simp, fun y p e => (by cases e), fun y z p e => (by cases e)⟩⟩
  | y :: ys, L, nd, h => by
    obtain ⟨ny, nd'⟩ := List.nodup_cons.mp nd
    obtain ⟨k, hk, h2⟩ := List.any_eq_true.mp h
    rw [Bool.and_eq_true] at h2
    obtain ⟨h3, h4⟩ := h2
    have hk := List.mem_range.mp hk
    have h3 := of_decide_eq_true h3
    obtain ⟨f, F⟩ := brute_pay (L := L.eraseIdx k) nd' h4
    have sh : ∀ p, (L.eraseIdx k)[p]? = L[if p < k then p else p + 1]? := fun p => by
      rw [List.getElem?_eraseIdx]
      split <;> rfl
    refine ⟨fun z => if z = y then some k else (f z).map fun p => if p < k then p else p + 1, ⟨fun z => ?_, fun z p e => ?_, fun z z' p e1 e2 => ?_⟩⟩
    · by_cases q : z = y
      · simp [q]
      · rw [if_neg q, Option.isSome_map, F.dom z, List.mem_cons]
        exact ⟨.inr, fun r => r.elim (fun e => (q e).elim) id⟩
    · by_cases q : z = y
      · rw [if_pos q] at e
        cases e
        refine ⟨L[k], List.getElem?_eq_getElem hk, ?_⟩
        rw [q]
        rwa [List.getD_eq_getElem?_getD, List.getElem?_eq_getElem hk] at h3
      · rw [if_neg q, Option.map_eq_some_iff] at e
        obtain ⟨p', e1, rfl⟩ := e
        obtain ⟨s, hs, hz⟩ := F.ok z p' e1
        exact ⟨s, by rw [← sh]; exact hs, hz⟩
    · by_cases q : z = y <;> by_cases q' : z' = y
      · rw [q, q']
      · rw [if_pos q] at e1
        rw [if_neg q', Option.map_eq_some_iff] at e2
        cases e1
        obtain ⟨p', _, e⟩ := e2
        split at e <;> omega
      · rw [if_pos q'] at e2
        rw [if_neg q, Option.map_eq_some_iff] at e1
        cases e2
        obtain ⟨p', _, e⟩ := e1
        split at e <;> omega
      · rw [if_neg q, Option.map_eq_some_iff] at e1
        rw [if_neg q', Option.map_eq_some_iff] at e2
        obtain ⟨a, a1, a2⟩ := e1
        obtain ⟨b, b1, b2⟩ := e2
        have : a = b := by split at a2 <;> split at b2 <;> omega
        exact F.inj z z' a a1 (this ▸ b1)
theorem pay_brute : ∀ {ys : List α} {L : List (List α)}, ys.Nodup → CanPay (adjL L) ys → brute ys L = true
  | [], _, _, _ => rfl
  | y :: ys, L, nd, ⟨f, F⟩ => by
    obtain ⟨ny, nd'⟩ := List.nodup_cons.mp nd
    obtain ⟨k, hk⟩ := Option.isSome_iff_exists.mp ((F.dom y).mpr List.mem_cons_self)
    obtain ⟨s, hs, hy⟩ := F.ok y k hk
    have hlt : k < L.length := (List.getElem?_eq_some_iff.mp hs).1
    refine List.any_eq_true.mpr ⟨k, List.mem_range.mpr hlt, ?_⟩
    rw [Bool.and_eq_true]
    refine ⟨decide_eq_true (by rw [List.getD_eq_getElem?_getD, hs]; exact hy), pay_brute nd' ?_⟩
    have nk : ∀ z ∈ ys, ∀ p, f z = some p → p ≠ k := fun z hz p e q => ny (F.inj z y k (q ▸ e) hk ▸ hz)
    refine ⟨fun z => if z ∈ ys then (f z).map fun p => if p < k then p else p - 1 else none, ⟨fun z => ?_, fun z p e => ?_, fun z z' p e1 e2 => ?_⟩⟩
    · by_cases q : z ∈ ys
      · rw [if_pos q, Option.isSome_map]
        exact ⟨fun _ => q, fun _ => (F.dom z).mpr (List.mem_cons_of_mem _ q)⟩
      · simp [q]
    · by_cases q : z ∈ ys
      · rw [if_pos q, Option.map_eq_some_iff] at e
        obtain ⟨p', e1, rfl⟩ := e
        obtain ⟨s', hs', hz⟩ := F.ok z p' e1
        have hne := nk z q p' e1
        refine ⟨s', ?_, hz⟩
        rw [List.getElem?_eraseIdx]
        by_cases hp : p' < k
        · rw [if_pos hp, if_pos hp]; exact hs'
        · rw [if_neg hp, if_neg (by omega), show p' - 1 + 1 = p' by omega]; exact hs'
      · rw [if_neg q] at e; cases e
    · by_cases q : z ∈ ys
      · by_cases q' : z' ∈ ys
        · rw [if_pos q, Option.map_eq_some_iff] at e1
          rw [if_pos q', Option.map_eq_some_iff] at e2
          obtain ⟨a, a1, a2⟩ := e1
          obtain ⟨b, b1, b2⟩ := e2
          have ha := nk z q a a1
          have hb := nk z' q' b b1
          have : a = b := by split at a2 <;> split at b2 <;> omega
          exact F.inj z z' a a1 (this ▸ b1)
        · rw [if_neg q'] at e2; cases e2
      · rw [if_neg q] at e1; cases e1
theorem brute_iff {ys : List α} {L : List (List α)} (nd : ys.Nodup) : brute ys L = true ↔ CanPay (adjL L) ys := ⟨brute_pay nd, pay_brute nd⟩
end
end Mt
namespace W16
open PySem PySem.Spec PyProof.Rows L2 Mp Pilot Ev
def vA (A : List (NestedKey × Nat)) : List (NestedKey × Val) := A.map fun p => (p.1, .int ((p.2 : Nat) : Int))
def vW (W : List (Nat × NestedKey)) : List (Key × Val) := W.map fun p => (.inl ((p.1 : Nat) : Int), ofK p.2)
theorem valG_vA (k : NestedKey) : ∀ A : List (NestedKey × Nat), valG (vA A) k = (valG A k).map fun p => Val.int ((p : Nat) : Int)
  | [] => rfl
  | a :: A => by
    have ih := valG_vA k A
    unfold valG vA at *
    rw [List.map_cons, List.find?_cons, List.find?_cons]
    by_cases h : a.1 = k
    · simp [h]
    · simp only [h, decide_false]; exact ih
theorem putG_vA (k : NestedKey) (p : Nat) : ∀ A : List (NestedKey × Nat), putG (vA A) k (.int ((p : Nat) : Int)) = vA (putG A k p)
  | [] => rfl
  | a :: A => by
    have ih := putG_vA k p A
    unfold vA at *
    rw [List.map_cons, putG, putG]
    by_cases h : a.1 = k
    · simp [h]
    · simp only [h, if_false, List.map_cons]; rw [ih]
theorem valG_vW (p : Nat) : ∀ W : List (Nat × NestedKey), valG (vW W) (.inl ((p : Nat) : Int)) = (valG W p).map ofK
  | [] => rfl
  | a :: W => by
    have ih := valG_vW p W
    unfold valG vW at *
    rw [List.map_cons, List.find?_cons, List.find?_cons]
    by_cases h : a.1 = p
    · simp [h]
    · have : ¬ (Sum.inl ((a.1 : Nat) : Int) : Key) = .inl ((p : Nat) : Int) := fun e => h (by injection e with e; omega)
      simp only [h, this, decide_false]; exact ih
theorem keysOk_vA {A : List (NestedKey × Nat)} (h : ∀ p ∈ A, keyOk p.1 = true) : keysOk (vA A) = true := by
  unfold keysOk vA
  rw [List.all_map]
  exact List.all_eq_true.mpr h
theorem mem_putG {α β : Type} [DecidableEq α] (k : α) (v : β) : ∀ (A : List (α × β)) (q : α × β), q ∈ putG A k v → q = (k, v) ∨ q ∈ A
  | [], q, h => .inl (by simpa [putG] using h)
  | a :: A, q, h => by
    unfold putG at h
    by_cases e : a.1 = k
    · rw [if_pos e] at h
      rcases List.mem_cons.mp h
            with rfl | h
      · exact .inl (by rw [e])
      · exact .inr (List.mem_cons_of_mem _ h)
    · rw [if_neg e] at h
      rcases List.mem_cons.mp h
            with rfl | h
      · exact .inr List.mem_cons_self
      · rcases mem_putG k v A q h with h | h
        · exact .inl h
        · exact .inr (List.mem_cons_of_mem _ h)
theorem putG_new {α β : Type} [DecidableEq α] (k : α) (v : β) : ∀ (A : List (α × β)), k ∉ A.map (·.1) → putG A k v = A ++ [(k, v)]
  | [], _ => rfl
  | a :: A, h => by
    simp only [List.map_cons, List.mem_cons, not_or] at h
    unfold putG
    rw [if_neg fun e => h.1 e.symm, putG_new k v A h.2]
    rfl
theorem valG_at {α β : Type} [DecidableEq α] : ∀ (A : List (α × β)) (q : α × β), (A.map (·.1)).Nodup → q ∈ A → valG A q.1 = some q.2
  | a :: A, q, nd, h => by
    unfold valG
    rw [List.find?_cons]
    rcases List.mem_cons.mp h
          with rfl | h
    · simp
    · have nd' := List.nodup_cons.mp nd
      have : ¬ a.1 = q.1 := fun e => nd'.1 (show a.1 ∈ _ by rw [e]; exact List.mem_map_of_mem h)
      simp only [this, decide_false]
      exact valG_at A q nd'.2 h
/-- a row of a dict of the store -/
theorem dGet_ev {S : Sto} {n : Nat} {kvs : List (NestedKey × Val)} {k : NestedKey} (h : S[n]? = some (.dN kvs) ∨ S[n]? = some (.lk (.dN kvs))) (ok : keysOk kvs = true) (kok : keyOk k = true) : dicGet S (.ref n) (ofK k) = some (valG kvs k) := by
  have e1 : dkOf S n = none := by unfold dkOf; rcases h with h | h <;> rw [h]
  have e2 : dnOf S n = some kvs := by unfold dnOf; rcases h with h | h <;> rw [h]
  show (dicOf S n).bind _ = _
  simp only [dicOf, e1, e2, Option.bind_some, ok, if_true, toK_ofK, kok]
theorem kGet_ev {S : Sto} {n p : Nat} {kvs : List (Key × Val)} (h : S[n]? = some (.dK kvs) ∨ S[n]? = some (.lk (.dK kvs))) : dicGet S (.ref n) (.int ((p : Nat) : Int)) = some (valG kvs (.inl ((p : Nat) : Int))) := by
  have e1 : dkOf S n = some kvs := by unfold dkOf; rcases h with h | h <;> rw [h]
  show (dicOf S n).bind _ = _
  simp only [dicOf, e1, Option.bind_some, keyV, Option.map_some]
theorem dPut_ev {S : Sto} {n : Nat} {kvs : List (NestedKey × Val)} {k : NestedKey} {v : Val} (h : S[n]? = some (.dN kvs)) (ok : keysOk kvs = true) (kok : keyOk k = true) (hl : kvs.length < sizeLine) : dicPut S (.ref n) (ofK k) v = some (S.set n (.dN (putG kvs k v))) := by
  simp only [dicPut, h, toK_ofK, Option.bind_some, kok, ok, hl, decide_true, Bool.and_self, if_true]
theorem copyN {i j n : Nat} {A : List (NestedKey × Nat)} {sl : Sl} {T : Sto} (h0 : sl[i]? = some (some (.ref n))) (hj : j < sl.length) (hij : i ≠ j) (hT : T[n]? = some (.lk (.dN (vA A)))) (ok : ∀ p ∈ A, keyOk p.1 = true) (nd : (A.map (·.1)).Nodup) (hl : A.length < sizeLine) (l0 : List Val) : ∀ suf pre : List (NestedKey × Nat), pre ++ suf = A →
    dcX (.nm j) tYesM (eVar j) (eOp2 fDGet (eVar i) (eVar j)) ⟨l0, none⟩ sl T.length (suf.map fun q => ofK q.1) (T ++ [.dN (vA pre)]) = some (T ++ [.dN (vA A)])
  | [], pre, e => by rw [← e, List.append_nil]; rfl
  | q :: suf, pre, e => by
    have hq : q ∈ A := by rw [← e]; simp
    have hn : n < T.length := (List.getElem?_eq_some_iff.mp hT).1
    have s0 : (sl.set j (some (ofK q.1)))[i]? = some (some (.ref n)) := by rw [List.getElem?_set_ne (Ne.symm hij)]; exact h0
    have sj : (sl.set j (some (ofK q.1)))[j]? = some (some (ofK q.1)) := List.getElem?_set_self hj
    have hTn : (T ++ [SO.dN (vA pre)])[n]? = some (.lk (.dN (vA A))) := by rw [List.getElem?_append_left hn]; exact hT
    have g1 : eOp2 fDGet (eVar i) (eVar j) (sl.set j (some (ofK q.1))) (T ++ [.dN (vA pre)]) = some (.int ((q.2 : Nat) : Int), T ++ [.dN (vA pre)]) := by
      refine op2_ev (var_ev s0) (var_ev sj) ?_
      show (dicGet _ _ _).bind id = _
      rw [dGet_ev (.inr hTn) (keysOk_vA ok) (ok q hq), valG_vA, valG_at A q nd hq]
      rfl
    have hnew : q.1 ∉ pre.map (·.1) := fun h => by
      rw [← e, List.map_append, List.map_cons] at nd
      exact (List.nodup_append.mp nd).2.2 _ h _ List.mem_cons_self rfl
    have okp : ∀ p ∈ pre, keyOk p.1 = true := fun p hp => ok p (by rw [← e]; exact List.mem_append_left _ hp)
    have g2 : dicPut (T ++ [SO.dN (vA pre)]) (.ref T.length) (ofK q.1) (.int ((q.2 : Nat) : Int)) = some (T ++ [.dN (vA (pre ++ [q]))]) := by
      have hlp : (vA pre).length < sizeLine := by
        unfold vA; rw [List.length_map]
        have := congrArg List.length e
        simp only [List.length_append, List.length_cons] at this
        omega
      rw [dPut_ev sto0 (keysOk_vA okp) (ok q hq) hlp, ste0, putG_vA, putG_new _ _ _ hnew]
    have ih := copyN h0 hj hij hT ok nd hl l0 suf (pre ++ [q]) (by rw [List.append_assoc]; exact e)
    rw [List.map_cons, dcX]
    rw [show (Src.ok ⟨l0, none⟩ (T ++ [SO.dN (vA pre)])) = true from rfl, if_pos rfl]
    have eg : (Tn.m (.nm j)) sl (T ++ [SO.dN (vA pre)]) (ofK q.1) = some (sl.set j (some (ofK q.1))) := rfl
    rw [eg, Option.bind_some]
    simp only [tYesM, Option.bind_some, if_true, var_ev sj, g1, g2]
    exact ih
/-- the takers, one after another, take the place that was wished for -/
def flipL (W : List (Nat × NestedKey)) : Nat → List (NestedKey × Nat) → Nat → Option (List (NestedKey × Nat))
  | 0, _, _ => none
  | n + 1, B, p => match valG W p with
    | none => none
    | some y => match valG B y with
      | none => some (putG B y p)
      | some q => flipL W n (putG B y p) q
def slW (nA nW m : Nat) (v : Val) (x4 x5 x6 : Option Val) : Sl := [some (.ref nA), some (.ref nW), some v, some (.ref m), x4, x5, x6]
def plV (o : Option Nat) : Val := match o with | none => .non | some q => .int ((q : Nat) : Int)
theorem wcoin_body {nA nW p : Nat} {S : Sto} {W : List (Nat × NestedKey)} {B : List (NestedKey × Nat)} {y : NestedKey} {x4 x5 x6 : Option Val} (hW : S[nW]? = some (.dK (vW W))) (okB : ∀ q ∈ B, keyOk q.1 = true) (ey : valG W p = some y) (oky : keyOk y = true) (hl : B.length < sizeLine) :
    sSeq wcoin_2_1 (sSeq wcoin_2_2 (sSeq wcoin_2_3 wcoin_2_4)) (slW nA nW S.length (.int ((p : Nat) : Int)) x4 x5 x6) (S ++ [.dN (vA B)]) =
      some (.nxt, slW nA nW S.length (plV (valG B y)) x4 (some (ofK y)) (some (plV (valG B y))), S ++ [.dN (vA (putG B y p))]) := by
  have hWn : (S ++ [SO.dN (vA B)])[nW]? = some (.dK (vW W)) := by rw [List.getElem?_append_left (List.getElem?_eq_some_iff.mp hW).1]; exact hW
  refine seq_ev (S1 := S ++ [.dN (vA B)]) (sl1 := slW nA nW S.length (.int ((p : Nat) : Int)) x4 (some (ofK y)) x6) (set_ev (op2_ev (var_ev rfl) (var_ev rfl) ?_)) (seq_ev (S1 := S ++ [.dN (vA B)]) (sl1 := slW nA nW S.length (.int ((p : Nat) : Int)) x4 (some (ofK y)) (some (plV (valG B y)))) (set_ev (meth_ev (var_ev rfl) ?_ (cons_ev (var_ev rfl) nil_ev) ?_)) (seq_ev (dput_ev (var_ev rfl) (var_ev rfl) (var_ev rfl) ?_) (set_ev (var_ev rfl))))
  · show (dicGet _ _ _).bind id = _
    rw [kGet_ev (.inl hWn), valG_vW, ey]
    rfl
  · show (match (S ++ [SO.dN (vA B)])[S.length]? with | some (.dN _) => true | _ => false) = true
    rw [sto0]
  · have c : isDn (S ++ [SO.dN (vA B)]) (.ref S.length) = true := by
      show (match (S ++ [SO.dN (vA B)])[S.length]? with | some (.dN _) => true | _ => false) = true
      rw [sto0]
    show (if isDn _ _ then _ else none) = _
    rw [if_pos c, dGet_ev (.inl sto0) (keysOk_vA okB) oky, valG_vA]
    cases valG B y <;> rfl
  · have hl' : (vA B).length < sizeLine := by unfold vA; rw [List.length_map]; exact hl
    rw [dPut_ev sto0 (keysOk_vA okB) oky hl', ste0, putG_vA]
theorem wcoin_wh {nA nW : Nat} {S : Sto} {W : List (Nat × NestedKey)} {x4 : Option Val} (hW : S[nW]? = some (.dK (vW W))) (okW : ∀ p y, valG W p = some y → keyOk y = true) : ∀ (n m : Nat) (B C : List (NestedKey × Nat)) (p : Nat) (x5 x6 : Option Val), n < m → (∀ q ∈ B, keyOk q.1 = true) → B.length + n < sizeLine → flipL W n B p = some C →
    ∃ x5' x6', whX (tTru (eOp2 (fIs true) (eVar 2) (eCon .non))) (sSeq wcoin_2_1 (sSeq wcoin_2_2 (sSeq wcoin_2_3 wcoin_2_4))) m (slW nA nW S.length (.int ((p : Nat) : Int)) x4 x5 x6) (S ++ [.dN (vA B)]) = some (.nxt, slW nA nW S.length .non x4 x5' x6', S ++ [.dN (vA C)])
  | 0, _, _, _, _, _, _, _, _, _, e => by cases e
  | n + 1, m, B, C, p, x5, x6, hm, okB, hl, e => by
    obtain ⟨m, rfl⟩ : ∃ k, m = k + 1 := ⟨m - 1, by omega⟩
    rw [flipL] at e
    cases ey : valG W p with
    | none => rw [ey] at e; cases e
    | some y =>
      rw [ey] at e
      have oky : keyOk y = true := okW p y ey
      have t1 : tTru (eOp2 (fIs true) (eVar 2) (eCon .non)) (slW nA nW S.length (.int ((p : Nat) : Int)) x4 x5 x6) (S ++ [.dN (vA B)]) = some (true, S ++ [.dN (vA B)]) := rfl
      have bd := wcoin_body (nA := nA) (x4 := x4) (x5 := x5) (x6 := x6) hW okB ey oky (by omega)
      rw [whX, t1, Option.bind_some, if_pos rfl, bd, Option.bind_some]
      have okB' : ∀ q ∈ putG B y p, keyOk q.1 = true := fun q hq => (mem_putG _ _ _ _ hq).elim (fun h => by rw [h]; exact oky) (okB q)
      cases ez : valG B y with
      | none =>
        simp only [ez] at e
        cases e
        obtain ⟨m, rfl⟩ : ∃ k, m = k + 1 := ⟨m - 1, by omega⟩
        exact ⟨_, _, rfl⟩
      | some q =>
        simp only [ez] at e
        exact wcoin_wh hW okW n m _ C q _ _ (by omega) okB' (by have := putG_length y p B; omega) e
theorem sp_wcoin {nA nW p n : Nat} {S : Sto} {W : List (Nat × NestedKey)} {A C : List (NestedKey × Nat)} (hA : S[nA]? = some (.dN (vA A))) (hW : S[nW]? = some (.dK (vW W))) (okW : ∀ p y, valG W p = some y → keyOk y = true) (okA : ∀ q ∈ A, keyOk q.1 = true) (nd : (A.map (·.1)).Nodup) (hn : n < 4000) (hl : A.length + n < sizeLine) (e : flipL W n A p = some C) :
    m_wcoinK [.ref nA, .ref nW, .int ((p : Nat) : Int)] S = some (.ref S.length, S ++ [.dN (vA C)]) := by
  have hlt : nA < S.length := (List.getElem?_eq_some_iff.mp hA).1
  have hT : (S.set nA (.lk (.dN (vA A))))[nA]? = some (.lk (.dN (vA A))) := List.getElem?_set_self hlt
  have c1 : wcoin_1 [some (.ref nA), some (.ref nW), some (.int ((p : Nat) : Int)), none, none, none, none] S = some (.nxt, slW nA nW S.length (.int ((p : Nat) : Int)) none none none, S ++ [.dN (vA A)]) := by
    have kk : iKeysN (eVar 0) [some (.ref nA), some (.ref nW), some (.int ((p : Nat) : Int)), none, none, none, none] (S.set nA (.lk (.dN (vA A)))) = some (⟨(vA A).map fun q => ofK q.1, none⟩, S.set nA (.lk (.dN (vA A)))) := by
      show (match (S.set nA (.lk (.dN (vA A))))[nA]? with | some (.lk (.dN kvs)) => some ((⟨kvs.map fun (q : NestedKey × Val) => ofK q.1, none⟩ : Src), S.set nA (.lk (.dN (vA A)))) | _ => none) = _
      rw [hT]
    have cp := copyN (i := 0) (j := 4) (n := nA) (A := A) (sl := [some (.ref nA), some (.ref nW), some (.int ((p : Nat) : Int)), none, none, none, none]) (T := S.set nA (.lk (.dN (vA A)))) rfl (Nat.lt_of_sub_eq_succ rfl) (by decide) hT okA nd (by omega) ((vA A).map fun q => ofK q.1) A [] rfl
    have kl : (vA A).map (fun q => ofK q.1) = A.map fun q => ofK q.1 := by unfold vA; rw [List.map_map]; rfl
    have dc : sSet 3 (eDc (.dN []) (.nm 4) (iKeysN (eVar 0)) tYesM (eVar 4) (eOp2 fDGet (eVar 0) (eVar 4)) [4]) [some (.ref nA), some (.ref nW), some (.int ((p : Nat) : Int)), none, none, none, none] (S.set nA (.lk (.dN (vA A)))) = some (.nxt, slW nA nW S.length (.int ((p : Nat) : Int)) none none none, S.set nA (.lk (.dN (vA A))) ++ [.dN (vA A)]) := by
      have h : eDc (.dN []) (.nm 4) (iKeysN (eVar 0)) tYesM (eVar 4) (eOp2 fDGet (eVar 0) (eVar 4)) [4] [some (.ref nA), some (.ref nW), some (.int ((p : Nat) : Int)), none, none, none, none] (S.set nA (.lk (.dN (vA A)))) = some (.ref S.length, S.set nA (.lk (.dN (vA A))) ++ [.dN (vA A)]) := by
        unfold eDc
        rw [kk, Option.bind_some]
        show (dcX _ _ _ _ _ _ _ ((vA A).map fun q => ofK q.1) _).map _ = _
        rw [kl] at cp ⊢
        have cp' := cp
        show (dcX (.nm 4) tYesM (eVar 4) (eOp2 fDGet (eVar 0) (eVar 4)) ⟨A.map fun q => ofK q.1, none⟩ [some (.ref nA), some (.ref nW), some (.int ((p : Nat) : Int)), none, none, none, none] (S.set nA (.lk (.dN (vA A)))).length (A.map fun q => ofK q.1) (S.set nA (.lk (.dN (vA A))) ++ [.dN (vA [])])).map _ = _
        rw [cp', Option.map_some, List.length_set]
      rw [set_ev h]
      rfl
    unfold wcoin_1 sLock
    show (lockS S nA).bind _ = _
    have lk : lockS S nA = some (.dN (vA A), S.set nA (.lk (.dN (vA A)))) := by unfold lockS; rw [hA]
    rw [lk, Option.bind_some, dc, Option.bind_some]
    have back : (S.set nA (.lk (.dN (vA A))) ++ [SO.dN (vA A)]).set nA (.dN (vA A)) = S ++ [.dN (vA A)] := by
      rw [List.set_append_left _ _ (by rw [List.length_set]; exact hlt), List.set_set]
      congr 1
      refine List.ext_getElem?
            fun j => ?_
      by_cases h : nA = j
      · subst h; rw [List.getElem?_set_self hlt, hA]
      · rw [List.getElem?_set_ne h]
    rw [back]
  obtain ⟨x5, x6, wh⟩ := wcoin_wh (nA := nA) (x4 := none) hW okW n 4000 A C p none none hn okA hl e
  refine def_keep (sl := slW nA nW S.length .non none x5 x6) rfl ?_
  refine seq_ev c1 (seq_ev wh (ret_ev (var_ev rfl)))
end W16
namespace W16
open PySem PySem.Spec PyProof.Rows L2 Mp Pilot Ev
/-- who holds what: the assignment turned about -/
def turnA (A : List (NestedKey × Nat)) : List (Nat × NestedKey) := A.map fun p => (p.2, p.1)
theorem putM_new {kvs : List (Key × Val)} {k : Key} {v : Val} (h : k ∉ kvs.map (·.1)) : putM kvs k v = kvs ++ [(k, v)] := by
  unfold putM
  rw [if_neg]
  intro e
  obtain ⟨q, hq, e⟩ := List.any_eq_true.mp e
  exact h (by rw [← of_decide_eq_true e]; exact List.mem_map_of_mem hq)
theorem kPut_ev {S : Sto} {n p : Nat} {W : List (Nat × NestedKey)} {k : NestedKey} (h : S[n]? = some (.dK (vW W))) (hp : p ∉ W.map (·.1)) (hl : W.length < sizeLine) : dicPut S (.ref n) (.int ((p : Nat) : Int)) (ofK k) = some (S.set n (.dK (vW (W ++ [(p, k)])))) := by
  have hl' : (vW W).length < sizeLine := by unfold vW; rw [List.length_map]; exact hl
  have hn : (Sum.inl ((p : Nat) : Int) : Key) ∉ (vW W).map (·.1) := fun h => by
    unfold vW at h
    rw [List.map_map] at h
    obtain ⟨q, hq, e⟩ := List.mem_map.mp h
    have e2 : ((q.1 : Nat) : Int) = ((p : Nat) : Int) := by simpa using e
    exact hp (by rw [show p = q.1 by omega]; exact List.mem_map_of_mem hq)
  simp only [dicPut, h, keyV, Option.bind_some, hl', if_true, putM_new hn]
  rw [show vW (W ++ [(p, k)]) = vW W ++ [(.inl ((p : Nat) : Int), ofK k)] by unfold vW; rw [List.map_append]; rfl]
theorem copyK {i j n : Nat} {A : List (NestedKey × Nat)} {sl : Sl} {T : Sto} (h0 : sl[i]? = some (some (.ref n))) (hj : j < sl.length) (hij : i ≠ j) (hT : T[n]? = some (.lk (.dN (vA A)))) (ok : ∀ p ∈ A, keyOk p.1 = true) (nd : (A.map (·.1)).Nodup) (nd2 : (A.map (·.2)).Nodup) (hl : A.length < sizeLine) (l0 : List Val) : ∀ suf pre : List (NestedKey × Nat), pre ++ suf = A →
    dcX (.nm j) tYesM (eOp2 fDGet (eVar i) (eVar j)) (eVar j) ⟨l0, none⟩ sl T.length (suf.map fun q => ofK q.1) (T ++ [.dK (vW (turnA pre))]) = some (T ++ [.dK (vW (turnA A))])
  | [], pre, e => by rw [← e, List.append_nil]; rfl
  | q :: suf, pre, e => by
    have hq : q ∈ A := by rw [← e]; simp
    have hn : n < T.length := (List.getElem?_eq_some_iff.mp hT).1
    have s0 : (sl.set j (some (ofK q.1)))[i]? = some (some (.ref n)) := by rw [List.getElem?_set_ne (Ne.symm hij)]; exact h0
    have sj : (sl.set j (some (ofK q.1)))[j]? = some (some (ofK q.1)) := List.getElem?_set_self hj
    have hTn : (T ++ [SO.dK (vW (turnA pre))])[n]? = some (.lk (.dN (vA A))) := by rw [List.getElem?_append_left hn]; exact hT
    have g1 : eOp2 fDGet (eVar i) (eVar j) (sl.set j (some (ofK q.1))) (T ++ [.dK (vW (turnA pre))]) = some (.int ((q.2 : Nat) : Int), T ++ [.dK (vW (turnA pre))]) := by
      refine op2_ev (var_ev s0) (var_ev sj) ?_
      show (dicGet _ _ _).bind id = _
      rw [dGet_ev (.inr hTn) (keysOk_vA ok) (ok q hq), valG_vA, valG_at A q nd hq]
      rfl
    have hnew : q.2 ∉ (turnA pre).map (·.1) := fun h => by
      rw [← e, List.map_append, List.map_cons] at nd2
      have h' : q.2 ∈ pre.map (·.2) := by unfold turnA at h; rw [List.map_map] at h; exact h
      exact (List.nodup_append.mp nd2).2.2 _ h' _ List.mem_cons_self rfl
    have g2 : dicPut (T ++ [SO.dK (vW (turnA pre))]) (.ref T.length) (.int ((q.2 : Nat) : Int)) (ofK q.1) = some (T ++ [.dK (vW (turnA (pre ++ [q])))]) := by
      have hlp : (turnA pre).length < sizeLine := by
        unfold turnA; rw [List.length_map]
        have := congrArg List.length e
        simp only [List.length_append, List.length_cons] at this
        omega
      rw [kPut_ev sto0 hnew hlp, ste0, show turnA (pre ++ [q]) = turnA pre ++ [(q.2, q.1)] by unfold turnA; rw [List.map_append]; rfl]
    have ih := copyK h0 hj hij hT ok nd nd2 hl l0 suf (pre ++ [q]) (by rw [List.append_assoc]; exact e)
    rw [List.map_cons, dcX]
    rw [show (Src.ok ⟨l0, none⟩ (T ++ [SO.dK (vW (turnA pre))])) = true from rfl, if_pos rfl]
    have eg : (Tn.m (.nm j)) sl (T ++ [SO.dK (vW (turnA pre))]) (ofK q.1) = some (sl.set j (some (ofK q.1))) := rfl
    rw [eg, Option.bind_some]
    simp only [tYesM, Option.bind_some, if_true, var_ev sj, g1, g2]
    exact ih
/-- what the search has, x the pair that is looked at: the places from the first -/
def srchIn (Sc : Nat → List NestedKey) (P : List (Nat × NestedKey)) (x : NestedKey) : List Nat → List (Nat × NestedKey) → List NestedKey → Sum (Nat × List (Nat × NestedKey) × List NestedKey) (List (Nat × NestedKey) × List NestedKey)
  | [], W, R => .inr (W, R)
  | p :: ps, W, R => if p ∉ W.map (·.1) ∧ x ∈ Sc p then match valG P p with
      | none => .inl (p, W ++ [(p, x)], R)
      | some y => srchIn Sc P x ps (W ++ [(p, x)]) (R ++ [y])
    else srchIn Sc P x ps W R
def slS (vs : List Val) (nA : Nat) (x0 : NestedKey) (m : Nat) (x4 : Option Val) (i : Nat) (x8 : Option Val) : Sl := [some (.lst vs), some (.ref nA), some (ofK x0), some (.ref m), x4, some (.ref (m + 1)), some (.ref (m + 2)), some (.int ((i : Nat) : Int)), x8]
def stS (S : Sto) (P W : List (Nat × NestedKey)) (R : List NestedKey) : Sto := S ++ [.dK (vW P), .dK (vW W), .lst (R.map ofK)]
/-- the scopes as the program has them -/
def ScOk (vs : List Val) (Sc : Nat → List NestedKey) (G : NestedKey → Prop) : Prop := ∀ p, p < vs.length → ∃ v, vs[p]? = some v ∧ ∀ (S : Sto) (x : NestedKey), G x → fIn false S (ofK x) v = some (.bl (decide (x ∈ Sc p)))
theorem valG_none {α β : Type} [DecidableEq α] (k : α) : ∀ A : List (α × β), (valG A k).isSome = decide (k ∈ A.map (·.1))
  | [] => by simp [valG]
  | a :: A => by
    have ih := valG_none k A
    unfold valG at *
    rw [List.find?_cons]
    by_cases h : a.1 = k
    · simp [h]
    · have h' : ¬ k = a.1 := fun e => h e.symm
      simp only [h, decide_false, List.map_cons, List.mem_cons, h', false_or]; exact ih
theorem kIn_ev {S : Sto} {n p : Nat} {W : List (Nat × NestedKey)} (h : S[n]? = some (.dK (vW W))) : fDIn true S (.int ((p : Nat) : Int)) (.ref n) = some (.bl (decide (p ∉ W.map (·.1)))) := by
  unfold fDIn
  rw [kGet_ev (.inl h), valG_vW, Option.map_some, Option.isSome_map, valG_none]
  by_cases q : p ∈ W.map (·.1) <;> simp [q]
theorem srch_one {vs : List Val} {nA i p : Nat} {x0 x : NestedKey} {x4 : Option Val} {Sc : Nat → List NestedKey} {G : NestedKey → Prop} {S : Sto} {P W : List (Nat × NestedKey)} {R : List NestedKey} (hsc : ScOk vs Sc G) (hx : R[i]? = some x) (gx : G x) (hp : p < vs.length) (hW : W.length < sizeLine) (hR : R.length < sizeLine) :
    srch_5_1_1 (slS vs nA x0 S.length x4 i (some (.int ((p : Nat) : Int)))) (stS S P W R) =
      if p ∉ W.map (·.1) ∧ x ∈ Sc p then match valG P p with
        | none => some (.ret (.tup [.int ((p : Nat) : Int), .ref (S.length + 1), .ref (S.length + 2)]), slS vs nA x0 S.length x4 i (some (.int ((p : Nat) : Int))), stS S P (W ++ [(p, x)]) R)
        | some y => some (.nxt, slS vs nA x0 S.length x4 i (some (.int ((p : Nat) : Int))), stS S P (W ++ [(p, x)]) (R ++ [y]))
      else some (.nxt, slS vs nA x0 S.length x4 i (some (.int ((p : Nat) : Int))), stS S P W R) := by
  obtain ⟨v, hv, hin⟩ := hsc p hp
  have c1 : tTru (eOp2 (fDIn true) (eVar 8) (eVar 5)) (slS vs nA x0 S.length x4 i (some (.int ((p : Nat) : Int)))) (stS S P W R) = some (decide (p ∉ W.map (·.1)), stS S P W R) :=
    tru_ev (op2_ev (var_ev rfl) (var_ev rfl) (kIn_ev sto1))
  have at6 : ∀ W', eOp2 fIx (eVar 6) (eVar 7) (slS vs nA x0 S.length x4 i (some (.int ((p : Nat) : Int)))) (stS S P W' R) = some (ofK x, stS S P W' R) := fun W' => by
    refine op2_ev (var_ev rfl) (var_ev rfl) ?_
    show (lstOf _ _).bind _ = _
    have : lstOf (stS S P W' R) (.ref (S.length + 2)) = some (R.map ofK) := by
      show (match (stS S P W' R)[S.length + 2]? with | some (.lst xs) => some xs | _ => none) = _
      rw [show (stS S P W' R)[S.length + 2]? = some (.lst (R.map ofK)) from sto2]
    rw [this, Option.bind_some]
    exact L2.atI_nat (by rw [List.getElem?_map, hx]; rfl)
  have c2 : tTru (eOp2 (fIn false) (eOp2 fIx (eVar 6) (eVar 7)) (eOp2 fIx (eVar 0) (eVar 8))) (slS vs nA x0 S.length x4 i (some (.int ((p : Nat) : Int)))) (stS S P W R) = some (decide (x ∈ Sc p), stS S P W R) :=
    tru_ev (op2_ev (at6 W) (op2_ev (var_ev rfl) (var_ev rfl) (L2.atI_nat hv)) (hin _ x gx))
  by_cases h : p ∉ W.map (·.1) ∧ x ∈ Sc p
  · rw [if_pos h]
    refine if_t (and_t (by rw [c1, decide_eq_true h.1]) (by rw [c2, decide_eq_true h.2])) ?_
    have a1 : srch_5_1_1_a_1 (slS vs nA x0 S.length x4 i (some (.int ((p : Nat) : Int)))) (stS S P W R) = some (.nxt, slS vs nA x0 S.length x4 i (some (.int ((p : Nat) : Int))), stS S P (W ++ [(p, x)]) R) := by
      refine dput_ev (at6 W) (var_ev rfl) (var_ev rfl) ?_
      exact (kPut_ev (S := stS S P W R) (W := W) sto1 h.1 hW).trans (congrArg some ste1)
    refine seq_ev a1 ?_
    have c3 : tTru (eOp2 (fDIn true) (eVar 8) (eVar 3)) (slS vs nA x0 S.length x4 i (some (.int ((p : Nat) : Int)))) (stS S P (W ++ [(p, x)]) R) = some (decide (p ∉ P.map (·.1)), stS S P (W ++ [(p, x)]) R) :=
      tru_ev (op2_ev (var_ev rfl) (var_ev rfl) (kIn_ev sto0))
    have vn := valG_none p P
    cases ev : valG P p with
    | none =>
      rw [ev] at vn
      have hn : p ∉ P.map (·.1) := fun q => by rw [decide_eq_true q] at vn; cases vn
      exact seq_ret (if_t (by rw [c3, decide_eq_true hn]) (ret_ev (tup_ev (cons_ev (var_ev rfl) (cons_ev (var_ev rfl) (cons_ev (var_ev rfl) nil_ev))))))
    | some y =>
      rw [ev] at vn
      have hn : ¬ p ∉ P.map (·.1) := fun q => by rw [decide_eq_false q] at vn; cases vn
      refine seq_ev (if_f (by rw [c3, decide_eq_false hn]) skip_ev) ?_
      have g3 : eOp2 fDGet (eVar 3) (eVar 8) (slS vs nA x0 S.length x4 i (some (.int ((p : Nat) : Int)))) (stS S P (W ++ [(p, x)]) R) = some (ofK y, stS S P (W ++ [(p, x)]) R) := by
        refine op2_ev (var_ev rfl) (var_ev rfl) ?_
        show (dicGet _ _ _).bind id = _
        rw [kGet_ev (S := stS S P (W ++ [(p, x)]) R) (kvs := vW P) (.inl sto0), valG_vW, ev]
        rfl
      have isl : isL (stS S P (W ++ [(p, x)]) R) (.ref (S.length + 2)) = true := by
        show (match (stS S P (W ++ [(p, x)]) R)[S.length + 2]? with | some (.lst _) => true | _ => false) = true
        rw [show (stS S P (W ++ [(p, x)]) R)[S.length + 2]? = some (.lst (R.map ofK)) from sto2]
      refine exp_ev (v := .non) (meth_ev (var_ev rfl) isl (cons_ev g3 nil_ev) ?_)
      show (match (stS S P (W ++ [(p, x)]) R)[S.length + 2]? with | some (.lst ys) => if ys.length < sizeLine then some (Val.non, (stS S P (W ++ [(p, x)]) R).set (S.length + 2) (.lst (ys ++ [ofK y]))) else none | _ => none) = _
      rw [show (stS S P (W ++ [(p, x)]) R)[S.length + 2]? = some (.lst (R.map ofK)) from sto2]
      have hR' : (R.map ofK).length < sizeLine := by rw [List.length_map]; exact hR
      simp only [hR', if_true]
      rw [show (stS S P (W ++ [(p, x)]) R).set (S.length + 2) (.lst (R.map ofK ++ [ofK y])) = S ++ [.dK (vW P), .dK (vW (W ++ [(p, x)])), .lst (R.map ofK ++ [ofK y])] from ste2]
      simp only [stS, List.map_append, List.map_cons, List.map_nil]
  · rw [if_neg h]
    by_cases q : p ∉ W.map (·.1)
    · exact if_f (and_t (by rw [c1, decide_eq_true q]) (by rw [c2, decide_eq_false fun z => h ⟨q, z⟩])) skip_ev
    · exact if_f (and_f (by rw [c1, decide_eq_false q])) skip_ev
/-- the wishes so far: each place once; the takers as many and one more -/
structure Wi (N : Nat) (W : List (Nat × NestedKey)) (R : List NestedKey) : Prop where
  nd : (W.map (·.1)).Nodup
  lt : ∀ p ∈ W.map (·.1), p < N
  len : R.length = W.length + 1
theorem few : ∀ (N : Nat) (l : List Nat), l.Nodup → (∀ p ∈ l, p < N) → l.length ≤ N
  | 0, [], _, _ => Nat.le_refl _
  | 0, a :: _, _, h => absurd (h a List.mem_cons_self) (Nat.not_lt_zero _)
  | N + 1, l, nd, h => by
    have ih := few N (l.erase N) (nd.erase N) fun p hp => by
      have h1 := (nd.mem_erase_iff.mp hp)
      have := h p h1.2
      omega
    have := List.length_erase (a := N) (l := l)
    split at this <;> omega
theorem Wi.add {N p : Nat} {W : List (Nat × NestedKey)} {R : List NestedKey} {x y : NestedKey} (h : Wi N W R) (hp : p < N) (hn : p ∉ W.map (·.1)) : Wi N (W ++ [(p, x)]) (R ++ [y]) := by
  refine ⟨?_, fun q hq => ?_, by simp [h.len]⟩
  · rw [List.map_append]
    exact List.nodup_append.mpr ⟨h.nd, by simp, fun a ha b hb e => hn (by simp at hb; rw [← hb, ← e]; exact ha)⟩
  · rw [List.map_append, List.mem_append] at hq
    rcases hq with hq | hq
    · exact h.lt q hq
    · simp at hq; omega
theorem Wi.few {N : Nat} {W : List (Nat × NestedKey)} {R : List NestedKey} (h : Wi N W R) : W.length ≤ N := by
  have := W16.few N _ h.nd h.lt
  rwa [List.length_map] at this
def foundV (p m : Nat) : Val := .tup [.int ((p : Nat) : Int), .ref (m + 1), .ref (m + 2)]
theorem srch_for {vs : List Val} {nA i : Nat} {x0 x : NestedKey} {x4 : Option Val} {Sc : Nat → List NestedKey} {G : NestedKey → Prop} {S : Sto} {P : List (Nat × NestedKey)} (hsc : ScOk vs Sc G) (gx : G x) (hN : vs.length + 2 < sizeLine) (l0 : List Val) : ∀ (ps : List Nat) (W : List (Nat × NestedKey)) (R : List NestedKey) (x8 : Option Val), (∀ p ∈ ps, p < vs.length) → Wi vs.length W R → R[i]? = some x →
    match srchIn Sc P x ps W R with
    | .inl (p, W', R') => forX (gNm 8) srch_5_1_1 ⟨l0, none⟩ (ps.map fun p => Val.int ((p : Nat) : Int)) (slS vs nA x0 S.length x4 i x8) (stS S P W R) = some (.ret (foundV p S.length), slS vs nA x0 S.length x4 i (some (.int ((p : Nat) : Int))), stS S P W' R')
    | .inr (W', R') => Wi vs.length W' R' ∧ (∃ t, R' = R ++ t) ∧ ∃ x8', forX (gNm 8) srch_5_1_1 ⟨l0, none⟩ (ps.map fun p => Val.int ((p : Nat) : Int)) (slS vs nA x0 S.length x4 i x8) (stS S P W R) = some (.nxt, slS vs nA x0 S.length x4 i x8', stS S P W' R')
  | [], W, R, x8, _, wi, _ => ⟨wi, ⟨[], (List.append_nil _).symm⟩, x8, rfl⟩
  | p :: ps, W, R, x8, hps, wi, hx => by
    have hp := hps p List.mem_cons_self
    have hps' : ∀ q ∈ ps, q < vs.length := fun q hq => hps q (List.mem_cons_of_mem _ hq)
    have lW := wi.few
    have one := srch_one (nA := nA) (x0 := x0) (x4 := x4) (S := S) (P := P) (W := W) (R := R) hsc hx gx hp (by omega) (by have := wi.len; omega)
    have tg : gNm 8 (slS vs nA x0 S.length x4 i x8) (stS S P W R) (.int ((p : Nat) : Int)) = some (slS vs nA x0 S.length x4 i (some (.int ((p : Nat) : Int)))) := rfl
    unfold srchIn
    by_cases h : p ∉ W.map (·.1) ∧ x ∈ Sc p
    · rw [if_pos h] at one ⊢
      cases ev : valG P p with
      | none =>
        rw [ev] at one
        show forX (gNm 8) srch_5_1_1 ⟨l0, none⟩ (.int ((p : Nat) : Int) :: ps.map fun p => Val.int ((p : Nat) : Int)) _ _ = _
        have ok : (Src.ok ⟨l0, none⟩ (stS S P W R)) = true := rfl
        rw [forX, ok, if_pos rfl, tg, Option.bind_some, one, Option.bind_some]
        rfl
      | some y =>
        rw [ev] at one
        have ih := srch_for (nA := nA) (x0 := x0) (x4 := x4) (S := S) (P := P) hsc gx hN l0 ps (W ++ [(p, x)]) (R ++ [y]) (some (.int ((p : Nat) : Int))) hps' (wi.add hp h.1) (by rw [List.getElem?_append_left (List.getElem?_eq_some_iff.mp hx).1]; exact hx)
        show match srchIn Sc P x ps (W ++ [(p, x)]) (R ++ [y]) with | .inl (p', W', R') => _ | .inr (W', R') => _
        revert ih
        cases srchIn Sc P x ps (W ++ [(p, x)]) (R ++ [y]) with
        | inl r => exact fun ih => for_cons rfl tg one ih
        | inr r => exact fun ⟨w, ⟨t, e⟩, x8', ih⟩ => ⟨w, ⟨y :: t, by rw [e, List.append_assoc]; rfl⟩, x8', for_cons rfl tg one ih⟩
    · rw [if_neg h] at one ⊢
      have ih := srch_for (nA := nA) (x0 := x0) (x4 := x4) (S := S) (P := P) hsc gx hN l0 ps W R (some (.int ((p : Nat) : Int))) hps' wi hx
      revert ih
      cases srchIn Sc P x ps W R with
      | inl r => exact fun ih => for_cons rfl tg one ih
      | inr r => exact fun ⟨w, e, x8', ih⟩ => ⟨w, e, x8', for_cons rfl tg one ih⟩
def srchOut (Sc : Nat → List NestedKey) (P : List (Nat × NestedKey)) (N : Nat) : Nat → Nat → List (Nat × NestedKey) → List NestedKey → Option (Option Nat × List (Nat × NestedKey) × List NestedKey)
  | 0, _, _, _ => none
  | n + 1, i, W, R => match R[i]? with
    | none => some (none, W, R)
    | some x => match srchIn Sc P x (List.range N) W R with
      | .inl (p, W', R') => some (some p, W', R')
      | .inr (W', R') => srchOut Sc P N n (i + 1) W' R'
theorem ordOk_int {a b : Int} : ordOk (.int a) (.int b) = true := by simp [ordOk, PySem.W.alike, PyData.depth]
theorem lt_ev {S : Sto} {a b : Int} : fOrd .Lt S (.int a) (.int b) = some (.bl (decide (a < b))) := by
  simp only [fOrd, toDS, toD, Option.bind_some, ordOk_int, if_true, ordV, PySem.W.dataLt_int, Option.map_some]

theorem srch_wh {vs : List Val} {nA : Nat} {x0 : NestedKey} {x4 : Option Val} {Sc : Nat → List NestedKey} {G : NestedKey → Prop} {S : Sto} {P : List (Nat × NestedKey)} (hsc : ScOk vs Sc G) (hN : vs.length + 2 < 16000) (hG : ∀ W R W' R' x, srchIn Sc P x (List.range vs.length) W R = .inr (W', R') → (∀ z ∈ R, G z) → ∀ z ∈ R', G z) :
    ∀ (n m i : Nat) (W : List (Nat × NestedKey)) (R : List NestedKey) (x8 : Option Val) (o : Option Nat) (W' : List (Nat × NestedKey)) (R' : List NestedKey), n ≤ m → (∀ z ∈ R, G z) → Wi vs.length W R → srchOut Sc P vs.length n i W R = some (o, W', R') →
    match o with
    | some p => ∃ sl', whX (tTru (eOp2 (fOrd .Lt) (eVar 7) (eFn fLen (es1 (eVar 6))))) (sSeq srch_5_1 srch_5_2) m (slS vs nA x0 S.length x4 i x8) (stS S P W R) = some (.ret (foundV p S.length), sl', stS S P W' R')
    | none => ∃ i' x8', whX (tTru (eOp2 (fOrd .Lt) (eVar 7) (eFn fLen (es1 (eVar 6))))) (sSeq srch_5_1 srch_5_2) m (slS vs nA x0 S.length x4 i x8) (stS S P W R) = some (.nxt, slS vs nA x0 S.length x4 i' x8', stS S P W' R')
  | 0, _, _, _, _, _, _, _, _, _, _, _, e => by cases e
  | n + 1, m, i, W, R, x8, o, W', R', hm, hg, wi, e => by
    obtain ⟨m, rfl⟩ : ∃ k, m = k + 1 := ⟨m - 1, by omega⟩
    rw [srchOut] at e
    have sz : (16000 : Nat) ≤ sizeLine := by decide
    have len6 : eFn fLen (es1 (eVar 6)) (slS vs nA x0 S.length x4 i x8) (stS S P W R) = some (.int ((R.length : Nat) : Int), stS S P W R) := by
      refine fn_ev (cons_ev (var_ev rfl) nil_ev) ?_
      show (match (stS S P W R)[S.length + 2]? with | some (.lst xs) => some (Val.int xs.length) | some (.dK kvs) => some (.int kvs.length) | _ => _) = _
      rw [show (stS S P W R)[S.length + 2]? = some (.lst (R.map ofK)) from sto2]
      simp only [List.length_map]
    have t1 : tTru (eOp2 (fOrd .Lt) (eVar 7) (eFn fLen (es1 (eVar 6)))) (slS vs nA x0 S.length x4 i x8) (stS S P W R) = some (decide (((i : Nat) : Int) < ((R.length : Nat) : Int)), stS S P W R) :=
      tru_ev (op2_ev (var_ev rfl) len6 lt_ev)
    rw [whX, t1, Option.bind_some]
    cases hx : R[i]? with
    | none =>
      rw [hx] at e
      cases e
      have : ¬ ((i : Nat) : Int) < ((R.length : Nat) : Int) := by have := List.getElem?_eq_none_iff.mp hx; omega
      rw [decide_eq_false this]
      exact ⟨i, x8, rfl⟩
    | some x =>
      simp only [hx] at e
      have hi := (List.getElem?_eq_some_iff.mp hx).1
      have : ((i : Nat) : Int) < ((R.length : Nat) : Int) := by omega
      rw [decide_eq_true this, if_pos rfl]
      have gx : G x := hg x (List.mem_of_getElem? hx)
      have sf := srch_for (nA := nA) (x0 := x0) (x4 := x4) (S := S) (P := P) hsc gx (by omega) ((List.range vs.length).map fun p => Val.int ((p : Nat) : Int)) (List.range vs.length) W R x8 (fun p hp => List.mem_range.mp hp) wi hx
      have rng : iRng1M (eFn fLen (es1 (eVar 0))) (slS vs nA x0 S.length x4 i x8) (stS S P W R) = some (⟨(List.range vs.length).map fun p => Val.int ((p : Nat) : Int), none⟩, stS S P W R) := by
        rw [← rng_map]
        refine rng_ev (fn_ev (cons_ev (var_ev rfl) nil_ev) rfl) (by omega)
      cases hs : srchIn Sc P x (List.range vs.length) W R with
      | inl r =>
        obtain ⟨p, W1, R1⟩ := r
        simp only [hs] at e sf
        cases e
        have b1 : sSeq srch_5_1 srch_5_2 (slS vs nA x0 S.length x4 i x8) (stS S P W R) = some (.ret (foundV p S.length), slS vs nA x0 S.length x4 i (some (.int ((p : Nat) : Int))), stS S P W' R') :=
          seq_ret (for_ev rng sf)
        rw [b1, Option.bind_some]
        exact ⟨_, rfl⟩
      | inr r =>
        obtain ⟨W1, R1⟩ := r
        simp only [hs] at e sf
        obtain ⟨wi1, ⟨t, et⟩, x8', sf⟩ := sf
        have b1 : sSeq srch_5_1 srch_5_2 (slS vs nA x0 S.length x4 i x8) (stS S P W R) = some (.nxt, slS vs nA x0 S.length x4 (i + 1) x8', stS S P W1 R1) :=
          seq_ev (for_ev rng sf) rfl
        rw [b1, Option.bind_some]
        exact srch_wh hsc hN hG n m (i + 1) W1 R1 x8' o W' R' (by omega) (hG W R W1 R1 x hs hg) wi1 e
def ansV (o : Option Nat) (m : Nat) : Val := .tup [plV o, .ref (m + 1), .ref (m + 2)]
theorem sp_srch {vs : List Val} {nA n : Nat} {x0 : NestedKey} {Sc : Nat → List NestedKey} {G : NestedKey → Prop} {S : Sto} {A : List (NestedKey × Nat)} {o : Option Nat} {W' : List (Nat × NestedKey)} {R' : List NestedKey} (hsc : ScOk vs Sc G) (hN : vs.length + 2 < 16000) (hG : ∀ W R W' R' x, srchIn Sc (turnA A) x (List.range vs.length) W R = .inr (W', R') → (∀ z ∈ R, G z) → ∀ z ∈ R', G z) (g0 : G x0)
    (hA : S[nA]? = some (.dN (vA A))) (okA : ∀ q ∈ A, keyOk q.1 = true) (nd : (A.map (·.1)).Nodup) (nd2 : (A.map (·.2)).Nodup) (hl : A.length < sizeLine) (hn : n ≤ 4000) (e : srchOut Sc (turnA A) vs.length n 0 [] [x0] = some (o, W', R')) :
    m_srchK [.lst vs, .ref nA, ofK x0] S = some (ansV o S.length, stS S (turnA A) W' R') := by
  have hlt : nA < S.length := (List.getElem?_eq_some_iff.mp hA).1
  have hT : (S.set nA (.lk (.dN (vA A))))[nA]? = some (.lk (.dN (vA A))) := List.getElem?_set_self hlt
  have c1 : srch_1 [some (.lst vs), some (.ref nA), some (ofK x0), none, none, none, none, none, none] S = some (.nxt, [some (.lst vs), some (.ref nA), some (ofK x0), some (.ref S.length), none, none, none, none, none], S ++ [.dK (vW (turnA A))]) := by
    have kk : iKeysN (eVar 1) [some (.lst vs), some (.ref nA), some (ofK x0), none, none, none, none, none, none] (S.set nA (.lk (.dN (vA A)))) = some (⟨(vA A).map fun q => ofK q.1, none⟩, S.set nA (.lk (.dN (vA A)))) := by
      show (match (S.set nA (.lk (.dN (vA A))))[nA]? with | some (.lk (.dN kvs)) => some ((⟨kvs.map fun (q : NestedKey × Val) => ofK q.1, none⟩ : Src), S.set nA (.lk (.dN (vA A)))) | _ => none) = _
      rw [hT]
    have cp := copyK (i := 1) (j := 4) (n := nA) (A := A) (sl := [some (.lst vs), some (.ref nA), some (ofK x0), none, none, none, none, none, none]) (T := S.set nA (.lk (.dN (vA A)))) rfl (Nat.lt_of_sub_eq_succ rfl) (by decide) hT okA nd nd2 hl ((vA A).map fun q => ofK q.1) A [] rfl
    have kl : (vA A).map (fun q => ofK q.1) = A.map fun q => ofK q.1 := by unfold vA; rw [List.map_map]; rfl
    have dc : sSet 3 (eDc (.dK []) (.nm 4) (iKeysN (eVar 1)) tYesM (eOp2 fDGet (eVar 1) (eVar 4)) (eVar 4) [4]) [some (.lst vs), some (.ref nA), some (ofK x0), none, none, none, none, none, none] (S.set nA (.lk (.dN (vA A)))) = some (.nxt, [some (.lst vs), some (.ref nA), some (ofK x0), some (.ref S.length), none, none, none, none, none], S.set nA (.lk (.dN (vA A))) ++ [.dK (vW (turnA A))]) := by
      have h : eDc (.dK []) (.nm 4) (iKeysN (eVar 1)) tYesM (eOp2 fDGet (eVar 1) (eVar 4)) (eVar 4) [4] [some (.lst vs), some (.ref nA), some (ofK x0), none, none, none, none, none, none] (S.set nA (.lk (.dN (vA A)))) = some (.ref S.length, S.set nA (.lk (.dN (vA A))) ++ [.dK (vW (turnA A))]) := by
        unfold eDc
        rw [kk, Option.bind_some]
        show (dcX _ _ _ _ _ _ _ ((vA A).map fun q => ofK q.1) _).map _ = _
        rw [kl] at cp ⊢
        have cp' := cp
        show (dcX (.nm 4) tYesM (eOp2 fDGet (eVar 1) (eVar 4)) (eVar 4) ⟨A.map fun q => ofK q.1, none⟩ [some (.lst vs), some (.ref nA), some (ofK x0), none, none, none, none, none, none] (S.set nA (.lk (.dN (vA A)))).length (A.map fun q => ofK q.1) (S.set nA (.lk (.dN (vA A))) ++ [.dK (vW (turnA []))])).map _ = _
        rw [cp', Option.map_some, List.length_set]
      rw [set_ev h]
      rfl
    unfold srch_1 sLock
    show (lockS S nA).bind _ = _
    have lk : lockS S nA = some (.dN (vA A), S.set nA (.lk (.dN (vA A)))) := by unfold lockS; rw [hA]
    rw [lk, Option.bind_some, dc, Option.bind_some]
    have back : (S.set nA (.lk (.dN (vA A))) ++ [SO.dK (vW (turnA A))]).set nA (.dN (vA A)) = S ++ [.dK (vW (turnA A))] := by
      rw [List.set_append_left _ _ (by rw [List.length_set]; exact hlt), List.set_set]
      congr 1
      refine List.ext_getElem?
            fun j => ?_
      by_cases h : nA = j
      · subst h; rw [List.getElem?_set_self hlt, hA]
      · rw [List.getElem?_set_ne h]
    rw [back]
  have c2 : srch_2 [some (.lst vs), some (.ref nA), some (ofK x0), some (.ref S.length), none, none, none, none, none] (S ++ [.dK (vW (turnA A))]) = some (.nxt, [some (.lst vs), some (.ref nA), some (ofK x0), some (.ref S.length), none, some (.ref (S.length + 1)), none, none, none], S ++ [.dK (vW (turnA A)), .dK []]) := by
    refine (set_ev (v := .ref (S ++ [SO.dK (vW (turnA A))]).length) (S1 := (S ++ [SO.dK (vW (turnA A))]) ++ [.dK []]) rfl).trans ?_
    rw [List.append_assoc, List.length_append]
    rfl
  have c3 : srch_3 [some (.lst vs), some (.ref nA), some (ofK x0), some (.ref S.length), none, some (.ref (S.length + 1)), none, none, none] (S ++ [.dK (vW (turnA A)), .dK []]) = some (.nxt, [some (.lst vs), some (.ref nA), some (ofK x0), some (.ref S.length), none, some (.ref (S.length + 1)), some (.ref (S.length + 2)), none, none], stS S (turnA A) [] [x0]) := by
    refine (set_ev (lstM_ev (cons_ev (var_ev rfl) nil_ev))).trans ?_
    rw [List.append_assoc, List.length_append]
    rfl
  have c4 : srch_4 [some (.lst vs), some (.ref nA), some (ofK x0), some (.ref S.length), none, some (.ref (S.length + 1)), some (.ref (S.length + 2)), none, none] (stS S (turnA A) [] [x0]) = some (.nxt, slS vs nA x0 S.length none 0 none, stS S (turnA A) [] [x0]) := rfl
  have wh := srch_wh (nA := nA) (x0 := x0) (x4 := none) (S := S) (P := turnA A) hsc hN hG n 4000 0 [] [x0] none o W' R' hn (fun z hz => by rw [List.mem_singleton.mp hz]; exact g0) ⟨List.nodup_nil, (fun p hp => by cases hp), rfl⟩ e
  cases o with
  | some p =>
    obtain ⟨sl', wh⟩ := wh
    exact def_keep (sl := sl') rfl (seq_ev c1 (seq_ev c2 (seq_ev c3 (seq_ev c4 (seq_ret wh)))))
  | none =>
    obtain ⟨i', x8', wh⟩ := wh
    refine def_keep (sl := slS vs nA x0 S.length none i' x8') rfl (seq_ev c1 (seq_ev c2 (seq_ev c3 (seq_ev c4 (seq_ev wh ?_)))))
    exact ret_ev (tup_ev (cons_ev con_ev (cons_ev (var_ev rfl) (cons_ev (var_ev rfl) nil_ev))))
end W16
namespace W16
open PySem PySem.Spec PyProof.Rows L2 Mp Pilot Ev Mt
theorem valG_app {α β : Type} [DecidableEq α] (k q : α) (v : β) (A : List (α × β)) : valG (A ++ [(k, v)]) q = match valG A q with | some x => some x | none => if k = q then some v else none := by
  unfold valG
  rw [List.find?_append]
  cases h : A.find? fun kv => decide (kv.1 = q) with
  | some x => rfl
  | none =>
    by_cases e : k = q
    · simp [e]
    · simp [e]
abbrev adjN (Sc : Nat → List NestedKey) (N : Nat) : Nat → NestedKey → Prop := fun p y => p < N ∧ y ∈ Sc p
structure Sx (Sc : Nat → List NestedKey) (N : Nat) (D : List NestedKey) (A : NestedKey → Option Nat) (x0 : NestedKey) (W : List (Nat × NestedKey)) (R : List NestedKey) : Prop where
  s : Srch (adjN Sc N) D A x0 (valG W) R
  paid : ∀ p, (valG W p).isSome = true → ∃ z ∈ R, A z = some p
section
variable {Sc : Nat → List NestedKey} {N : Nat} {D : List NestedKey} {A : NestedKey → Option Nat} {x0 : NestedKey} {P : List (Nat × NestedKey)}
theorem Sx.wished {W : List (Nat × NestedKey)} {R : List NestedKey} {p : Nat} {x : NestedKey} (h : Srch (adjN Sc N) D A x0 (valG W) R) (hp : p < N) (hx : x ∈ R) (ha : x ∈ Sc p) (hn : valG W p = none) : Srch (adjN Sc N) D A x0 (valG (W ++ [(p, x)])) R := by
  refine ⟨h.nd, h.hd, h.new, h.in_, fun q y e => ?_, fun i y hi hy => ?_⟩
  · rw [valG_app] at e
    cases w : valG W q with
    | some z => rw [w] at e; cases e; exact h.wish q _ w
    | none =>
      rw [w] at e
      by_cases z : p = q
      · simp only [z, if_true] at e; cases e; exact ⟨hx, by rw [← z]; exact ⟨hp, ha⟩⟩
      · simp only [z, if_false] at e; cases e
  · obtain ⟨q, j, y', h1, h2, h3, h4⟩ := h.back i y hi hy
    exact ⟨q, j, y', h1, by rw [valG_app, h2], h3, h4⟩
theorem Sx.more {W : List (Nat × NestedKey)} {R : List NestedKey} {p i : Nat} {x y : NestedKey} (hD : ∀ y p, A y = some p → y ∈ D) (h : Sx Sc N D A x0 W R) (hp : p < N) (hx : R[i]? = some x) (ha : x ∈ Sc p) (hn : valG W p = none) (hy : A y = some p) : Sx Sc N D A x0 (W ++ [(p, x)]) (R ++ [y]) := by
  have s1 := Sx.wished h.s hp (List.mem_of_getElem? hx) ha hn
  have hyD := hD y p hy
  have hyx : y ≠ x0 := fun e => h.s.new (e ▸ hyD)
  have hyR : y ∉ R := fun m => by
    obtain ⟨k, hk⟩ := List.getElem?_of_mem m
    obtain ⟨q, j, y', h1, h2, _, _⟩ := h.s.back k y hk hyx
    rw [hy] at h1
    cases h1
    rw [hn] at h2
    cases h2
  refine ⟨⟨?_, ?_, h.s.new, fun z hz => ?_, fun q z e => ⟨List.mem_append_left _ (s1.wish q z e).1, (s1.wish q z e).2⟩, fun k z hk hz => ?_⟩, fun q e => ?_⟩
  · exact List.nodup_append.mpr ⟨h.s.nd, by simp, fun a ha b hb e => hyR (by simp at hb; rw [← hb, ← e]; exact ha)⟩
  · rw [List.getElem?_append_left (List.getElem?_eq_some_iff.mp h.s.hd).1]; exact h.s.hd
  · rcases List.mem_append.mp hz with hz | hz
    · exact h.s.in_ z hz
    · exact .inr (by rw [List.mem_singleton.mp hz]; exact hyD)
  · by_cases l : k < R.length
    · rw [List.getElem?_append_left l] at hk
      obtain ⟨q, j, y', h1, h2, h3, h4⟩ := s1.back k z hk hz
      exact ⟨q, j, y', h1, h2, by rw [List.getElem?_append_left (List.getElem?_eq_some_iff.mp h3).1]; exact h3, h4⟩
    · have zy : z = y := by
        have := List.mem_of_getElem? hk
        rw [List.getElem?_append_right (by omega)] at hk
        exact List.mem_singleton.mp (List.mem_of_getElem? hk)
      have hi := (List.getElem?_eq_some_iff.mp hx).1
      refine ⟨p, i, x, by rw [zy]; exact hy, by rw [valG_app, hn]; simp, by rw [List.getElem?_append_left hi]; exact hx, by omega⟩
  · rw [valG_app] at e
    cases w : valG W q with
    | some z =>
      obtain ⟨u, hu, e⟩ := h.paid q (by rw [w]; rfl)
      exact ⟨u, List.mem_append_left _ hu, e⟩
    | none =>
      rw [w] at e
      by_cases z : p = q
      · exact ⟨y, by simp, by rw [← z]; exact hy⟩
      · simp [z] at e
theorem srchIn_ok (hD : ∀ y p, A y = some p → y ∈ D) (hP : ∀ p y, valG P p = some y ↔ A y = some p) {i : Nat} {x : NestedKey} : ∀ (ps : List Nat) (W : List (Nat × NestedKey)) (R : List NestedKey), (∀ p ∈ ps, p < N) → Sx Sc N D A x0 W R → R[i]? = some x →
    match srchIn Sc P x ps W R with
    | .inl (p, W', R') => Srch (adjN Sc N) D A x0 (valG W') R' ∧ valG W' p = some x ∧ R'[i]? = some x ∧ ∀ z, A z ≠ some p
    | .inr (W', R') => Sx Sc N D A x0 W' R' ∧ (∃ t, R' = R ++ t) ∧ (∀ p, (valG W p).isSome = true → (valG W' p).isSome = true) ∧ ∀ p ∈ ps, x ∈ Sc p → (valG W' p).isSome = true
  | [], W, R, _, h, _ => ⟨h, ⟨[], (List.append_nil _).symm⟩, fun _ e => e, fun p hp => by cases hp⟩
  | p :: ps, W, R, hps, h, hx => by
    have hp := hps p List.mem_cons_self
    have hps' : ∀ q ∈ ps, q < N := fun q hq => hps q (List.mem_cons_of_mem _ hq)
    unfold srchIn
    by_cases c : p ∉ W.map (·.1) ∧ x ∈ Sc p
    · have hn : valG W p = none := by
        have := valG_none p W
        rw [decide_eq_false c.1] at this
        exact Option.not_isSome_iff_eq_none.mp (by rw [this]; decide)
      have self : valG (W ++ [(p, x)]) p = some x := by rw [valG_app, hn]; simp
      rw [if_pos c]
      cases ev : valG P p with
      | none =>
        refine ⟨Sx.wished h.s hp (List.mem_of_getElem? hx) c.2 hn, self, hx, fun z e => ?_⟩
        rw [(hP p z).mpr e] at ev
        cases ev
      | some y =>
        have ih := srchIn_ok hD hP (i := i) (x := x) ps (W ++ [(p, x)]) (R ++ [y]) hps' (h.more hD hp hx c.2 hn ((hP p y).mp ev)) (by rw [List.getElem?_append_left (List.getElem?_eq_some_iff.mp hx).1]; exact hx)
        have grow : ∀ q, (valG W q).isSome = true → (valG (W ++ [(p, x)]) q).isSome = true := fun q e => by
          rw [valG_app]
          obtain ⟨u, hu⟩ := Option.isSome_iff_exists.mp e
          rw [hu]; rfl
        show match srchIn Sc P x ps (W ++ [(p, x)]) (R ++ [y]) with | .inl (p', W', R') => _ | .inr (W', R') => _
        revert ih
        cases srchIn Sc P x ps (W ++ [(p, x)]) (R ++ [y]) with
        | inl r => exact fun ih => ih
        | inr r => exact fun ⟨a, ⟨t, e⟩, g, f⟩ => ⟨a, ⟨y :: t, by rw [e, List.append_assoc]; rfl⟩, fun q hq => g q (grow q hq), fun q hq hxs => (List.mem_cons.mp hq).elim (fun z => g q (by rw [z, self]; rfl)) fun z => f q z hxs⟩
    · rw [if_neg c]
      have ih := srchIn_ok hD hP (i := i) (x := x) ps W R hps' h hx
      revert ih
      cases srchIn Sc P x ps W R with
      | inl r => exact fun ih => ih
      | inr r => exact fun ⟨a, e, g, f⟩ => ⟨a, e, g, fun q hq hxs => (List.mem_cons.mp hq).elim (fun z => g q (by
          have := valG_none q W
          rw [this]
          refine decide_eq_true ?_
          refine Classical.byContradiction fun k => c ⟨by rw [← z]; exact k, by rw [← z]; exact hxs⟩)) fun z => f q z hxs⟩
theorem srchOut_ok (hD : ∀ y p, A y = some p → y ∈ D) (hP : ∀ p y, valG P p = some y ↔ A y = some p) : ∀ (n i : Nat) (W : List (Nat × NestedKey)) (R : List NestedKey) (o : Option Nat) (W' : List (Nat × NestedKey)) (R' : List NestedKey), Sx Sc N D A x0 W R → (∀ j y, j < i → R[j]? = some y → ∀ p, adjN Sc N p y → (valG W p).isSome = true) → srchOut Sc P N n i W R = some (o, W', R') →
    match o with
    | some p => Srch (adjN Sc N) D A x0 (valG W') R' ∧ (∃ (k : Nat) (y : NestedKey), R'[k]? = some y ∧ valG W' p = some y) ∧ ∀ z, A z ≠ some p
    | none => Sx Sc N D A x0 W' R' ∧ ∀ y ∈ R', ∀ p, adjN Sc N p y → (valG W' p).isSome = true
  | 0, _, _, _, _, _, _, _, _, e => by cases e
  | n + 1, i, W, R, o, W', R', h, cl, e => by
    rw [srchOut] at e
    cases hx : R[i]? with
    | none =>
      rw [hx] at e
      cases e
      refine ⟨h, fun y hy p ha => ?_⟩
      obtain ⟨k, hk⟩ := List.getElem?_of_mem hy
      have h1 := (List.getElem?_eq_some_iff.mp hk).1
      have h2 := List.getElem?_eq_none_iff.mp hx
      exact cl k y (by omega) hk p ha
    | some x =>
      simp only [hx] at e
      have si := srchIn_ok (i := i) (x := x) hD hP (List.range N) W R (fun p hp => List.mem_range.mp hp) h hx
      cases hs : srchIn Sc P x (List.range N) W R with
      | inl r =>
        obtain ⟨p, W1, R1⟩ := r
        simp only [hs] at e si
        cases e
        exact ⟨si.1, ⟨i, x, si.2.2.1, si.2.1⟩, si.2.2.2⟩
      | inr r =>
        obtain ⟨W1, R1⟩ := r
        simp only [hs] at e si
        obtain ⟨s1, ⟨t, et⟩, gr, all⟩ := si
        refine srchOut_ok hD hP n (i + 1) W1 R1 o W' R' s1 (fun j y hj hy p ha => ?_) e
        have hi := (List.getElem?_eq_some_iff.mp hx).1
        have hj' : R[j]? = some y := by rw [et, List.getElem?_append_left (by omega)] at hy; exact hy
        by_cases l : j < i
        · exact gr p (cl j y l hj' p ha)
        · obtain rfl : j = i := by omega
          rw [hx] at hj'
          cases hj'
          exact all p (List.mem_range.mpr ha.1) ha.2
theorem srchIn_wi {x : NestedKey} : ∀ (ps : List Nat) (W : List (Nat × NestedKey)) (R : List NestedKey), (∀ p ∈ ps, p < N) → Wi N W R → ∀ W' R', srchIn Sc P x ps W R = .inr (W', R') → Wi N W' R'
  | [], W, R, _, h, _, _, e => by cases e; exact h
  | p :: ps, W, R, hps, h, W', R', e => by
    have hp := hps p List.mem_cons_self
    have hps' : ∀ q ∈ ps, q < N := fun q hq => hps q (List.mem_cons_of_mem _ hq)
    unfold srchIn at e
    by_cases c : p ∉ W.map (·.1) ∧ x ∈ Sc p
    · rw [if_pos c] at e
      cases ev : valG P p with
      | none => rw [ev] at e; cases e
      | some y => rw [ev] at e; exact srchIn_wi ps _ _ hps' (h.add hp c.1) W' R' e
    · rw [if_neg c] at e
      exact srchIn_wi ps _ _ hps' h W' R' e
theorem srchOut_end : ∀ (n i : Nat) (W : List (Nat × NestedKey)) (R : List NestedKey), Wi N W R → N + 2 ≤ i + n → 0 < n → ∃ r, srchOut Sc P N n i W R = some r
  | 0, _, _, _, _, _, h => absurd h (Nat.lt_irrefl 0)
  | n + 1, i, W, R, h, hn, _ => by
    rw [srchOut]
    cases hx : R[i]? with
    | none => exact ⟨_, rfl⟩
    | some x =>
      have hi := (List.getElem?_eq_some_iff.mp hx).1
      have h1 := h.len
      have h2 := h.few
      cases hs : srchIn Sc P x (List.range N) W R with
      | inl r => simp only [hs]; exact ⟨_, rfl⟩
      | inr r =>
        obtain ⟨W1, R1⟩ := r
        simp only [hs]
        exact srchOut_end n (i + 1) W1 R1 (srchIn_wi _ W R (fun p hp => List.mem_range.mp hp) h W1 R1 hs) (by omega) (by omega)
theorem Sx.first (hn : x0 ∉ D) : Sx Sc N D A x0 [] [x0] := by
  refine ⟨⟨by simp, rfl, hn, fun y hy => .inl (List.mem_singleton.mp hy), (fun p y e => by cases e), fun i y hi hy => ?_⟩, fun p e => by cases e⟩
  exact (hy (List.mem_singleton.mp (List.mem_of_getElem? hi))).elim
end
end W16
namespace W16
open PySem PySem.Spec PyProof.Rows L2 Mp Pilot Ev Mt
theorem valG_putG {α β : Type} [DecidableEq α] (k q : α) (v : β) : ∀ B : List (α × β), valG (putG B k v) q = if q = k then some v else valG B q
  | [] => by
    by_cases h : k = q
    · simp [valG, putG, h]
    · have h' : ¬ q = k := fun e => h e.symm
      simp [valG, putG, h, h']
  | b :: B => by
    have ih := valG_putG k q v B
    unfold putG
    by_cases e : b.1 = k
    · rw [if_pos e]
      unfold valG
      rw [List.find?_cons, List.find?_cons]
      by_cases h : q = k
      · simp [h, e]
      · have h' : ¬ b.1 = q := fun z => h (z.symm.trans e)
        simp [h, h']
    · rw [if_neg e]
      unfold valG at *
      rw [List.find?_cons, List.find?_cons]
      by_cases h : b.1 = q
      · have h' : ¬ q = k := fun z => e (h.trans z)
        simp [h, h']
      · simp only [h, decide_false]; exact ih
theorem putG_keys {α β : Type} [DecidableEq α] (k : α) (v : β) : ∀ B : List (α × β), k ∈ B.map (·.1) → (putG B k v).map (·.1) = B.map (·.1)
  | b :: B, h => by
    unfold putG
    by_cases e : b.1 = k
    · rw [if_pos e]; rfl
    · rw [if_neg e, List.map_cons, List.map_cons, putG_keys k v B]
      rcases List.mem_cons.mp h with h | h
      · exact (e h.symm).elim
      · exact h
theorem putG_nd {α β : Type} [DecidableEq α] {k : α} {v : β} {B : List (α × β)} (h : (B.map (·.1)).Nodup) : ((putG B k v).map (·.1)).Nodup := by
  by_cases m : k ∈ B.map (·.1)
  · rw [putG_keys k v B m]; exact h
  · rw [putG_new k v B m, List.map_append]
    exact List.nodup_append.mpr ⟨h, by simp, fun a ha b hb e => m (by simp at hb; rw [← hb, ← e]; exact ha)⟩
theorem upd1_eq (B : List (NestedKey × Nat)) (y : NestedKey) (p : Nat) : valG (putG B y p) = upd1 (valG B) y p := funext fun q => by rw [valG_putG]; rfl
theorem flipL_nd {W : List (Nat × NestedKey)} : ∀ (n : Nat) (B C : List (NestedKey × Nat)) (p : Nat), (B.map (·.1)).Nodup → flipL W n B p = some C → (C.map (·.1)).Nodup
  | 0, _, _, _, _, e => by cases e
  | n + 1, B, C, p, h, e => by
    rw [flipL] at e
    cases w : valG W p with
    | none => rw [w] at e; cases e
    | some y =>
      simp only [w] at e
      cases v : valG B y with
      | none => simp only [v] at e; cases e; exact putG_nd h
      | some q => simp only [v] at e; exact flipL_nd n _ C q (putG_nd h) e
/-- the takers' chain comes to its end -/
theorem flipL_ok {Sc : Nat → List NestedKey} {N : Nat} {D : List NestedKey} {A : NestedKey → Option Nat} {x0 : NestedKey} {W : List (Nat × NestedKey)} {R : List NestedKey} (S : Srch (adjN Sc N) D A x0 (valG W) R) (hA : A x0 = none) : ∀ (i n : Nat) (B : List (NestedKey × Nat)) (p : Nat) (y : NestedKey), i < n → R[i]? = some y → valG W p = some y → (∀ j z, j ≤ i → R[j]? = some z → valG B z = A z) →
    ∃ C, flipL W n B p = some C ∧ valG C = Mt.flip (valG W) n (valG B) p := by
  intro i
  induction i using Nat.strongRecOn with
  | ind i ih =>
    intro n B p y hn hi hw hag
    obtain ⟨n, rfl⟩ : ∃ k, n = k + 1 := ⟨n - 1, by omega⟩
    have hBy := hag i y (Nat.le_refl _) hi
    by_cases hx : y = x0
    · have hb : valG B y = none := by rw [hBy, hx, hA]
      refine ⟨putG B y p, by simp only [flipL, hw, hb], ?_⟩
      simp only [Mt.flip, hw, hb]
      exact upd1_eq B y p
    · obtain ⟨q, j, y', hAy, hq, hj, hji⟩ := S.back i y hi hx
      have hb : valG B y = some q := hBy.trans hAy
      obtain ⟨C, e1, e2⟩ := ih j hji n (putG B y p) q y' (by omega) hj hq fun k z hk hz => by
        have hne : z ≠ y := fun e => by
          have h1 := (List.getElem?_eq_some_iff.mp hz).1
          have := (List.getElem?_inj h1 S.nd).mp (hz.trans (e ▸ hi.symm))
          omega
        rw [valG_putG, if_neg hne]
        exact hag k z (by omega) hz
      refine ⟨C, by simp only [flipL, hw, hb]; exact e1, ?_⟩
      simp only [Mt.flip, hw, hb]
      rw [e2, upd1_eq]
/-- the assignment turned about -/
theorem turn_val {A : List (NestedKey × Nat)} (nd : (A.map (·.1)).Nodup) (nd2 : (A.map (·.2)).Nodup) (p : Nat) (y : NestedKey) : valG (turnA A) p = some y ↔ valG A y = some p := by
  have mem : ∀ {α β : Type} [DecidableEq α] {B : List (α × β)} {k : α} {v : β}, valG B k = some v → (k, v) ∈ B := fun {α β} _ {B k v} e => by
    unfold valG at e
    obtain ⟨q, hq, rfl⟩ := Option.map_eq_some_iff.mp e
    have h1 := List.mem_of_find?_eq_some hq
    have h2 := List.find?_some hq
    rw [← of_decide_eq_true h2]
    exact h1
  have nd' : ((turnA A).map (·.1)).Nodup := by unfold turnA; rw [List.map_map]; exact nd2
  constructor
  · intro e
    have h := mem e
    obtain ⟨q, hq, e2⟩ := List.mem_map.mp h
    cases e2
    exact valG_at A q nd hq
  · intro e
    have h : (p, y) ∈ turnA A := List.mem_map.mpr ⟨(y, p), mem e, rfl⟩
    exact valG_at (turnA A) (p, y) nd' h
end W16
namespace W16
open PySem PySem.Spec PyProof.Rows L2 Mp Pilot Ev Mt
def sa (vs : List Val) (ps : Val) (k : Nat) (x3 x4 x5 x6 : Option Val) : Sl := [some (.lst vs), some ps, some (.ref k), x3, x4, x5, x6]
theorem asgn_found {vs : List Val} {ps : Val} {k p : Nat} {x : NestedKey} {x4 x5 x6 : Option Val} {T : Sto} {A C : List (NestedKey × Nat)} {W : List (Nat × NestedKey)} {R : List NestedKey}
    (h1 : m_srchK [.lst vs, .ref k, ofK x] T = some (ansV (some p) T.length, stS T (turnA A) W R)) (h2 : m_wcoinK [.ref k, .ref (T.length + 1), .int ((p : Nat) : Int)] (stS T (turnA A) W R) = some (.ref (stS T (turnA A) W R).length, stS T (turnA A) W R ++ [.dN (vA C)])) :
    sSeq asgn_2_1 (sSeq asgn_2_2 asgn_2_3) (sa vs ps k (some (ofK x)) x4 x5 x6) T = some (.nxt, sa vs ps (stS T (turnA A) W R).length (some (ofK x)) (some (.int ((p : Nat) : Int))) (some (.ref (T.length + 1))) (some (.ref (T.length + 2))), stS T (turnA A) W R ++ [.dN (vA C)]) := by
  have c1 : asgn_2_1 (sa vs ps k (some (ofK x)) x4 x5 x6) T = some (.nxt, sa vs ps k (some (ofK x)) (some (.int ((p : Nat) : Int))) (some (.ref (T.length + 1))) (some (.ref (T.length + 2))), stS T (turnA A) W R) :=
    asg_ev (call_ev (cons_ev (var_ev rfl) (cons_ev (var_ev rfl) (cons_ev (var_ev rfl) nil_ev))) h1) rfl
  refine seq_ev c1 (seq_ev (if_f (tru_ev (op2_ev (var_ev rfl) con_ev rfl)) skip_ev) ?_)
  exact set_ev (call_ev (cons_ev (var_ev rfl) (cons_ev (var_ev rfl) (cons_ev (var_ev rfl) nil_ev))) h2)
theorem asgn_none {vs : List Val} {ps : Val} {k : Nat} {x : NestedKey} {x4 x5 x6 : Option Val} {T : Sto} {A : List (NestedKey × Nat)} {W : List (Nat × NestedKey)} {R : List NestedKey}
    (h1 : m_srchK [.lst vs, .ref k, ofK x] T = some (ansV none T.length, stS T (turnA A) W R)) (so : sortOk R = true) :
    ∃ ws sl', sSeq asgn_2_1 (sSeq asgn_2_2 asgn_2_3) (sa vs ps k (some (ofK x)) x4 x5 x6) T = some (.ret (.tup [.non, .tup ws]), sl', stS T (turnA A) W R) := by
  have c1 : asgn_2_1 (sa vs ps k (some (ofK x)) x4 x5 x6) T = some (.nxt, sa vs ps k (some (ofK x)) (some .non) (some (.ref (T.length + 1))) (some (.ref (T.length + 2))), stS T (turnA A) W R) :=
    asg_ev (call_ev (cons_ev (var_ev rfl) (cons_ev (var_ev rfl) (cons_ev (var_ev rfl) nil_ev))) h1) rfl
  have hs : fSortL (stS T (turnA A) W R) [.ref (T.length + 2)] = some (.lst (ofKs (R.mergeSort keyLe))) := by
    have hl : lstOf (stS T (turnA A) W R) (.ref (T.length + 2)) = some (R.map ofK) := by
      show (match (stS T (turnA A) W R)[T.length + 2]? with | some (.lst xs) => some xs | _ => none) = _
      rw [show (stS T (turnA A) W R)[T.length + 2]? = some (.lst (R.map ofK)) from sto2]
    simp only [fSortL, hl, Option.bind_some, ← ofKs_map, toKs_ofKs, so, if_true]
  refine ⟨ofKs (R.mergeSort keyLe), sa vs ps k (some (ofK x)) (some .non) (some (.ref (T.length + 1))) (some (.ref (T.length + 2))), ?_⟩
  refine seq_ev c1 (seq_ret (if_t (tru_ev (op2_ev (var_ev rfl) con_ev rfl)) ?_))
  exact ret_ev (tup_ev (cons_ev con_ev (cons_ev (fn_ev (cons_ev (fn_ev (cons_ev (var_ev rfl) nil_ev) hs) nil_ev) rfl) nil_ev)))
end W16
namespace W16
open PySem PySem.Spec PyProof.Rows L2 Mp Pilot Ev Mt
theorem places_nd {Sc : Nat → List NestedKey} {N : Nat} {D : List NestedKey} {A : List (NestedKey × Nat)} (P : Pay (adjN Sc N) D (valG A)) (nd : (A.map (·.1)).Nodup) : (A.map (·.2)).Nodup := by
  have h : A.Pairwise fun a b => a.1 ≠ b.1 := List.pairwise_map.mp nd
  refine List.pairwise_map.mpr (List.Pairwise.imp_of_mem (fun {a b} ha hb hne e => hne ?_) h)
  exact P.inj _ _ b.2 (by rw [valG_at A a nd ha, e]) (valG_at A b nd hb)
theorem srchIn_G {Sc : Nat → List NestedKey} {G : NestedKey → Prop} {P : List (Nat × NestedKey)} {x : NestedKey} (hP : ∀ p y, valG P p = some y → G y) : ∀ (ps : List Nat) (W : List (Nat × NestedKey)) (R : List NestedKey) (W' : List (Nat × NestedKey)) (R' : List NestedKey), srchIn Sc P x ps W R = .inr (W', R') → (∀ z ∈ R, G z) → ∀ z ∈ R', G z
  | [], W, R, W', R', e, h => by cases e; exact h
  | p :: ps, W, R, W', R', e, h => by
    unfold srchIn at e
    by_cases c : p ∉ W.map (·.1) ∧ x ∈ Sc p
    · rw [if_pos c] at e
      cases ev : valG P p with
      | none => rw [ev] at e; cases e
      | some y =>
        rw [ev] at e
        exact srchIn_G hP ps _ _ W' R' e fun z hz => (List.mem_append.mp hz).elim (h z) fun q => by rw [List.mem_singleton.mp q]; exact hP p y ev
    · rw [if_neg c] at e
      exact srchIn_G hP ps _ _ W' R' e h
theorem asgn_for {vs : List Val} {ps : Val} {Sc : Nat → List NestedKey} {G : NestedKey → Prop} (hsc : ScOk vs Sc G) (hN : vs.length + 2 < 2000) (hK : ∀ z, G z → keyOk z = true) (hS : ∀ R : List NestedKey, R.Nodup → (∀ z ∈ R, G z) → sortOk R = true ∧ R.length < 3000) (l0 : List Val) :
    ∀ (xs D : List NestedKey) (A : List (NestedKey × Nat)) (T : Sto) (k : Nat) (x3 x4 x5 x6 : Option Val), T[k]? = some (.dN (vA A)) → Pay (adjN Sc vs.length) D (valG A) → (A.map (·.1)).Nodup → (∀ x ∈ xs, x ∉ D) → xs.Nodup → (∀ y ∈ D, G y) → (∀ x ∈ xs, G x) →
    (∃ C k' y3 y4 y5 y6 l, (T ++ l)[k']? = some (.dN (vA C)) ∧ Pay (adjN Sc vs.length) (xs.reverse ++ D) (valG C) ∧ (C.map (·.1)).Nodup ∧ forX (gNm 3) (sSeq asgn_2_1 (sSeq asgn_2_2 asgn_2_3)) ⟨l0, none⟩ (xs.map ofK) (sa vs ps k x3 x4 x5 x6) T = some (.nxt, sa vs ps k' y3 y4 y5 y6, T ++ l)) ∨
    (¬ CanPay (adjN Sc vs.length) (xs.reverse ++ D) ∧ ∃ v sl' l, forX (gNm 3) (sSeq asgn_2_1 (sSeq asgn_2_2 asgn_2_3)) ⟨l0, none⟩ (xs.map ofK) (sa vs ps k x3 x4 x5 x6) T = some (.ret (.tup [.non, .tup v]), sl', T ++ l))
  | [], D, A, T, k, x3, x4, x5, x6, hT, pay, nd, _, _, _, _ => .inl ⟨A, k, x3, x4, x5, x6, [], by rw [List.append_nil]; exact hT, pay, nd, by rw [List.append_nil]; rfl⟩
  | x :: xs, D, A, T, k, x3, x4, x5, x6, hT, pay, nd, dj, xnd, gD, gX => by
    have hxD := dj x List.mem_cons_self
    have gx := gX x List.mem_cons_self
    have nd2 := places_nd pay nd
    have hD : ∀ y p, valG A y = some p → y ∈ D := fun y p e => (pay.dom y).mp (by rw [e]; rfl)
    have inD : ∀ q ∈ A, q.1 ∈ D := fun q hq => hD q.1 q.2 (valG_at A q nd hq)
    have okA : ∀ q ∈ A, keyOk q.1 = true := fun q hq => hK _ (gD _ (inD q hq))
    have lA : A.length ≤ vs.length := by
      have := few vs.length (A.map (·.2)) nd2 fun p hp => by
        obtain ⟨q, hq, rfl⟩
              := List.mem_map.mp hp
        exact (pay.ok q.1 q.2 (valG_at A q nd hq)).1
      rwa [List.length_map] at this
    have sz : (16000 : Nat) ≤ sizeLine := by decide
    have hP := turn_val nd nd2
    have hG : ∀ W R W' R' z, srchIn Sc (turnA A) z (List.range vs.length) W R = .inr (W', R') → (∀ z ∈ R, G z) → ∀ z ∈ R', G z := fun W R W' R' z e h => srchIn_G (fun p y e => gD y (hD y p ((hP p y).mp e))) _ W R W' R' e h
    have wi0 : Wi vs.length [] [x] := ⟨List.nodup_nil, (fun p hp => by cases hp), rfl⟩
    obtain ⟨⟨o, W', R'⟩, eo⟩ := srchOut_end (Sc := Sc) (P := turnA A) (N := vs.length) (vs.length + 2) 0 [] [x] wi0 (by omega) (by omega)
    have so := srchOut_ok (D := D) (A := valG A) (x0 := x) hD hP (vs.length + 2) 0 [] [x] o W' R' (Sx.first hxD) (fun j y hj => absurd hj (Nat.not_lt_zero _)) eo
    have e1 := sp_srch (n := vs.length + 2) hsc (by omega) hG gx hT okA nd nd2 (by omega) (by omega) eo
    have tg : gNm 3 (sa vs ps k x3 x4 x5 x6) T (ofK x) = some (sa vs ps k (some (ofK x)) x4 x5 x6) := rfl
    have hxA : valG A x = none := Option.not_isSome_iff_eq_none.mp fun h => hxD ((pay.dom x).mp h)
    cases o with
    | none =>
      obtain ⟨sx, cl⟩ := so
      have no : ¬ CanPay (adjN Sc vs.length) (x :: D) := none_ok sx.s pay cl sx.paid
      obtain ⟨v, sl', b⟩ := asgn_none (ps := ps) (x4 := x4) (x5 := x5) (x6 := x6) e1 (hS R' sx.s.nd fun z hz => (sx.s.in_ z hz).elim (fun e => e ▸ gx) (gD z)).1
      refine .inr ⟨fun ⟨f, F⟩ => no (F.less fun y hy => ?_), v, sl', [.dK (vW (turnA A)), .dK (vW W'), .lst (R'.map ofK)], ?_⟩
      · rcases List.mem_cons.mp hy with h | h
        · rw [h]; simp
        · exact List.mem_append_right _ h
      · have ok : (Src.ok ⟨l0, none⟩ T) = true := rfl
        rw [List.map_cons, forX, ok, if_pos rfl, tg, Option.bind_some, b, Option.bind_some]
        rfl
    | some p =>
      obtain ⟨s, ⟨i, y, hi, hw⟩, free⟩ := so
      have gR : ∀ z ∈ R', G z := fun z hz => (s.in_ z hz).elim (fun e => e ▸ gx) (gD z)
      have lR := (hS R' s.nd gR).2
      have il := (List.getElem?_eq_some_iff.mp hi).1
      obtain ⟨C, f1, f2⟩ := flipL_ok s hxA i R'.length A p y il hi hw fun _ _ _ _ => rfl
      have payC : Pay (adjN Sc vs.length) (x :: D) (valG C) := by
        rw [f2]
        exact flip_ok s pay i R'.length (valG A) p y il hi hw (fun _ _ _ _ => rfl) pay free
      have e2 := sp_wcoin (nA := k) (nW := T.length + 1) (S := stS T (turnA A) W' R') (A := A) (C := C) (W := W') (p := p) (n := R'.length)
        (by unfold stS; rw [List.getElem?_append_left (List.getElem?_eq_some_iff.mp hT).1]; exact hT) sto1 (fun q z e => hK z (gR z (s.wish q z e).1)) okA nd (by omega) (by omega) f1
      have b := asgn_found (ps := ps) (x4 := x4) (x5 := x5) (x6 := x6) e1 e2
      have ih := asgn_for (ps := ps) hsc hN hK hS l0 xs (x :: D) C (stS T (turnA A) W' R' ++ [.dN (vA C)]) (stS T (turnA A) W' R').length (some (ofK x)) (some (.int ((p : Nat) : Int))) (some (.ref (T.length + 1))) (some (.ref (T.length + 2))) (by simp) payC (flipL_nd _ _ _ _ nd f1) (fun z hz h => (List.mem_cons.mp h).elim (fun e => (List.nodup_cons.mp xnd).1 (e ▸ hz)) (dj z (List.mem_cons_of_mem _ hz))) (List.nodup_cons.mp xnd).2 (fun z hz => (List.mem_cons.mp hz).elim (fun e => e ▸ gx) (gD z)) (fun z hz => gX z (List.mem_cons_of_mem _ hz))
      have rv : (x :: xs).reverse ++ D = xs.reverse ++ x :: D := by simp
      have st : ∀ l, stS T (turnA A) W' R' ++ [.dN (vA C)] ++ l = T ++ ([.dK (vW (turnA A)), .dK (vW W'), .lst (R'.map ofK)] ++ [.dN (vA C)] ++ l) := fun l => by unfold stS; simp only [List.append_assoc]
      rw [rv]
      rcases ih with ⟨C', k', y3, y4, y5, y6, l, hC', pC', nC', e⟩ | ⟨c, v, sl', l, e⟩
      · exact .inl ⟨C', k', y3, y4, y5, y6, _, by rw [← st l]; exact hC', pC', nC', by rw [← st l]; exact for_cons rfl tg b e⟩
      · exact .inr ⟨c, v, sl', _, by rw [← st l]; exact for_cons rfl tg b e⟩
/-- what assignment_for comes to -/
theorem sp_asgn {vs : List Val} {ps : Val} {xs : List NestedKey} {S : Sto} {Sc : Nat → List NestedKey} {G : NestedKey → Prop} (hsc : ScOk vs Sc G) (hN : vs.length + 2 < 2000) (hK : ∀ z, G z → keyOk z = true) (hS : ∀ R : List NestedKey, R.Nodup → (∀ z ∈ R, G z) → sortOk R = true ∧ R.length < 3000) (nd : xs.Nodup) (gX : ∀ x ∈ xs, G x)
    (hps : ∀ (sl : Sl) (T : Sto), sl[1]? = some (some ps) → iSeq (eVar 1) sl T = some (⟨xs.map ofK, none⟩, T)) :
    (∃ C k l, (S ++ l)[k]? = some (.dN (vA C)) ∧ Pay (adjN Sc vs.length) xs (valG C) ∧ (C.map (·.1)).Nodup ∧ m_asgnK [.lst vs, ps] S = some (.tup [.ref k, .non], S ++ l)) ∨ (¬ CanPay (adjN Sc vs.length) xs ∧ ∃ v l, m_asgnK [.lst vs, ps] S = some (.tup [.non, .tup v], S ++ l)) := by
  have c1 : asgn_1 [some (.lst vs), some ps, none, none, none, none, none] S = some (.nxt, sa vs ps S.length none none none none, S ++ [.dN (vA [])]) := rfl
  have pay0 : Pay (adjN Sc vs.length) [] (valG ([] : List (NestedKey × Nat))) := ⟨fun y => by simp [valG], (fun y p e => by cases e), (fun y z p e => by cases e)⟩
  have rv : ∀ f, Pay (adjN Sc vs.length) (xs.reverse ++ []) f ↔ Pay (adjN Sc vs.length) xs f := fun f => by
    constructor <;> intro F <;> exact ⟨fun y => by rw [F.dom y]; simp, F.ok, F.inj⟩
  have cp : CanPay (adjN Sc vs.length) (xs.reverse ++ []) ↔ CanPay (adjN Sc vs.length) xs := ⟨fun ⟨f, F⟩ => ⟨f, (rv f).mp F⟩, fun ⟨f, F⟩ => ⟨f, (rv f).mpr F⟩⟩
  have sq := hps (sa vs ps S.length none none none none) (S ++ [.dN (vA [])]) rfl
  have main := asgn_for (ps := ps) hsc hN hK hS (xs.map ofK) xs [] [] (S ++ [.dN (vA [])]) S.length none none none none (by simp) pay0 List.nodup_nil (fun _ _ h => by cases h) nd (fun _ h => by cases h) gX
  rcases main with ⟨C, k', y3, y4, y5, y6, l, hC, pC, nC, e⟩ | ⟨c, v, sl', l, e⟩
  · refine .inl ⟨C, k', [.dN (vA [])] ++ l, by rw [← List.append_assoc]; exact hC, (rv _).mp pC, nC, ?_⟩
    rw [← List.append_assoc]
    refine def_keep (sl := sa vs ps k' y3 y4 y5 y6) rfl (seq_ev c1 (seq_ev (for_ev sq e) ?_))
    exact ret_ev (tup_ev (cons_ev (var_ev rfl) (cons_ev con_ev nil_ev)))
  · refine .inr ⟨fun q => c (cp.mpr q), v, [.dN (vA [])] ++ l, ?_⟩
    rw [← List.append_assoc]
    exact def_keep (sl := sl') rfl (seq_ev c1 (seq_ret (for_ev sq e)))
theorem adj_eq (L : List (List NestedKey)) : adjN (fun p => L.getD p []) L.length = adjL L := by
  funext p y
  refine propext ⟨fun ⟨h, m⟩ => ⟨L[p], List.getElem?_eq_getElem h, ?_⟩, fun ⟨s, h, m⟩ => ⟨(List.getElem?_eq_some_iff.mp h).1, ?_⟩⟩
  · have m : y ∈ L.getD p [] := m
    rw [List.getD_eq_getElem?_getD, List.getElem?_eq_getElem h] at m; exact m
  · show y ∈ L.getD p []
    rw [List.getD_eq_getElem?_getD, h]; exact m
theorem sc_ok (L : List (List NestedKey)) (G : NestedKey → Prop) (hG : ∀ z, G z → K5.Fine z) (hL : ∀ s ∈ L, ∀ z ∈ s, K5.Fine z) : ScOk (L.map fun s => Val.tup (ofKs s)) (fun p => L.getD p []) G := by
  intro p hp
  rw [List.length_map] at hp
  refine ⟨.tup (ofKs L[p]), by rw [List.getElem?_map, List.getElem?_eq_getElem hp]; rfl, fun S x gx => ?_⟩
  rw [K5.fIn_tup (hG x gx) (hL _ (List.getElem_mem hp))]
  show _ = some (Val.bl (decide (x ∈ L.getD p [])))
  rw [List.getD_eq_getElem?_getD, List.getElem?_eq_getElem hp]
  simp
end W16
namespace F16
open PySem PySem.Spec PyProof.Rows L2 Mp Pilot Ev
/-! ### the feed -/
abbrev eFld (x : Str) : ME := eOp2 fDGet (eVar 0) (eCon (.str x))
def rdr (cs : List Int) (nx rs dr : Int) : SO := .dK [(.inr "cells", .lst (cs.map Val.int)), (.inr "at", .int nx), (.inr "rest", .int rs), (.inr "draws", .int dr)]
def IsR (R : SO) : Prop := ∃ cs nx rs dr, R = rdr cs nx rs dr
section
variable {sl : Sl} {t : Sto} {cs : List Int} {nx rs dr : Int}
abbrev V0 (sl : Sl) : Prop := sl[0]? = some (some (.ref 0))
theorem fld_cells (h : V0 sl) : eFld "cells" sl (rdr cs nx rs dr :: t) = some (.lst (cs.map Val.int), rdr cs nx rs dr :: t) := op2_ev (var_ev h) con_ev (by rfl)
theorem fld_next (h : V0 sl) : eFld "at" sl (rdr cs nx rs dr :: t) = some (.int nx, rdr cs nx rs dr :: t) := op2_ev (var_ev h) con_ev (by rfl)
theorem fld_rest (h : V0 sl) : eFld "rest" sl (rdr cs nx rs dr :: t) = some (.int rs, rdr cs nx rs dr :: t) := op2_ev (var_ev h) con_ev (by rfl)
theorem fld_draws (h : V0 sl) : eFld "draws" sl (rdr cs nx rs dr :: t) = some (.int dr, rdr cs nx rs dr :: t) := op2_ev (var_ev h) con_ev (by rfl)
theorem four_small : (4 : Nat) < sizeLine := by unfold sizeLine; decide
theorem put_next {v : Int} : dicPut (rdr cs nx rs dr :: t) (.ref 0) (.str "at") (.int v) = some (rdr cs v rs dr :: t) := by
  show (if (4 : Nat) < sizeLine then some _ else none) = _
  rw [if_pos four_small]
  rfl
theorem put_rest {v : Int} : dicPut (rdr cs nx rs dr :: t) (.ref 0) (.str "rest") (.int v) = some (rdr cs nx v dr :: t) := by
  show (if (4 : Nat) < sizeLine then some _ else none) = _
  rw [if_pos four_small]
  rfl
theorem put_draws {v : Int} : dicPut (rdr cs nx rs dr :: t) (.ref 0) (.str "draws") (.int v) = some (rdr cs nx rs v :: t) := by
  show (if (4 : Nat) < sizeLine then some _ else none) = _
  rw [if_pos four_small]
  rfl
end
section
variable {S : Sto}
theorem add_int {a b : Int} : fAdd S (.int a) (.int b) = some (.int (a + b)) := rfl
theorem mod_int {a b : Int} (h : 0 < b) : fMod S (.int a) (.int b) = some (.int (a % b)) := by simp only [fMod, h, if_true]
theorem div_int {a b : Int} (h : 0 < b) (h2 : b < 1073741824) : fDiv S (.int a) (.int b) = some (.int (a / b)) := by simp only [fDiv, h, h2, and_self, if_true]
theorem mul_int {a b : Int} (h : -(2 ^ 64) < a ∧ a < 2 ^ 64) : fMul S (.int a) (.int b) = some (.int (a * b)) := by
  have : mulOk a b = true := by
    unfold mulOk
    rw [decide_eq_true h.1, decide_eq_true h.2]
    rfl
  simp only [fMul, this, if_true]
theorem ordOk_int {a b : Int} : ordOk (.int a) (.int b) = true := by
  simp [ordOk, PySem.W.alike, PyData.depth]
theorem gt_int {a b : Int} : fOrd .Gt S (.int a) (.int b) = some (.bl (decide (b < a))) := by
  simp only [fOrd, toDS, toD, Option.bind_some, ordOk_int, if_true, ordV, PySem.W.dataLt_int, Option.map_some]
theorem lt_int {a b : Int} : fOrd .Lt S (.int a) (.int b) = some (.bl (decide (a < b))) := by
  simp only [fOrd, toDS, toD, Option.bind_some, ordOk_int, if_true, ordV, PySem.W.dataLt_int, Option.map_some]
theorem ge_int {a b : Int} : fOrd .GtE S (.int a) (.int b) = some (.bl (!decide (a < b))) := by
  simp only [fOrd, toDS, toD, Option.bind_some, ordOk_int, if_true, ordV, PySem.W.dataLt_int, Option.map_some]
theorem toDs_int : ∀ cs : List Int, toDs (cs.map Val.int) = some (cs.map PyData.int)
  | [] => rfl
  | c :: cs => by
    show (toD (.int c)).bind (fun d => (toDs (cs.map Val.int)).map fun ds => d :: ds) = _
    rw [toDs_int cs]; rfl
theorem canLay_ints : ∀ cs : List Int, PyData.canLayAll0 (cs.map PyData.int) = true
  | [] => rfl
  | c :: cs => by simp [PyData.canLayAll0, PyData.canLay0, canLay_ints cs]
theorem ne_nil_ints {cs : List Int} : fEq true S (.lst (cs.map Val.int)) (.lst []) = some (.bl (decide (cs ≠ []))) := by
  have e : eqOk (.list (cs.map PyData.int)) (.list []) = true := by
    unfold eqOk
    have : (PyData.list []).depth ≤ 1 := by simp [PyData.depth, PyData.depthAll]
    simp only [PyData.canLay0, canLay_ints, PyData.canLayAll0, Bool.true_and, decide_eq_true_eq]
    omega
  have d1 : toDS S (.lst (cs.map Val.int)) = some (.list (cs.map PyData.int)) := by
    show (toDs (cs.map Val.int)).map PyData.list = _
    rw [toDs_int]; rfl
  have d2 : toDS S (.lst []) = some (.list []) := rfl
  simp only [fEq, d1, d2, Option.bind_some, e, if_true]
  cases cs with
  | nil => rfl
  | cons c cs => rfl
theorem ix_ints {cs : List Int} {i : Int} (h0 : 0 ≤ i) (h1 : i < cs.length) : ∃ c, fIx S (.lst (cs.map Val.int)) (.int i) = some (.int c) := by
  obtain ⟨n, rfl⟩ : ∃ n : Nat, i = (n : Int) := ⟨i.toNat, by omega⟩
  have hi : n < cs.length := by omega
  refine ⟨cs[n], L2.atI_nat ?_⟩
  rw [List.getElem?_map,
        List.getElem?_eq_getElem hi]
  rfl
end
theorem len_ints {S : Sto} {cs : List Int} : fLen S [.lst (cs.map Val.int)] = some (.int (cs.length : Int)) := by
  show some (Val.int ((cs.map Val.int).length : Int)) = _
  rw [List.length_map]
/-! ### a draw -/
theorem sp_draw {R : SO} {t : Sto} {many : Int} (hR : IsR R) (h0 : 0 < many) (h1 : many < 1073741824) : ∃ d R', IsR R' ∧ 0 ≤ d ∧ d < many ∧ m_drawK [.ref 0, .int many] (R :: t) = some (.int d, R' :: t) := by
  obtain ⟨cs, nx, rs, dr, rfl⟩ := hR
  have c0 : ([Val.ref 0, .int many].map some ++ List.replicate (6 - 2) none : Sl) = [some (.ref 0), some (.int many), none, none, none, none] := rfl
  have e1 : draw_1 [some (.ref 0), some (.int many), none, none, none, none] (rdr cs nx rs dr :: t) = some (.nxt, [some (.ref 0), some (.int many), none, none, none, none], rdr cs nx rs (dr + 1) :: t) :=
    dput_ev (op2_ev (fld_draws rfl) con_ev add_int) (var_ev rfl) con_ev put_draws
  by_cases hp : 0 < rs
  · refine ⟨rs % many, rdr cs nx (rs / many) (dr + 1), ⟨_, _, _, _, rfl⟩, Int.emod_nonneg _ (by omega), Int.emod_lt_of_pos _ h0, ?_⟩
    refine def_keep (sl := [some (.ref 0), some (.int many), some (.int (rs % many)), none, none, none]) rfl ?_
    rw [c0]
    refine seq_ev e1 ?_
    have e2 : draw_2 [some (.ref 0), some (.int many), none, none, none, none] (rdr cs nx rs (dr + 1) :: t) = some (.ret (.int (rs % many)), [some (.ref 0), some (.int many), some (.int (rs % many)), none, none, none], rdr cs nx (rs / many) (dr + 1) :: t) := by
      refine if_t (S1 := rdr cs nx rs (dr + 1) :: t) (tru_ev (op2_ev (fld_rest rfl) con_ev (by rw [gt_int, decide_eq_true hp]))) ?_
      refine seq_ev (set_ev (op2_ev (fld_rest rfl) (var_ev rfl) (mod_int h0))) ?_
      refine seq_ev (dput_ev (op2_ev (fld_rest rfl) (var_ev rfl) (div_int h0 h1)) (var_ev rfl) con_ev put_rest) ?_
      exact ret_ev (var_ev rfl)
    simp only [sSeq, e2, Option.bind_some]
  · have e2 : draw_2 [some (.ref 0), some (.int many), none, none, none, none] (rdr cs nx rs (dr + 1) :: t) = some (.nxt, [some (.ref 0), some (.int many), none, none, none, none], rdr cs nx rs (dr + 1) :: t) :=
      if_f (S1 := rdr cs nx rs (dr + 1) :: t) (tru_ev (op2_ev (fld_rest rfl) con_ev (by rw [gt_int, decide_eq_false hp]))) rfl
    have e3 : draw_3 [some (.ref 0), some (.int many), none, none, none, none] (rdr cs nx rs (dr + 1) :: t) = some (.nxt, [some (.ref 0), some (.int many), none, some (.int nx), none, none], rdr cs nx rs (dr + 1) :: t) := set_ev (fld_next rfl)
    have e3b : draw_4 [some (.ref 0), some (.int many), none, some (.int nx), none, none] (rdr cs nx rs (dr + 1) :: t) = some (.nxt, [some (.ref 0), some (.int many), none, some (.int nx), none, none], rdr cs (nx + 1) rs (dr + 1) :: t) :=
      dput_ev (op2_ev (var_ev rfl) con_ev add_int) (var_ev rfl) con_ev put_next
    have e3c : ∃ cell, draw_5 [some (.ref 0), some (.int many), none, some (.int nx), none, none] (rdr cs (nx + 1) rs (dr + 1) :: t) = some (.nxt, [some (.ref 0), some (.int many), none, some (.int nx), some (.int cell), none], rdr cs (nx + 1) rs (dr + 1) :: t) := by
      by_cases hc : cs = []
      · refine ⟨43, set_ev (ifE_f (S1 := rdr cs (nx + 1) rs (dr + 1) :: t) (tru_ev (op2_ev (fld_cells rfl) (lst_ev nil_ev) ?_)) con_ev)⟩
        rw [ne_nil_ints, decide_eq_false (fun q => q hc)]
      · have hl : 0 < cs.length := List.length_pos_iff.mpr hc
        obtain ⟨c, ec⟩ := ix_ints (S := rdr cs (nx + 1) rs (dr + 1) :: t) (cs := cs) (i := nx % (cs.length : Int)) (Int.emod_nonneg _ (by omega)) (Int.emod_lt_of_pos _ (by omega))
        refine ⟨c, set_ev (ifE_t (S1 := rdr cs (nx + 1) rs (dr + 1) :: t) (tru_ev (op2_ev (fld_cells rfl) (lst_ev nil_ev) ?_)) (op2_ev (fld_cells rfl) (op2_ev (var_ev rfl) (fn_ev (cons_ev (fld_cells rfl) nil_ev) len_ints) (mod_int (by omega))) ec))⟩
        rw [ne_nil_ints, decide_eq_true hc]
    obtain ⟨cell, e3c⟩ := e3c
    have front : ∀ r, draw_6 [some (.ref 0), some (.int many), none, some (.int nx), some (.int cell), none] (rdr cs (nx + 1) rs (dr + 1) :: t) = r → b_draw [some (.ref 0), some (.int many), none, none, none, none] (rdr cs nx rs dr :: t) = sSeq (fun _ _ => r) (sSeq draw_7 (sSeq draw_8 draw_9)) [some (.ref 0), some (.int many), none, some (.int nx), some (.int cell), none] (rdr cs (nx + 1) rs (dr + 1) :: t) := fun r h => by
      refine seq_ev e1 (seq_ev e2 (seq_ev e3 (seq_ev e3b (seq_ev e3c ?_))))
      simp only [sSeq, h]
    have hpow : fPow (rdr cs (nx + 1) rs (dr + 1) :: t) (.int 10) (.int 18) = some (.int (10 ^ 18)) := by rfl
    by_cases hb : ¬ (cell < 10 ^ 18) ∧ nx < (cs.length : Int)
    · refine ⟨cell % many, rdr cs (nx + 1) (cell / many) (dr + 1), ⟨_, _, _, _, rfl⟩, Int.emod_nonneg _ (by omega), Int.emod_lt_of_pos _ h0, ?_⟩
      refine def_keep (sl := [some (.ref 0), some (.int many), none, some (.int nx), some (.int cell), none]) rfl ?_
      rw [c0]
      have e4 : draw_6 [some (.ref 0), some (.int many), none, some (.int nx), some (.int cell), none] (rdr cs (nx + 1) rs (dr + 1) :: t) = some (.ret (.int (cell % many)), [some (.ref 0), some (.int many), none, some (.int nx), some (.int cell), none], rdr cs (nx + 1) (cell / many) (dr + 1) :: t) := by
        refine if_t (S1 := rdr cs (nx + 1) rs (dr + 1) :: t) (and_t (S1 := rdr cs (nx + 1) rs (dr + 1) :: t) (tru_ev (op2_ev (var_ev rfl) (op2_ev con_ev con_ev hpow) (by rw [ge_int, decide_eq_false hb.1]; rfl))) (tru_ev (op2_ev (var_ev rfl) (fn_ev (cons_ev (fld_cells rfl) nil_ev) len_ints) (by rw [lt_int, decide_eq_true hb.2])))) ?_
        refine seq_ev (dput_ev (op2_ev (var_ev rfl) (var_ev rfl) (div_int h0 h1)) (var_ev rfl) con_ev put_rest) ?_
        exact ret_ev (op2_ev (var_ev rfl) (var_ev rfl) (mod_int h0))
      rw [front _ e4]
      simp only [sSeq, Option.bind_some]
    · have e4 : draw_6 [some (.ref 0), some (.int many), none, some (.int nx), some (.int cell), none] (rdr cs (nx + 1) rs (dr + 1) :: t) = some (.nxt, [some (.ref 0), some (.int many), none, some (.int nx), some (.int cell), none], rdr cs (nx + 1) rs (dr + 1) :: t) := by
        refine if_f (S1 := rdr cs (nx + 1) rs (dr + 1) :: t) ?_ rfl
        by_cases hb1 : cell < 10 ^ 18
        · exact and_f (tru_ev (op2_ev (var_ev rfl) (op2_ev con_ev con_ev hpow) (by rw [ge_int, decide_eq_true hb1]; rfl)))
        · refine and_t (S1 := rdr cs (nx + 1) rs (dr + 1) :: t) (tru_ev (op2_ev (var_ev rfl) (op2_ev con_ev con_ev hpow) (by rw [ge_int, decide_eq_false hb1]; rfl))) (tru_ev (op2_ev (var_ev rfl) (fn_ev (cons_ev (fld_cells rfl) nil_ev) len_ints) (by rw [lt_int, decide_eq_false fun q => hb ⟨hb1, q⟩])))
      generalize hm1 : (cell % 2147483587 + 60621 * (dr + 1) + 19) % 2147483647 = m1
      have r1 : 0 ≤ m1 ∧ m1 < 2147483647 := by rw [← hm1]; exact ⟨Int.emod_nonneg _ (by decide), Int.emod_lt_of_pos _ (by decide)⟩
      generalize hm2 : (m1 * m1 + 8233 * (dr + 1) + 41) % 2147483489 = m2
      have r2 : 0 ≤ m2 ∧ m2 < 2147483489 := by rw [← hm2]; exact ⟨Int.emod_nonneg _ (by decide), Int.emod_lt_of_pos _ (by decide)⟩
      refine ⟨((m2 * m2 + 69 * m2) % 2147483323 / 32) % many, rdr cs (nx + 1) rs (dr + 1), ⟨_, _, _, _, rfl⟩, Int.emod_nonneg _ (by omega), Int.emod_lt_of_pos _ h0, ?_⟩
      refine def_keep (sl := [some (.ref 0), some (.int many), none, some (.int nx), some (.int cell), some (.int m2)]) rfl ?_
      rw [c0, front _ e4]
      refine seq_ev (sl1 := [some (.ref 0), some (.int many), none, some (.int nx), some (.int cell), none]) (S1 := rdr cs (nx + 1) rs (dr + 1) :: t) rfl ?_
      refine seq_ev (set_ev (v := .int m1) (op2_ev (op2_ev (op2_ev (op2_ev (var_ev rfl) con_ev (mod_int (by decide))) (op2_ev con_ev (fld_draws rfl) (mul_int (by decide))) add_int) con_ev add_int) con_ev (by rw [mod_int (by decide), hm1]))) ?_
      refine seq_ev (set_ev (v := .int m2) (op2_ev (op2_ev (op2_ev (op2_ev (var_ev rfl) (var_ev rfl) (mul_int (by omega))) (op2_ev con_ev (fld_draws rfl) (mul_int (by decide))) add_int) con_ev add_int) con_ev (by rw [mod_int (by decide), hm2]))) ?_
      exact ret_ev (op2_ev (op2_ev (op2_ev (op2_ev (op2_ev (var_ev rfl) (var_ev rfl) (mul_int (by omega))) (op2_ev con_ev (var_ev rfl) (mul_int (by decide))) add_int) con_ev (mod_int (by decide))) con_ev (div_int (by decide) (by decide))) (var_ev rfl) (mod_int h0))
end F16
namespace F16
open PySem PySem.Spec PyProof.Rows L2 Mp Pilot Ev
abbrev NK := NestedKey
abbrev sV (r : List Str) : List Val := r.map Val.str
abbrev vR (r : List Str) : Val := .tup (sV r)
abbrev gV (G : List NK) : Val := .tup (ofKs G)
def N3 : List Str := ["a", "bb", "zzzzzzzz"]
def W5 : List Str := ["p", "q", "r", "s", "tttttttt"]
theorem W5_ok : ∀ c ∈ W5, PyData.strOk c = true := by decide +kernel
theorem N3_ok : ∀ c ∈ N3, PyData.strOk c = true := by decide +kernel
/-! ### pairs -/
def Pq (k : NK) : Prop := ∃ i ∈ N3, ∃ c ∈ W5, k = K5.pK i c
def allQ : List NK := N3.flatMap fun i => W5.map fun c => K5.pK i c
theorem Pq.mem {k : NK} (h : Pq k) : k ∈ allQ := by
  obtain ⟨i, hi, c, hc, rfl⟩ := h
  exact List.mem_flatMap.mpr ⟨i, hi, List.mem_map_of_mem hc⟩
theorem Pq.fine {k : NK} (h : Pq k) : K5.Fine k := by
  obtain ⟨i, hi, c, hc, rfl⟩ := h
  refine ⟨?_, by simp [K5.pK, NestedKey.depth, NestedKey.depthAll]⟩
  show (PyData.strOk i && (PyData.strOk c && true)) = true
  rw [N3_ok i hi, W5_ok c hc]; rfl
theorem Pq.tup {k : NK} (h : Pq k) : ∃ xs, k = .tup xs := by
  obtain ⟨i, hi, c, hc, rfl⟩ := h
  exact ⟨_, rfl⟩
theorem Pq.key {k : NK} (h : Pq k) : keyOk k = true := by
  obtain ⟨i, hi, c, hc, rfl⟩ := h
  show (decide ((K5.pK i c).depth ≤ 8) && true) = true
  simp [K5.pK, NestedKey.depth, NestedKey.depthAll]
theorem Pq.sz {k : NK} (h : Pq k) : vsz (ofK k) ≤ 4 := by
  obtain ⟨i, hi, c, hc, rfl⟩ := h
  simp [K5.pK, ofK, ofKs, vsz, vszs]
theorem pq_len {ks : List NK} (nd : ks.Nodup) (h : ∀ k ∈ ks, Pq k) : ks.length ≤ 15 :=
  Nat.le_trans (nd.length_le_of_subset fun k hk => (h k hk).mem : _ ≤ allQ.length) (by decide)
theorem pq_sort {ks : List NK} (h : ∀ k ∈ ks, Pq k) : sortOk ks = true := K5.sortOk_of (fun a ha b hb => by
    obtain ⟨i, _, c, _, rfl⟩ := h a ha
    obtain ⟨j, _, d, _, rfl⟩ := h b hb
    exact K5.alike_rK [i, c] [j, d]) (fun k hk => (h k hk).tup) fun k hk => (h k hk).fine
theorem pq_set {ks : List NK} (h : ∀ k ∈ ks, Pq k) : setOk ks = true := K5.setOk_of (fun k hk => (h k hk).tup) (fun k hk => (h k hk).fine) (by
    have := pq_len (nodup_uniq ks) fun k hk => h k (mem_uniq.mp hk)
    omega)
mutual
theorem nr_ofK : ∀ k : NestedKey, nr (ofK k) = true
  | .none => rfl
  | .num _ => rfl
  | .text _ => rfl
  | .tup ks => by simp only [ofK, nr]; exact nrs_ofKs ks
theorem nrs_ofKs : ∀ ks : List NestedKey, nrs (ofKs ks) = true
  | [] => rfl
  | k :: ks => by simp only [ofKs, nrs, nr_ofK k, nrs_ofKs ks, Bool.and_self]
end
/-! ### dicts as sets -/
def tr (ks : List NK) : List (NK × Val) := ks.map fun k => (k, .bl true)
def addK (ks : List NK) (k : NK) : List NK := if k ∈ ks then ks else ks ++ [k]
theorem put_tr (k : NK) : ∀ ks : List NK, putG (tr ks) k (.bl true) = tr (addK ks k)
  | [] => rfl
  | j :: ks => by
    have ih := put_tr k ks
    have e : putG (tr (j :: ks)) k (.bl true) = if j = k then tr (j :: ks) else (j, .bl true) :: putG (tr ks) k (.bl true) := rfl
    rw [e, ih]
    unfold addK
    by_cases h : j = k
    · subst h
      rw [if_pos rfl, if_pos List.mem_cons_self]
    · rw [if_neg h]
      by_cases h2 : k ∈ ks
      · rw [if_pos h2, if_pos (List.mem_cons_of_mem _ h2)]; rfl
      · rw [if_neg h2, if_neg fun q => (List.mem_cons.mp q).elim (fun q => h q.symm) h2]; rfl
theorem addK_mem {k j : NK} {ks : List NK} : j ∈ addK ks k ↔ j ∈ ks ∨ j = k := by
  unfold addK
  by_cases h : k ∈ ks
  · rw [if_pos h]
    exact ⟨.inl, fun q => q.elim id fun q => q ▸ h⟩
  · rw [if_neg h, List.mem_append, List.mem_singleton]
theorem addK_nd {k : NK} {ks : List NK} (nd : ks.Nodup) : (addK ks k).Nodup := by
  unfold addK
  by_cases h : k ∈ ks
  · rw [if_pos h]; exact nd
  · rw [if_neg h]
    exact List.nodup_append.mpr ⟨nd, by simp, fun a ha b hb e => by
      rw [List.mem_singleton.mp hb] at e
      exact h (e ▸ ha)⟩
theorem addK_len {k : NK} {ks : List NK} : (addK ks k).length ≤ ks.length + 1 ∧ 1 ≤ (addK ks k).length := by
  unfold addK
  by_cases h : k ∈ ks
  · rw [if_pos h]
    have := List.length_pos_of_mem h
    omega
  · rw [if_neg h]; simp
theorem putAll_tr : ∀ (ps ks : List NK), putAll (tr ks) (tr ps) = tr (ps.foldl addK ks)
  | [], ks => rfl
  | p :: ps, ks => by
    show putAll (putG (tr ks) p (.bl true)) (tr ps) = _
    rw [put_tr, putAll_tr ps]
    rfl
theorem fold_mem {j : NK} : ∀ {ps ks : List NK}, j ∈ ps.foldl addK ks ↔ j ∈ ks ∨ j ∈ ps
  | [], ks => by simp
  | p :: ps, ks => by
    rw [List.foldl_cons, fold_mem, addK_mem, List.mem_cons, or_assoc]
theorem fold_nd : ∀ {ps ks : List NK}, ks.Nodup → (ps.foldl addK ks).Nodup
  | [], _, h => h
  | p :: ps, ks, h => by
    show (ps.foldl addK (addK ks p)).Nodup
    exact fold_nd (ps := ps) (addK_nd h)
theorem keysOk_tr {ks : List NK} (h : ∀ k ∈ ks, keyOk k = true) : keysOk (tr ks) = true := by
  unfold keysOk tr
  rw [List.all_map]
  exact List.all_eq_true.mpr h
theorem dput_tr {S : Sto} {n : Nat} {ks : List NK} {k : NK} (h : S[n]? = some (.dN (tr ks))) (ok : ∀ k ∈ ks, keyOk k = true) (kok : keyOk k = true) (hl : ks.length < 4000) : dicPut S (.ref n) (ofK k) (.bl true) = some (S.set n (.dN (tr (addK ks k)))) := by
  have big := sizes
  simp only [dicPut, h, toK_ofK, Option.bind_some, kok, keysOk_tr ok, Bool.true_and]
  rw [if_pos (by rw [decide_eq_true_eq]; show (tr ks).length < _; unfold tr; rw [List.length_map]; omega), put_tr]
theorem sortD_tr {S : Sto} {n : Nat} {ks : List NK} (h : S[n]? = some (.dN (tr ks))) (ok : ∀ k ∈ ks, keyOk k = true) (so : sortOk ks = true) : fSortD S [.ref n] = some (.lst (ofKs (ks.mergeSort keyLe))) := by
  have e : dnKeys S (.ref n) = some ks := by
    simp only [dnKeys, dnOf, h, Option.bind_some, keysOk_tr ok, if_true]
    show some ((tr ks).map (·.1)) = some ks
    unfold tr
    rw [List.map_map]
    exact congrArg some (List.map_id ks)
  simp only [fSortD, e, Option.bind_some, so, if_true]
theorem isDn_ev {S : Sto} {n : Nat} {kvs : List (NK × Val)} (h : S[n]? = some (.dN kvs)) : isDn S (.ref n) = true := by simp only [isDn, h]
theorem prsOf_true : ∀ l : List NK, prsOf (l.map fun p => Val.tup [ofK p, .bl true]) = some (tr l)
  | [] => rfl
  | p :: l => by
    simp only [List.map_cons, prsOf, toK_ofK, Option.bind_some, prsOf_true l, Option.map_some]
    rfl
theorem fUpd_tr {S : Sto} {n : Nat} {ks ps : List NK} (h : S[n]? = some (.dN (tr ks))) (ok : ∀ k ∈ ks, keyOk k = true) (pok : ∀ k ∈ ps, keyOk k = true) (hl : ks.length + ps.length ≤ 4000) : fUpd S (.ref n) [.lst (ps.map fun p => Val.tup [ofK p, .bl true])] = some (.non, S.set n (.dN (tr (ps.foldl addK ks)))) := by
  have big := sizes
  simp only [fUpd, h, lstOf, Option.bind_some, prsOf_true, keysOk_tr ok, keysOk_tr pok, Bool.true_and]
  rw [if_pos (by rw [decide_eq_true_eq]; unfold tr; rw [List.length_map, List.length_map]; omega), putAll_tr]
/-! ### general -/
theorem len_lst {S : Sto} {xs : List Val} : fLen S [.lst xs] = some (.int (xs.length : Int)) := rfl
theorem leave_len {S S1 : Sto} {v : Val} (h : S1.length = S.length) : leaveS S.length v S1 = some (v, S1) := by
  unfold leaveS
  rw [if_pos h]
theorem def_len {S S1 : Sto} {sl : Sl} {v : Val} {xs : List Val} {body : MS} {n np : Nat} (hl : xs.length = np) (hb : body (xs.map some ++ List.replicate (n - np) none) S = some (.ret v, sl, S1)) (h : S1.length = S.length) : defM false body n np xs S = some (v, S1) := def_leave hl hb (leave_len h)
theorem isR_in {R : SO} (h : IsR R) : SO.inB 1 R = true := by
  obtain ⟨cs, nx, rs, dr, rfl⟩ := h
  have : nrs (cs.map Val.int) = true := by
    induction cs with
    | nil => rfl
    | cons c cs ih => simp only [List.map_cons, nrs, nr, ih, Bool.and_self]
  have := nrs_in (n := 1) _ this
  simp [rdr, SO.inB, Val.inBs, Val.inB, this]
theorem SB1 {R : SO} (h : IsR R) : SB [R] := by
  show ([R] : Sto).all (SO.inB 1) = true
  simp [isR_in h]
theorem rng_evS {m : ME} {sl : Sl} {S S1 : Sto} {k : Int} (h : m sl S = some (.int k, S1)) (h0 : 0 ≤ k) (hn : k ≤ 1000) : iRng1M m sl S = some (⟨(List.range k.toNat).map fun i : Nat => Val.int (i : Int), none⟩, S1) := by
  obtain ⟨n, rfl⟩ : ∃ n : Nat, k = (n : Int) := ⟨k.toNat, by omega⟩
  rw [← rng_map]
  exact rng_ev h (by omega)
theorem lc_genR {α β : Type} (f : α → Val) (g : β → Val) (P : α → β → Prop) {i : Nat} {m : ME} {s : Src} {sl : Sl} (I : Sto → Prop) (hs : ∀ S, I S → s.ok S = true) : ∀ (l : List α) {S : Sto}, (∀ x ∈ l, ∀ S, I S → ∃ y S', m (sl.set i (some (f x))) S = some (g y, S') ∧ I S' ∧ P x y) → I S →
    ∃ (ys : List β) (S' : Sto), lcX (.nm i) tYesM m s sl (l.map f) S = some (ys.map g, S') ∧ I S' ∧ ys.length = l.length ∧ ∀ y ∈ ys, ∃ x ∈ l, P x y
  | [], S, _, h => ⟨[], S, by simp [lcX, hs S h], h, rfl, fun y h => (List.not_mem_nil h).elim⟩
  | x :: l, S, st, h => by
    obtain ⟨y, S1, e1, h1, p1⟩ := st x List.mem_cons_self S h
    obtain ⟨ys, S2, e2, h2, h3, h4⟩ := lc_genR f g P I hs l (fun y hy => st y (List.mem_cons_of_mem _ hy)) h1
    refine ⟨y :: ys, S2, ?_, h2, by simp [h3], fun v hv => ?_⟩
    · simp only [List.map_cons, lcX, hs S h, if_true, Tn.m, gNm, Option.bind_some, tYesM, e1, e2]
    · rcases List.mem_cons.mp hv with rfl | hv
      · exact ⟨x, List.mem_cons_self, p1⟩
      · obtain ⟨x', a, b⟩ := h4 v hv
        exact ⟨x', List.mem_cons_of_mem _ a, b⟩
theorem sp_feed {v : Val} {ns : List Int} (h : v = .scr (ns.map Val.int) ∨ v = .lst (ns.map Val.int)) : ∃ R, IsR R ∧ m_feedK [v] [] = some (.ref 0, [R]) := by
  have hc : ∃ cs : List Int, cutG (ns.map Val.int) none (some 63) = cs.map Val.int := ⟨(ns.drop (HT.sIx (ns.map Val.int).length 0 none)).take (HT.sIx (ns.map Val.int).length (ns.map Val.int).length (some 63) - HT.sIx (ns.map Val.int).length 0 none), by
    unfold cutG
    rw [List.map_take, List.map_drop]⟩
  obtain ⟨cs, e⟩ := hc
  refine ⟨rdr cs 0 0 0, ⟨_, _, _, _, rfl⟩, def_keep (sl := [some v]) rfl (ret_ev ?_)⟩
  have e1 : eSl (eVar 0) oNo (oSo (eCon (.int 63))) [some v] [] = some (.lst (cs.map Val.int), []) := by
    refine sl_ev (v := v) (lo := none) (hi := some 63) (S1 := []) (S2 := []) (var_ev rfl) rfl (so_ev con_ev) ?_
    rcases h with rfl | rfl
    · show some (Val.lst (cutG (ns.map Val.int) none (some 63))) = _
      rw [e]
    · show some (Val.lst (cutG (ns.map Val.int) none (some 63))) = _
      rw [e]
  have e2 : esAll [(eFn fLstOf (es1 (eSl (eVar 0) oNo (oSo (eCon (.int 63)))))), (eCon (.int 0)), (eCon (.int 0)), (eCon (.int 0))] [some v] [] = some ([.lst (cs.map Val.int), .int 0, .int 0, .int 0], []) :=
    cons_ev (fn_ev (vs := [.lst (cs.map Val.int)]) (S1 := []) (cons_ev e1 nil_ev) rfl) (cons_ev con_ev (cons_ev con_ev (cons_ev con_ev nil_ev)))
  show eDisp ((["cells", "at", "rest", "draws"] : List Str).map Sum.inr) _ [some v] [] = _
  simp only [eDisp, e2, Option.bind_some]
  rfl
section
variable {t : Sto} {R : SO}
theorem draw_ev {sl : Sl} {a : ME} {many : Int} (hR : IsR R) (h : sl[0]? = some (some (.ref 0))) (ha : a sl (R :: t) = some (.int many, R :: t)) (h0 : 0 < many) (h1 : many < 1073741824) : ∃ d R', IsR R' ∧ 0 ≤ d ∧ d < many ∧ eCall m_drawK (es2 (eVar 0) a) sl (R :: t) = some (.int d, R' :: t) := by
  obtain ⟨d, R', a1, a2, a3, a4⟩ := sp_draw (t := t) hR h0 h1
  exact ⟨d, R', a1, a2, a3, call_ev (cons_ev (var_ev h) (cons_ev ha nil_ev)) a4⟩
theorem sp_choi {v : Val} {xs : List Val} (hR : IsR R) (hv : v = .lst xs ∨ v = .tup xs) (h0 : xs ≠ []) (h1 : xs.length < 1000) : ∃ y R', y ∈ xs ∧ IsR R' ∧ m_choiK [.ref 0, v] (R :: t) = some (y, R' :: t) := by
  have hp : 0 < xs.length := List.length_pos_iff.mpr h0
  have el : fLen (R :: t) [v] = some (.int (xs.length : Int)) := by rcases hv with rfl | rfl <;> rfl
  obtain ⟨d, R', hR', d0, d1, e⟩ := draw_ev (t := t) (sl := [some (.ref 0), some v]) (a := eFn fLen (es1 (eVar 1))) hR rfl (fn_ev (vs := [v]) (cons_ev (var_ev rfl) nil_ev) el) (by omega) (by omega)
  obtain ⟨n, rfl⟩ : ∃ n : Nat, d = (n : Int) := ⟨d.toNat, by omega⟩
  have hn : n < xs.length := by omega
  refine ⟨xs[n], R', List.getElem_mem _, hR', ?_⟩
  have ei : fIx (R' :: t) v (.int (n : Int)) = some xs[n] := by
    have : L2.atI xs (n : Int) = some xs[n] := L2.atI_nat (List.getElem?_eq_getElem hn)
    rcases hv with rfl | rfl
    · exact this
    · exact this
  exact def_keep rfl (show choi_1 [some (.ref 0), some v] (R :: t) = _ from ret_ev (op2_ev (x := v) (y := .int (n : Int)) (var_ev rfl) e ei))
theorem choi_ev {sl : Sl} {a : ME} {v : Val} {xs : List Val} (hR : IsR R) (h : sl[0]? = some (some (.ref 0))) (ha : a sl (R :: t) = some (v, R :: t)) (hv : v = .lst xs ∨ v = .tup xs) (h0 : xs ≠ []) (h1 : xs.length < 1000) : ∃ y R', y ∈ xs ∧ IsR R' ∧ eCall m_choiK (es2 (eVar 0) a) sl (R :: t) = some (y, R' :: t) := by
  obtain ⟨y, R', a1, a2, a3⟩ := sp_choi (t := t) hR hv h0 h1
  exact ⟨y, R', a1, a2, call_ev (cons_ev (var_ev h) (cons_ev ha nil_ev)) a3⟩
end
end F16
namespace Ev
open PySem PySem.Spec PyProof.Rows L2 Mp Pilot
/-! ### stores without references inside -/
def soc : SO → Bool
  | .lst xs => nrs xs
  | .dK kvs => nrs (kvs.map (·.2))
  | .dN kvs => nrs (kvs.map fun p => ofK p.1) && nrs (kvs.map (·.2))
  | .lk _ => false
def SC (S : Sto) : Prop := ∀ o ∈ S, soc o = true
theorem SC.sb {S : Sto} (h : SC S) : SB S := by
  unfold SB
  rw [List.all_eq_true]
  intro o ho
  have q := h o ho
  cases o with
  | lst xs => exact nrs_in xs q
  | dK kvs => exact nrs_in _ q
  | dN kvs =>
    simp only [soc, Bool.and_eq_true] at q
    simp only [SO.inB, Bool.and_eq_true]
    exact ⟨nrs_in _ q.1, nrs_in _ q.2⟩
  | lk _ => cases q
theorem SC.app {S l : Sto} (h : SC S) (h' : SC l) : SC (S ++ l) := fun o ho => by
  rcases List.mem_append.mp ho with q | q
  · exact h o q
  · exact h' o q
theorem SC.nil : SC [] := fun _ h => (List.not_mem_nil h).elim
theorem SC.cons {o : SO} {l : Sto} (h : soc o = true) (h' : SC l) : SC (o :: l) := fun x hx => by
  rcases List.mem_cons.mp hx
        with rfl | hx
  · exact h
  · exact h' x hx
theorem nrs_iff {xs : List Val} : nrs xs = true ↔ ∀ x ∈ xs, nr x = true := by
  induction xs with
  | nil => simp [nrs]
  | cons x xs ih => simp [nrs, ih]
theorem nrs_map {α : Type} {f : α → Val} {l : List α} (h : ∀ x ∈ l, nr (f x) = true) : nrs (l.map f) = true := nrs_iff.mpr fun x hx => by
  obtain ⟨y, hy, rfl⟩
        := List.mem_map.mp hx
  exact h y hy
theorem nrs_app {xs ys : List Val} : nrs (xs ++ ys) = (nrs xs && nrs ys) := by
  induction xs with
  | nil => simp [nrs]
  | cons x xs ih => simp [nrs, ih, Bool.and_assoc]
theorem vszs_le {xs : List Val} {m : Nat} (h : ∀ x ∈ xs, vsz x ≤ m) : vszs xs ≤ xs.length + m + 1 := by
  induction xs with
  | nil => simp [vszs]
  | cons x xs ih =>
    have := ih fun y hy => h y (List.mem_cons_of_mem _ hy)
    have := h x List.mem_cons_self
    simp only [vszs, List.length_cons]
    omega
theorem vszs_map {α : Type} {f : α → Val} {l : List α} {m : Nat} (h : ∀ x ∈ l, vsz (f x) ≤ m) : vszs (l.map f) ≤ l.length + m + 1 := by
  have := vszs_le (xs := l.map f) (m := m) fun x hx => by
    obtain ⟨y, hy, rfl⟩
          := List.mem_map.mp hx
    exact h y hy
  rwa [List.length_map] at this
abbrev sV (r : List Str) : List Val := r.map Val.str
theorem nrs_str (r : List Str) : nrs (sV r) = true := nrs_map fun _ _ => rfl
theorem vszs_str (r : List Str) : vszs (sV r) ≤ r.length + 2 := vszs_map (m := 1) fun _ _ => by simp [vsz]
/-! ### one item more, one less -/
theorem fApp_ev {S : Sto} {n : Nat} {xs : List Val} {y : Val} (h : S[n]? = some (.lst xs)) (hl : xs.length < sizeLine) : fApp S (.ref n) [y] = some (.non, S.set n (.lst (xs ++ [y]))) := by
  simp only [fApp, h, hl, if_true]
theorem fPop0_ev {S : Sto} {n : Nat} {xs : List Val} {y : Val} (h : S[n]? = some (.lst (xs ++ [y]))) : fPop0 S (.ref n) [] = some (y, S.set n (.lst xs)) := by
  simp [fPop0, h]
theorem fExt_lst {S : Sto} {n : Nat} {xs ys : List Val} (h : S[n]? = some (.lst xs)) (hl : xs.length + ys.length ≤ sizeLine) : fExt S (.ref n) [.lst ys] = some (.non, S.set n (.lst (xs ++ ys))) := by
  simp only [fExt, h, extOf, lstOf, Option.bind_some, hl, if_true]
theorem fExt_tup {S : Sto} {n : Nat} {xs ys : List Val} (h : S[n]? = some (.lst xs)) (hl : xs.length + ys.length ≤ sizeLine) : fExt S (.ref n) [.tup ys] = some (.non, S.set n (.lst (xs ++ ys))) := by
  simp only [fExt, h, extOf, lstOf, Option.bind_some, hl, if_true]
theorem isL_ev {S : Sto} {n : Nat} {xs : List Val} (h : S[n]? = some (.lst xs)) : isL S (.ref n) = true := by simp only [isL, h]
theorem truth_ref {S : Sto} {n : Nat} {xs : List Val} (h : S[n]? = some (.lst xs)) : truth S (.ref n) = some (!xs.isEmpty) := by simp only [truth, h]
theorem wh_end {c : MT} {b : MS} {n : Nat} {sl : Sl} {S S1 : Sto} (h : c sl S = some (false, S1)) : whX c b (n + 1) sl S = some (.nxt, sl, S1) := by simp [whX, h]
theorem wh_go {c : MT} {b : MS} {n : Nat} {sl sl1 : Sl} {S S1 S2 : Sto} {r : Option (Fl × Sl × Sto)} (h : c sl S = some (true, S1)) (h2 : b sl S1 = some (.nxt, sl1, S2)) (h3 : whX c b n sl1 S2 = r) : whX c b (n + 1) sl S = r := by simp [whX, h, h2, h3]
end Ev
namespace P35
open PySem PySem.Spec PyProof.Rows L2 Mp Pilot Ev
/-! ### programs -/
inductive Pg where
  | stop | say (w : Str) (p : Pg) | ask (x : Str) (C : List Str) (y n : Pg)
def pv : Pg → Val
  | .stop => .tup [.str "stop"]
  | .say w p => .tup [.str "say", .str w, pv p]
  | .ask x C y n => .tup [.str "ask", .str x, .tup (sV C), pv y, pv n]
def kd : Pg → Str
  | .stop => "stop"
  | .say _ _ => "say"
  | .ask _ _ _ _ => "ask"
def nds : Pg → Nat
  | .stop => 1
  | .say _ p => nds p + 1
  | .ask _ _ y n => nds y + nds n + 1
def asks : Pg → Nat
  | .stop => 0
  | .say _ p => asks p
  | .ask _ _ y n => 1 + asks y + asks n
def said : Pg → List Str
  | .say w p => w :: said p
  | _ => []
def core : Pg → Pg
  | .say _ p => core p
  | p => p
def goOn (b : Bool) : Pg → Pg
  | .ask _ _ y n => if b then y else n
  | p => p
def pths : Pg → List (List Bool)
  | .stop => [[]]
  | .say _ p => pths p
  | .ask _ _ y n => (pths n).map (false :: ·) ++ (pths y).map (true :: ·)
def outp : Pg → List Bool → List Str
  | .stop, _ => []
  | .say w p, l => w :: outp p l
  | .ask _ _ _ _, [] => []
  | .ask _ _ y _, true :: l => outp y l
  | .ask _ _ _ n, false :: l => outp n l
def paft : Pg → List Bool → Pg
  | p, [] => p
  | p, b :: l => paft (goOn b (core p)) l
/-- what a program comes to when questions are answered so -/
def run (a : Str → List Str → Bool) : Pg → List Bool × List Str
  | .stop => ([], [])
  | .say w p => ((run a p).1, w :: (run a p).2)
  | .ask x C y n => if a x C then (true :: (run a y).1, (run a y).2) else (false :: (run a n).1, (run a n).2)
theorem nds_pos (p : Pg) : 1 ≤ nds p := by cases p <;> simp [nds]
theorem core_nds (p : Pg) : nds (core p) + (said p).length ≤ nds p := by
  induction p with
  | stop => simp [core, said, nds]
  | say w p ih => simp only [core, said, nds, List.length_cons]; omega
  | ask x C y n => simp [core, said, nds]
theorem core_core (p : Pg) : core (core p) = core p := by
  induction p with
  | say w p ih => exact ih
  | _ => rfl
theorem said_core (p : Pg) : said (core p) = [] := by
  induction p with
  | say w p ih => exact ih
  | _ => rfl
theorem core_cases (p : Pg) : core p = .stop ∨ ∃ x C y n, core p = .ask x C y n := by
  induction p with
  | stop => exact .inl rfl
  | say w p ih => exact ih
  | ask x C y n => exact .inr ⟨x, C, y, n, rfl⟩
theorem pths_core (p : Pg) : pths (core p) = pths p := by
  induction p with
  | say w p ih => exact ih
  | _ => rfl
theorem outp_core (p : Pg) (l : List Bool) : outp p l = said p ++ outp (core p) l := by
  induction p with
  | say w p ih => simp only [outp, said, core, List.cons_append, ih]
  | _ => rfl
theorem run_core (a : Str → List Str → Bool) (p : Pg) : run a p = ((run a (core p)).1, said p ++ (run a (core p)).2) := by
  induction p with
  | say w p ih => simp only [run, said, core, List.cons_append, ih]
  | _ => rfl
theorem paft_core (p : Pg) (b : Bool) (l : List Bool) : paft (core p) (b :: l) = paft p (b :: l) := by
  simp only [paft, core_core]
theorem pths_len (p : Pg) : (pths p).length = 1 + asks p := by
  induction p with
  | stop => rfl
  | say w p ih => exact ih
  | ask x C y n ihy ihn => simp only [pths, asks, List.length_append, List.length_map, ihy, ihn]; omega
theorem asks_nds (p : Pg) : asks p < nds p := by
  induction p with
  | stop => simp [asks, nds]
  | say w p ih => simp only [asks, nds]; omega
  | ask x C y n ihy ihn => simp only [asks, nds]; omega
theorem path_len {p : Pg} : ∀ {l : List Bool}, l ∈ pths p → l.length ≤ asks p := by
  induction p with
  | stop => intro l h; simp [pths] at h; subst h; simp
  | say w p ih => exact ih
  | ask x C y n ihy ihn =>
    intro l h
    simp only [pths, List.mem_append, List.mem_map] at h
    rcases h with ⟨m, hm, rfl⟩ | ⟨m, hm, rfl⟩
    · have := ihn hm; simp only [asks, List.length_cons]; omega
    · have := ihy hm; simp only [asks, List.length_cons]; omega
/-- the run is a complete path, with its words -/
theorem run_mem (a : Str → List Str → Bool) (p : Pg) : (run a p).1 ∈ pths p := by
  induction p with
  | stop => simp [run, pths]
  | say w p ih => exact ih
  | ask x C y n ihy ihn =>
    simp only [run, pths, List.mem_append, List.mem_map]
    split
    · exact .inr ⟨_, ihy, rfl⟩
    · exact .inl ⟨_, ihn, rfl⟩
theorem run_outp (a : Str → List Str → Bool) (p : Pg) : outp p (run a p).1 = (run a p).2 := by
  induction p with
  | stop => rfl
  | say w p ih => simp only [run, outp, ih]
  | ask x C y n ihy ihn =>
    simp only [run]
    split
    · exact ihy
    · exact ihn
/-- no complete path begins another one -/
theorem free (p : Pg) : ∀ l ∈ pths p, ∀ m ∈ pths p, m.take l.length = l → l = m := by
  induction p with
  | stop => intro l hl m hm _; simp [pths] at hl hm; rw [hl, hm]
  | say w p ih => exact ih
  | ask x C y n ihy ihn =>
    intro l hl m hm e
    simp only [pths, List.mem_append, List.mem_map] at hl hm
    rcases hl with ⟨l', hl', rfl⟩ | ⟨l', hl', rfl⟩ <;> rcases hm with ⟨m', hm', rfl⟩ | ⟨m', hm', rfl⟩
    · simp only [List.length_cons, List.take_succ_cons, List.cons.injEq, true_and] at e
      rw [ihn l' hl' m' hm' e]
    · simp at e
    · simp at e
    · simp only [List.length_cons, List.take_succ_cons, List.cons.injEq, true_and] at e
      rw [ihy l' hl' m' hm' e]
/-- one step of the run -/
structure Stp (a : Str → List Str → Bool) (p : Pg) (k : Nat) (x : Str) (C : List Str) (y n : Pg) : Prop where
  at_ : core (paft p ((run a p).1.take k)) = .ask x C y n
  ans : (run a p).1[k]? = some (a x C)
  aft : paft p ((run a p).1.take (k + 1)) = if a x C then y else n
  way : (run a (if a x C then y else n)).1 = (run a p).1.drop (k + 1)
  out : outp p ((run a p).1.take k) ++ (run a (if a x C then y else n)).2 = (run a p).2
  pth : (pths (if a x C then y else n)).map ((run a p).1.take (k + 1) ++ ·) = (pths p).filter fun l => decide (l.take (k + 1) = (run a p).1.take (k + 1))
theorem Stp.core {a : Str → List Str → Bool} {p : Pg} {k : Nat} {x : Str} {C : List Str} {y n : Pg} (s : Stp a (core p) k x C y n) : Stp a p k x C y n := by
  have e1 : (run a p).1 = (run a (P35.core p)).1 := by rw [run_core]
  have e2 : ∀ l, outp p l = said p ++ outp (P35.core p) l := outp_core p
  have e3 : (run a p).2 = said p ++ (run a (P35.core p)).2 := by rw [run_core]
  have e4 : ∀ l, P35.core (paft p l) = P35.core (paft (P35.core p) l) := fun l => by
    cases l with
    | nil => simp only [paft, core_core]
    | cons b l => rw [paft_core]
  refine ⟨by rw [e1, e4]; exact s.at_, by rw [e1]; exact s.ans, ?_, by rw [e1]; exact s.way, ?_, by rw [e1, ← pths_core p]; exact s.pth⟩
  · have h := s.aft
    have hk : ∃ b l, (run a (P35.core p)).1.take (k + 1) = b :: l := by
      have := s.ans
      cases q : (run a (P35.core p)).1 with
      | nil => rw [q] at this; simp at this
      | cons b l => exact ⟨b, _, rfl⟩
    obtain ⟨b, l, hb⟩ := hk
    rw [e1, hb, ← paft_core, ← hb]
    exact h
  · rw [e1, e2, e3, List.append_assoc, s.out]
theorem filter_cons_map (b : Bool) (L : List (List Bool)) (m : List Bool) : (L.map (b :: ·)).filter (fun l => decide (l.take (m.length + 1) = b :: m)) = (L.filter fun l => decide (l.take m.length = m)).map (b :: ·) := by
  induction L with
  | nil => rfl
  | cons l L ih =>
    simp only [List.map_cons, List.filter_cons, List.take_succ_cons, List.cons.injEq, true_and, ih]
    split <;> simp
theorem filter_cons_other {b c : Bool} (h : b ≠ c) (L : List (List Bool)) (k : Nat) (m : List Bool) : (L.map (b :: ·)).filter (fun l => decide (l.take (k + 1) = c :: m)) = [] := by
  rw [List.filter_eq_nil_iff]
  intro l hl
  obtain ⟨l', _, rfl⟩ := List.mem_map.mp hl
  simp [h]
theorem steps (a : Str → List Str → Bool) (p : Pg) : ∀ k, k < (run a p).1.length → ∃ x C y n, Stp a p k x C y n := by
  induction p with
  | stop => intro k h; simp [run] at h
  | say w p ih =>
    intro k h
    obtain ⟨x, C, y, n, s⟩ := ih k h
    refine ⟨x, C, y, n, ?_⟩
    have e1 : (run a (.say w p)).1 = (run a p).1 := rfl
    refine ⟨?_, s.ans, ?_, s.way, ?_, s.pth⟩
    · have := s.at_
      cases q : (run a p).1.take k with
      | nil => rw [e1, q]; rw [q] at this; exact this
      | cons b l => rw [e1, q]; rw [q] at this; exact this
    · have := s.aft
      have hk : ∃ b l, (run a p).1.take (k + 1) = b :: l := by
        have := s.ans
        cases q : (run a p).1 with
        | nil => rw [q] at this; simp at this
        | cons b l => exact ⟨b, _, rfl⟩
      obtain ⟨b, l, hb⟩ := hk
      rw [e1, hb]
      rw [hb] at this
      exact this
    · show w :: outp p ((run a p).1.take k) ++ _ = w :: (run a p).2
      rw [List.cons_append, s.out]
  | ask x C y n ihy ihn =>
    intro k h
    cases k with
    | zero =>
      refine ⟨x, C, y, n, ?_⟩
      by_cases hb : a x C = true
      · refine ⟨rfl, ?_, ?_, ?_, ?_, ?_⟩
        · simp [run, hb]
        · simp [run, hb, paft, P35.core, goOn]
        · simp [run, hb]
        · simp [run, hb, outp]
        · simp only [run, hb, if_true, pths, List.filter_append]
          rw [show ((true :: (run a y).1).take (0 + 1)) = true :: [] from rfl, filter_cons_other (b := false) (c := true) (by decide), List.nil_append, show (0 + 1) = ([] : List Bool).length + 1 from rfl, filter_cons_map]
          simp
          rw [K5.filter_yes]
      · rw [Bool.not_eq_true] at hb
        refine ⟨rfl, ?_, ?_, ?_, ?_, ?_⟩
        · simp [run, hb]
        · simp [run, hb, paft, P35.core, goOn]
        · simp [run, hb]
        · simp [run, hb, outp]
        · simp only [run, hb, Bool.false_eq_true, if_false, pths, List.filter_append]
          rw [show ((false :: (run a n).1).take (0 + 1)) = false :: [] from rfl, filter_cons_other (b := true) (c := false) (by decide), List.append_nil, show (0 + 1) = ([] : List Bool).length + 1 from rfl, filter_cons_map]
          simp
          rw [K5.filter_yes]
    | succ k =>
      by_cases hb : a x C = true
      · have h' : k < (run a y).1.length := by simpa [run, hb] using h
        obtain ⟨x', C', y', n', s⟩ := ihy k h'
        refine ⟨x', C', y', n', ?_⟩
        refine ⟨?_, ?_, ?_, ?_, ?_, ?_⟩
        · simpa [run, hb, paft, P35.core, goOn] using s.at_
        · simpa [run, hb] using s.ans
        · simpa [run, hb, paft, P35.core, goOn] using s.aft
        · simpa [run, hb] using s.way
        · simpa [run, hb, outp] using s.out
        · have hk : ((run a y).1.take (k + 1)).length = k + 1 := by rw [List.length_take]; omega
          have e := filter_cons_map true (pths y) ((run a y).1.take (k + 1))
          rw [hk] at e
          simp only [run, hb, if_true, pths, List.filter_append, List.take_succ_cons]
          rw [filter_cons_other (b := false) (c := true) (by decide), List.nil_append, e, ← s.pth]
          simp
      · rw [Bool.not_eq_true] at hb
        have h' : k < (run a n).1.length := by simpa [run, hb] using h
        obtain ⟨x', C', y', n', s⟩ := ihn k h'
        refine ⟨x', C', y', n', ?_⟩
        refine ⟨?_, ?_, ?_, ?_, ?_, ?_⟩
        · simpa [run, hb, paft, P35.core, goOn] using s.at_
        · simpa [run, hb] using s.ans
        · simpa [run, hb, paft, P35.core, goOn] using s.aft
        · simpa [run, hb] using s.way
        · simpa [run, hb, outp] using s.out
        · have hk : ((run a n).1.take (k + 1)).length = k + 1 := by rw [List.length_take]; omega
          have e := filter_cons_map false (pths n) ((run a n).1.take (k + 1))
          rw [hk] at e
          simp only [run, hb, Bool.false_eq_true, if_false, pths, List.filter_append, List.take_succ_cons]
          rw [filter_cons_other (b := true) (c := false) (by decide), List.append_nil, e, ← s.pth]
          simp
theorem run_end (a : Str → List Str → Bool) (p : Pg) : core (paft p (run a p).1) = .stop := by
  induction p with
  | stop => rfl
  | say w p ih =>
    have e1 : (run a (.say w p)).1 = (run a p).1 := rfl
    cases q : (run a p).1 with
    | nil => rw [e1, q]; rw [q] at ih; exact ih
    | cons b l => rw [e1, q]; rw [q] at ih; exact ih
  | ask x C y n ihy ihn =>
    by_cases hb : a x C = true
    · simpa [run, hb, paft, core, goOn] using ihy
    · rw [Bool.not_eq_true] at hb
      simpa [run, hb, paft, core, goOn] using ihn
end P35
namespace F16
open PySem PySem.Spec PyProof.Rows L2 Mp Pilot Ev
/-! ### the drawn table -/
def LotOk (l : List Str) : Prop := l ≠ [] ∧ l.length ≤ 5 ∧ ∀ c ∈ l, c ∈ W5
theorem lot_cut (f d : Int) (f0 : 0 ≤ f) (f1 : f < 2) (d0 : 0 ≤ d) (d1 : d < 3) : ∃ l, LotOk l ∧ ∀ S : Sto, fSl S (some f) (some (3 + d)) (.lst (sV W5)) = some (.lst (sV l)) := by
  have hf : f = 0 ∨ f = 1 := by omega
  have hd : d = 0 ∨ d = 1 ∨ d = 2 := by omega
  rcases hf with rfl | rfl <;> rcases hd with rfl | rfl | rfl
  · exact ⟨["p", "q", "r"], ⟨by simp, by decide, by decide +kernel⟩, fun _ => rfl⟩
  · exact ⟨["p", "q", "r", "s"], ⟨by simp, by decide, by decide +kernel⟩, fun _ => rfl⟩
  · exact ⟨["p", "q", "r", "s", "tttttttt"], ⟨by simp, by decide, by decide +kernel⟩, fun _ => rfl⟩
  · exact ⟨["q", "r"], ⟨by simp, by decide, by decide +kernel⟩, fun _ => rfl⟩
  · exact ⟨["q", "r", "s"], ⟨by simp, by decide, by decide +kernel⟩, fun _ => rfl⟩
  · exact ⟨["q", "r", "s", "tttttttt"], ⟨by simp, by decide, by decide +kernel⟩, fun _ => rfl⟩
def rowsK (rows : List (List Str)) : List NK := rows.map K5.rK
theorem fSl_names (d : Int) (d0 : 0 ≤ d) (d1 : d < 3) : ∃ l, l ≠ [] ∧ l.length ≤ 3 ∧ (∀ c ∈ l, c ∈ N3) ∧ ∀ S : Sto, fSl S none (some (1 + d)) (.lst (sV N3)) = some (.lst (sV l)) := by
  have hd : d = 0 ∨ d = 1 ∨ d = 2 := by omega
  rcases hd with rfl | rfl | rfl
  · exact ⟨["a"], by simp, by decide, by decide +kernel, fun _ => rfl⟩
  · exact ⟨["a", "bb"], by simp, by decide, by decide +kernel, fun _ => rfl⟩
  · exact ⟨["a", "bb", "zzzzzzzz"], by simp, by decide, by decide +kernel, fun _ => rfl⟩
theorem ofK_rK (r : List Str) : ofK (K5.rK r) = vR r := by
  show Val.tup (ofKs (r.map K5.txt)) = _
  congr 1
  induction r with
  | nil => rfl
  | cons c r ih => show Val.str c :: ofKs (r.map K5.txt) = _; rw [ih]; rfl
theorem rK_key (r : List Str) (h : r.length ≤ 3) : keyOk (K5.rK r) = true := by
  match r, h with
  | [], _ => rfl
  | [a], _ => rfl
  | [a, b], _ => rfl
  | [a, b, c], _ => rfl
theorem rK_fine {r : List Str} (h : ∀ c ∈ r, c ∈ W5) (hl : r.length ≤ 3) : K5.Fine (K5.rK r) := by
  refine ⟨?_, ?_⟩
  · have h : PyData.canLayAll0 (NestedKey.datas (r.map K5.txt)) = true := K5.canLayAll0_of fun k hk => by
      obtain ⟨c, hc, rfl⟩
            := List.mem_map.mp hk
      exact W5_ok c (h c hc)
    simpa [K5.rK, NestedKey.data, PyData.canLay0] using h
  · match r, hl with
    | [], _ => simp [K5.rK, NestedKey.depth, NestedKey.depthAll]
    | [a], _ => simp [K5.rK, K5.txt, NestedKey.depth, NestedKey.depthAll]
    | [a, b], _ => simp [K5.rK, K5.txt, NestedKey.depth, NestedKey.depthAll]
    | [a, b, c], _ => simp [K5.rK, K5.txt, NestedKey.depth, NestedKey.depthAll]
structure RwOk (n : Nat) (r : List Str) : Prop where
  len : r.length = n
  wd : ∀ c ∈ r, c ∈ W5
section
abbrev tbS (x5 x6 x7 : Option Val) (ns : List Str) : Sl := [some (.ref 0), some (.int 9), some (.lst (sV ns)), some (.ref 1), some (.ref 2), x5, x6, x7, none]
abbrev tbT (R : SO) (lots : List (List Str)) (ks : List NK) : Sto := [R, .lst (lots.map fun l => Val.lst (sV l)), .dN (tr ks)]
theorem tabl3 {names : List Str} : ∀ (ns : List Str) {R : SO} {lots : List (List Str)} (x5 x6 : Option Val), IsR R → (∀ l ∈ lots, LotOk l) → lots.length + ns.length ≤ 10 →
    ∃ R' lots' z5 z6, IsR R' ∧ (∀ l ∈ lots', LotOk l) ∧ lots'.length = lots.length + ns.length ∧ forX (gNm 5) (sSeq tabl_3_1 tabl_3_2) ⟨sV names, none⟩ (sV ns) (tbS x5 x6 none names) (tbT R lots []) = some (.nxt, tbS z5 z6 none names, tbT R' lots' [])
  | [], R, lots, x5, x6, hR, hl, _ => ⟨R, lots, x5, x6, hR, hl, rfl, rfl⟩
  | n :: ns, R, lots, x5, x6, hR, hl, hn => by
    rw [List.length_cons] at hn
    obtain ⟨f, R1, hR1, f0, f1, e1⟩ := draw_ev (t := [.lst (lots.map fun l => Val.lst (sV l)), .dN (tr [])]) (sl := tbS (some (.str n)) x6 none names) (a := eCon (.int 2)) (many := 2) hR rfl con_ev (by decide) (by decide)
    obtain ⟨d, R2, hR2, d0, d1, e2⟩ := draw_ev (t := [.lst (lots.map fun l => Val.lst (sV l)), .dN (tr [])]) (sl := tbS (some (.str n)) (some (.int f)) none names) (a := eCon (.int 3)) (many := 3) hR1 rfl con_ev (by decide) (by decide)
    obtain ⟨l, lo, el⟩ := lot_cut f d f0 f1 d0 d1
    have big := sizes
    have s1 : tabl_3_1 (tbS (some (.str n)) x6 none names) (tbT R lots []) = some (.nxt, tbS (some (.str n)) (some (.int f)) none names, tbT R1 lots []) := set_ev e1
    have s2 : tabl_3_2 (tbS (some (.str n)) (some (.int f)) none names) (tbT R1 lots []) = some (.nxt, tbS (some (.str n)) (some (.int f)) none names, tbT R2 (lots ++ [l]) []) := by
      refine exp_ev (v := .non) (meth_ev (v := .ref 1) (vs := [.lst (sV l)]) (S1 := tbT R1 lots []) (S2 := tbT R2 lots []) (var_ev rfl) rfl (cons_ev (sl_ev (v := .lst (sV W5)) (S1 := tbT R1 lots []) (S2 := tbT R1 lots []) (lo := some f) (hi := some (3 + d)) (S3 := tbT R2 lots []) (lst_ev (cons_ev con_ev (cons_ev con_ev (cons_ev con_ev (cons_ev con_ev (cons_ev con_ev nil_ev)))))) (so_ev (var_ev rfl)) (so_ev (op2_ev (x := .int 3) (y := .int d) con_ev e2 rfl)) (el _)) nil_ev) ?_)
      show (if (lots.map fun l => Val.lst (sV l)).length < sizeLine then some (Val.non, [R2, SO.lst ((lots.map fun l => Val.lst (sV l)) ++ [Val.lst (sV l)]), .dN (tr [])]) else none) = _
      rw [if_pos (by rw [List.length_map]; omega)]
      show _ = some (Val.non, tbT R2 (lots ++ [l]) [])
      rw [tbT, List.map_append]
      rfl
    obtain ⟨R3, lots3, z5, z6, hR3, hl3, hn3, e3⟩ := tabl3 (names := names) ns (R := R2) (lots := lots ++ [l]) (some (.str n)) (some (.int f)) hR2 (fun x hx => (List.mem_append.mp hx).elim (hl x) fun q => by rw [List.mem_singleton.mp q]; exact lo) (by rw [List.length_append]; simp only [List.length_cons, List.length_nil]; omega)
    refine ⟨R3, lots3, z5, z6, hR3, hl3, by rw [hn3, List.length_append]; simp only [List.length_cons, List.length_nil]; omega, for_cons rfl rfl (seq_ev s1 s2) e3⟩
def RowsQ (n : Nat) (ks : List NK) : Prop := ∀ k ∈ ks, ∃ r, RwOk n r ∧ k = K5.rK r
theorem rowsQ_key {n : Nat} {ks : List NK} (hn : n ≤ 3) (h : RowsQ n ks) : ∀ k ∈ ks, keyOk k = true := fun k hk => by
  obtain ⟨r, ok, rfl⟩ := h k hk
  exact rK_key r (by rw [ok.len]; exact hn)
theorem rowsQ_sort {n : Nat} {ks : List NK} (hn : n ≤ 3) (h : RowsQ n ks) : sortOk ks = true := K5.sortOk_of (fun a ha b hb => by
    obtain ⟨r, _, rfl⟩ := h a ha
    obtain ⟨s, _, rfl⟩ := h b hb
    exact K5.alike_rK r s) (fun k hk => by
    obtain ⟨r, _, rfl⟩ := h k hk
    exact ⟨_, rfl⟩) fun k hk => by
    obtain ⟨r, ok, rfl⟩ := h k hk
    exact rK_fine ok.wd (by rw [ok.len]; exact hn)
theorem rowsQ_add {n : Nat} {ks : List NK} {r : List Str} (h : RowsQ n ks) (ok : RwOk n r) : RowsQ n (addK ks (K5.rK r)) := fun k hk => (addK_mem.mp hk).elim (h k) fun e => ⟨r, ok, e⟩
theorem src_ok {xs : List Val} {n : Nat} {S : Sto} (h : S[n]? = some (.lst xs)) : Src.ok ⟨xs, some n⟩ S = true := by
  simp only [Src.ok, h]
  exact Val.sames_self xs
theorem seqR_ev {m : ME} {sl : Sl} {S S1 : Sto} {n : Nat} {xs : List Val} (h : m sl S = some (.ref n, S1)) (hS : S1[n]? = some (.lst xs)) : iSeq m sl S = some (⟨xs, some n⟩, S1) := by
  simp only [iSeq, h, Option.bind_some, hS]
def pickW (k : Int) (l : List Str) : Str := match L2.atI (sV l) k with
  | some (.str c) => c
  | _ => "p"
theorem pickW_ok {k : Int} (hk : k = 0 ∨ k = -1) {l : List Str} (lo : LotOk l) : L2.atI (sV l) k = some (.str (pickW k l)) ∧ pickW k l ∈ W5 := by
  obtain ⟨ne, _, hw⟩ := lo
  have one : ∃ c ∈ W5, L2.atI (sV l) k = some (.str c) := by
    have hp := List.length_pos_iff.mpr ne
    rcases hk with rfl | rfl
    · exact ⟨l[0], hw _ (List.getElem_mem hp), L2.atI_nat (j := 0) (by rw [List.getElem?_map, List.getElem?_eq_getElem hp]; rfl)⟩
    · refine ⟨l.getLast ne, hw _ (List.getLast_mem ne), ?_⟩
      have e : sV l = sV l.dropLast ++ [Val.str (l.getLast ne)] := by
        show l.map Val.str = l.dropLast.map Val.str ++ [l.getLast ne].map Val.str
        rw [← List.map_append, List.dropLast_concat_getLast]
      rw [e]
      exact L2.atI_last _ _
  obtain ⟨c, hc, e⟩ := one
  have : pickW k l = c := by unfold pickW; rw [e]
  rw [this]
  exact ⟨e, hc⟩
/-- a row at the first, at the last words -/
theorem end_row (k : Int) (hk : k = 0 ∨ k = -1) {lots : List (List Str)} (hl : ∀ l ∈ lots, LotOk l) {S : Sto} {sl : Sl} (h7 : ∀ v, ((wipeS sl [8]).set 8 v)[7]? = some (some (.int k))) (h8 : ∀ v, ((wipeS sl [8]).set 8 (some v))[8]? = some (some v)) (h3 : sl[3]? = some (some (.ref 1))) (hS : S[1]? = some (.lst (lots.map fun l => Val.lst (sV l)))) :
    eLc (.nm 8) (iSeq (eVar 3)) tYesM (eOp2 fIx (eVar 8) (eVar 7)) [8] sl S = some (.lst (sV (lots.map (pickW k))), S) := by
  have e := K5.lc_pure (i := 8) (tt := tYesM) (m := eOp2 fIx (eVar 8) (eVar 7)) (s := ⟨lots.map fun l => Val.lst (sV l), some 1⟩) (sl := wipeS sl [8]) (S := S) (fun l => Val.lst (sV l)) (fun _ => true) (fun l => Val.str (pickW k l)) (src_ok hS) lots (fun _ _ => rfl) fun l hl' _ => op2_ev (var_ev (h8 _)) (var_ev (h7 _)) (pickW_ok hk (hl l hl')).1
  rw [K5.filter_yes] at e
  simp only [eLc, seqR_ev (S := S) (S1 := S) (var_ev h3) hS, Option.bind_some, e]
  show _ = some (Val.lst ((lots.map (pickW k)).map Val.str), S)
  rw [List.map_map]
  rfl
theorem put_row {R : SO} {lots : List (List Str)} {ks : List NK} {n : Nat} {r : List Str} (hn : n ≤ 3) (hk : RowsQ n ks) (ok : RwOk n r) (hl : ks.length < 1000) : dicPut (tbT R lots ks) (.ref 2) (vR r) (.bl true) = some (tbT R lots (addK ks (K5.rK r))) := by
  rw [← ofK_rK]
  exact dput_tr (S := tbT R lots ks) (n := 2) rfl (rowsQ_key hn hk) (rK_key r (by rw [ok.len]; exact hn)) (by omega)
theorem tabl4_one {R : SO} {lots : List (List Str)} {ks : List NK} {names : List Str} {x5 x6 : Option Val} {k : Int} (hk : k = 0 ∨ k = -1) (hl : ∀ l ∈ lots, LotOk l) (hn : lots.length ≤ 3) (hq : RowsQ lots.length ks) (hs : ks.length < 1000) :
    ∃ ks', RowsQ lots.length ks' ∧ ks' ≠ [] ∧ ks'.length ≤ ks.length + 1 ∧ tabl_4_1 (tbS x5 x6 (some (.int k)) names) (tbT R lots ks) = some (.nxt, tbS x5 x6 (some (.int k)) names, tbT R lots ks') := by
  have rw : RwOk lots.length (lots.map (pickW k)) := ⟨by rw [List.length_map], fun c hc => by
    obtain ⟨l, h, rfl⟩ := List.mem_map.mp hc
    exact (pickW_ok hk (hl l h)).2⟩
  refine ⟨_, rowsQ_add hq rw, List.length_pos_iff.mp addK_len.2, addK_len.1, ?_⟩
  refine dput_ev (v := .bl true) (S1 := tbT R lots ks) con_ev (d := .ref 2) (S2 := tbT R lots ks) (var_ev rfl) (k := vR (lots.map (pickW k))) (fn_ev (vs := [.lst (sV (lots.map (pickW k)))]) (cons_ev (end_row k hk hl (fun v => rfl) (fun v => rfl) rfl rfl) nil_ev) rfl) (put_row hn hq rw hs)
theorem tabl4 {R : SO} {lots : List (List Str)} {names : List Str} {x5 x6 : Option Val} (hl : ∀ l ∈ lots, LotOk l) (hn : lots.length ≤ 3) :
    ∃ ks z7, RowsQ lots.length ks ∧ ks ≠ [] ∧ ks.length ≤ 2 ∧ tabl_4 (tbS x5 x6 none names) (tbT R lots []) = some (.nxt, tbS x5 x6 z7 names, tbT R lots ks) := by
  obtain ⟨k1, q1, n1, l1, e1⟩ := tabl4_one (R := R) (ks := []) (names := names) (x5 := x5) (x6 := x6) (k := 0) (.inl rfl) hl hn (fun _ h => (List.not_mem_nil h).elim) (by decide)
  simp only [List.length_nil] at l1
  obtain ⟨k2, q2, n2, l2, e2⟩ := tabl4_one (R := R) (ks := k1) (names := names) (x5 := x5) (x6 := x6) (k := -1) (.inr rfl) hl hn q1 (by omega)
  refine ⟨k2, _, q2, n2, by omega, for_ev (s := ⟨[.int 0, .int (-1)], none⟩) (S1 := tbT R lots []) (seqT_ev (tup_ev (cons_ev con_ev (cons_ev (show eOp1 fNeg (eCon (.int 1)) _ _ = some (.int (-1), _) from rfl) nil_ev)))) (for_cons rfl rfl e1 (for_cons rfl rfl e2 rfl))⟩
theorem draw_row {R : SO} {lots : List (List Str)} {ks : List NK} {names : List Str} {x5 x6 x7 : Option Val} (hR : IsR R) (hl : ∀ l ∈ lots, LotOk l) :
    ∃ r R', IsR R' ∧ RwOk lots.length r ∧ eLc (.nm 8) (iSeq (eVar 3)) tYesM (eCall m_choiK (es2 (eVar 0) (eVar 8))) [8] (tbS x5 x6 x7 names) (tbT R lots ks) = some (.lst (sV r), tbT R' lots ks) := by
  obtain ⟨ys, S', e, ⟨R', hR', rfl⟩, hlen, hP⟩ := lc_genR (i := 8) (m := eCall m_choiK (es2 (eVar 0) (eVar 8))) (s := ⟨lots.map fun l => Val.lst (sV l), some 1⟩) (sl := wipeS (tbS x5 x6 x7 names) [8]) (fun l : List Str => Val.lst (sV l)) Val.str (fun l c => c ∈ l) (fun S => ∃ R, IsR R ∧ S = tbT R lots ks) (fun S ⟨R, _, h⟩ => by rw [h]; exact src_ok rfl) lots (S := tbT R lots ks)
    (fun l hl' S ⟨R, hR, hS⟩ => by
      subst hS
      obtain ⟨ne, l5, hw⟩ := hl l hl'
      obtain ⟨y, R', hy, hR', e⟩ := choi_ev (t := [.lst (lots.map fun l => Val.lst (sV l)), .dN (tr ks)]) (sl := (wipeS (tbS x5 x6 x7 names) [8]).set 8 (some (.lst (sV l)))) (a := eVar 8) (v := .lst (sV l)) (xs := sV l) hR rfl (var_ev rfl) (.inl rfl) (by simpa using ne) (by rw [List.length_map]; omega)
      obtain ⟨c, hc, rfl⟩ := List.mem_map.mp hy
      exact ⟨c, _, e, ⟨R', hR', rfl⟩, hc⟩) ⟨R, hR, rfl⟩
  refine ⟨ys, R', hR', ⟨hlen, fun c hc => by
    obtain ⟨l, h1, h2⟩ := hP c hc
    exact (hl l h1).2.2 c h2⟩, ?_⟩
  simp only [eLc, seqR_ev (m := eVar 3) (sl := tbS x5 x6 x7 names) (S := tbT R lots ks) (S1 := tbT R lots ks) (n := 1) (var_ev rfl) rfl, Option.bind_some, e]
theorem tabl5 {lots : List (List Str)} {names : List Str} {x5 x6 : Option Val} (hl : ∀ l ∈ lots, LotOk l) (hn : lots.length ≤ 3) {s : Src} (hs : s.n = none) : ∀ (js : List Nat) {R : SO} {ks : List NK} (x7 : Option Val), IsR R → RowsQ lots.length ks → ks ≠ [] → ks.length + js.length ≤ 100 →
    ∃ R' ks' z7, IsR R' ∧ RowsQ lots.length ks' ∧ ks' ≠ [] ∧ ks'.length ≤ 100 ∧ forX (gNm 7) tabl_5_1 s (js.map fun i : Nat => Val.int (i : Int)) (tbS x5 x6 x7 names) (tbT R lots ks) = some (.nxt, tbS x5 x6 z7 names, tbT R' lots ks')
  | [], R, ks, x7, hR, hq, hne, hlen => ⟨R, ks, x7, hR, hq, hne, by simpa using hlen, by simp [forX, Src.ok, hs]⟩
  | j :: js, R, ks, x7, hR, hq, hne, hlen => by
    rw [List.length_cons] at hlen
    obtain ⟨r, R1, hR1, ok, e1⟩ := draw_row (ks := ks) (names := names) (x5 := x5) (x6 := x6) (x7 := some (.int (j : Int))) hR hl
    have s1 : tabl_5_1 (tbS x5 x6 (some (.int (j : Int))) names) (tbT R lots ks) = some (.nxt, tbS x5 x6 (some (.int (j : Int))) names, tbT R1 lots (addK ks (K5.rK r))) :=
      dput_ev (v := .bl true) (S1 := tbT R lots ks) con_ev (d := .ref 2) (S2 := tbT R lots ks) (var_ev rfl) (k := vR r) (fn_ev (vs := [.lst (sV r)]) (cons_ev e1 nil_ev) rfl) (put_row hn hq ok (by omega))
    have al := addK_len (k := K5.rK r) (ks := ks)
    obtain ⟨R2, ks2, z7, a1, a2, a3, a4, a5⟩ := tabl5 hl hn hs js (R := R1) (ks := addK ks (K5.rK r)) (some (.int (j : Int))) hR1 (rowsQ_add hq ok) (List.length_pos_iff.mp al.2) (by omega)
    exact ⟨R2, ks2, z7, a1, a2, a3, a4, for_cons hs rfl s1 a5⟩
/-- a drawn table -/
structure TbOk (items : List Str) (rows : List (List Str)) : Prop where
  ne : items ≠ []
  it : ∀ i ∈ items, i ∈ N3
  il : items.length ≤ 3
  rne : rows ≠ []
  rl : rows.length ≤ 100
  rw : ∀ r ∈ rows, RwOk items.length r
def vB (items : List Str) (rows : List (List Str)) : Val := .tup [.tup (sV items), .tup (rows.map vR)]
theorem unrow {n : Nat} : ∀ {ks : List NK}, RowsQ n ks → ∃ rows : List (List Str), rows.length = ks.length ∧ (∀ r ∈ rows, RwOk n r) ∧ ofKs ks = rows.map vR
  | [], _ => ⟨[], rfl, fun _ h => (List.not_mem_nil h).elim, rfl⟩
  | k :: ks, h => by
    obtain ⟨r, ok, rfl⟩ := h k List.mem_cons_self
    obtain ⟨rows, a, b, c⟩ := unrow (ks := ks) fun k hk => h k (List.mem_cons_of_mem _ hk)
    refine ⟨r :: rows, by simp [a], fun x hx => (List.mem_cons.mp hx).elim (fun e => e ▸ ok) (b x), ?_⟩
    rw [ofKs, ofK_rK, c, List.map_cons]
theorem sp_tabl {R : SO} (hR : IsR R) : ∃ items rows R', TbOk items rows ∧ IsR R' ∧ m_tabl [.ref 0, .int 9] [R] = some (vB items rows, [R']) := by
  obtain ⟨d, R1, hR1, d0, d1, e1⟩ := draw_ev (t := []) (sl := [some (.ref 0), some (.int 9), none, none, none, none, none, none, none]) (a := eCon (.int 3)) (many := 3) hR rfl con_ev (by decide) (by decide)
  obtain ⟨items, ine, il, iN, ei⟩ := fSl_names d d0 d1
  have f1 : tabl_1 [some (.ref 0), some (.int 9), none, none, none, none, none, none, none] [R] = some (.nxt, [some (.ref 0), some (.int 9), some (.lst (sV items)), none, none, none, none, none, none], [R1]) :=
    set_ev (sl_ev (v := .lst (sV N3)) (S1 := [R]) (S2 := [R]) (lo := none) (hi := some (1 + d)) (S3 := [R1]) (lst_ev (cons_ev con_ev (cons_ev con_ev (cons_ev con_ev nil_ev)))) no_ev (so_ev (op2_ev (x := .int 1) (y := .int d) con_ev e1 rfl)) (ei _))
  have f2 : tabl_2 [some (.ref 0), some (.int 9), some (.lst (sV items)), none, none, none, none, none, none] [R1] = some (.nxt, tbS none none none items, tbT R1 [] []) := par_ev (lstM_ev nil_ev) rfl
  obtain ⟨R2, lots, z5, z6, hR2, hl, hlen, e3⟩ := tabl3 (names := items) items (R := R1) (lots := []) none none hR1 (fun _ h => (List.not_mem_nil h).elim) (by simp; omega)
  have hn : lots.length = items.length := by simpa using hlen
  have f3 : tabl_3 (tbS none none none items) (tbT R1 [] []) = some (.nxt, tbS z5 z6 none items, tbT R2 lots []) := for_ev (s := ⟨sV items, none⟩) (seqL_ev (var_ev rfl)) e3
  obtain ⟨ks, z7, q4, n4, l4, f4⟩ := tabl4 (R := R2) (names := items) (x5 := z5) (x6 := z6) hl (by omega)
  obtain ⟨m, R3, hR3, m0, m1, e5⟩ := draw_ev (t := [.lst (lots.map fun l => Val.lst (sV l)), .dN (tr ks)]) (sl := tbS z5 z6 z7 items) (a := eOp2 fSub (eVar 1) (eCon (.int 1))) (many := 8) hR2 rfl (op2_ev (x := .int 9) (y := .int 1) (var_ev rfl) con_ev rfl) (by decide) (by decide)
  obtain ⟨R4, ks', y7, hR4, q5, n5, l5, e6⟩ := tabl5 (names := items) (x5 := z5) (x6 := z6) hl (by omega) (s := ⟨(List.range m.toNat).map fun i : Nat => Val.int (i : Int), none⟩) rfl (List.range m.toNat) z7 hR3 q4 n4 (by rw [List.length_range]; omega)
  have f5 : tabl_5 (tbS z5 z6 z7 items) (tbT R2 lots ks) = some (.nxt, tbS z5 z6 y7 items, tbT R4 lots ks') := for_ev (rng_evS e5 m0 (by omega)) e6
  have q6 : RowsQ lots.length (ks'.mergeSort keyLe) := fun k hk => q5 k ((List.mergeSort_perm _ _).mem_iff.mp hk)
  obtain ⟨rows, rl, rok, re⟩ := unrow q6
  have rl2 : rows.length = ks'.length := by rw [rl, (List.mergeSort_perm _ _).length_eq]
  refine ⟨items, rows, R4, ⟨ine, iN, il, ?_, by omega, fun r h => hn ▸ rok r h⟩, hR4, ?_⟩
  · intro e
    rw [e] at rl2
    exact n5 (List.length_eq_zero_iff.mp rl2.symm)
  · have f6 : tabl_6 (tbS z5 z6 y7 items) (tbT R4 lots ks') = some (.ret (vB items rows), tbS z5 z6 y7 items, tbT R4 lots ks') := by
      refine ret_ev (tup_ev (cons_ev (fn_ev (vs := [.lst (sV items)]) (cons_ev (var_ev rfl) nil_ev) rfl) (cons_ev (fn_ev (vs := [.lst (rows.map vR)]) (cons_ev (fn_ev (vs := [.ref 2]) (cons_ev (var_ev rfl) nil_ev) ?_) nil_ev) rfl) nil_ev)))
      rw [sortD_tr (n := 2) rfl (rowsQ_key (by omega) q5) (rowsQ_sort (by omega) q5), re]
    refine def_leave rfl (seq_ev f1 (seq_ev f2 (seq_ev f3 (seq_ev f4 (seq_ev f5 f6))))) (leave_app (S := [R4]) (SB1 hR4) (by simp) ?_ ?_)
    · show (nrs (sV items) && (nrs (rows.map vR) && true)) = true
      have a : ∀ l : List Str, nrs (sV l) = true := fun l => nrs_map fun _ _ => rfl
      rw [a, nrs_map (f := vR) fun r _ => a r]; rfl
    · have a : vszs (rows.map vR) ≤ rows.length + 10 + 1 := vszs_map (m := 10) fun r hr => by
        have := (rok r hr).len
        have h2 : vszs (sV r) ≤ r.length + 1 + 1 := vszs_map (f := Val.str) (l := r) (m := 1) fun c _ => by simp [vsz]
        simp only [vsz]
        omega
      have b : vszs (sV items) ≤ items.length + 1 + 1 := vszs_map (f := Val.str) (l := items) (m := 1) fun c _ => by simp [vsz]
      simp only [vB, vsz, vszs]
      omega
end
end F16
namespace F16
open PySem PySem.Spec PyProof.Rows L2 Mp Pilot Ev
theorem IsR.soc {R : SO} (h : IsR R) : Ev.soc R = true := by
  obtain ⟨cs, nx, rs, dr, rfl⟩ := h
  have : nrs (cs.map Val.int) = true := nrs_map fun _ _ => rfl
  simp [rdr, Ev.soc, nrs, nr, this]
theorem zip_form {k : NK} : ∀ {a b : List Str}, k ∈ List.zipWith K5.pK a b → ∃ i ∈ a, ∃ c ∈ b, k = K5.pK i c
  | [], b, h => by simp at h
  | x :: a, [], h => by simp at h
  | x :: a, y :: b, h => by
    rw [List.zipWith_cons_cons] at h
    rcases List.mem_cons.mp h with h | h
    · exact ⟨x, List.mem_cons_self, y, List.mem_cons_self, h⟩
    · obtain ⟨i, hi, c, hc, e⟩ := zip_form h
      exact ⟨i, List.mem_cons_of_mem _ hi, c, List.mem_cons_of_mem _ hc, e⟩
theorem zipL_str : ∀ a b : List Str, zipL (sV a) (sV b) = ofKs (List.zipWith K5.pK a b)
  | [], b => by cases b <;> rfl
  | a :: as, [] => rfl
  | a :: as, b :: bs => by
    show Val.tup [.str a, .str b] :: zipL (sV as) (sV bs) = ofK (K5.pK a b) :: ofKs (List.zipWith K5.pK as bs)
    rw [zipL_str as bs]
    rfl
structure KsOk (ks : List NK) : Prop where
  nd : ks.Nodup
  q : ∀ k ∈ ks, Pq k
theorem KsOk.nil : KsOk [] := ⟨List.nodup_nil, fun _ h => (List.not_mem_nil h).elim⟩
theorem KsOk.add {ks : List NK} {k : NK} (h : KsOk ks) (hk : Pq k) : KsOk (addK ks k) := ⟨addK_nd h.nd, fun j hj => (addK_mem.mp hj).elim (h.q j) fun e => e ▸ hk⟩
theorem KsOk.fold {ks ps : List NK} (h : KsOk ks) (hp : ∀ p ∈ ps, Pq p) : KsOk (ps.foldl addK ks) := ⟨fold_nd h.nd, fun j hj => (fold_mem.mp hj).elim (h.q j) (hp j)⟩
theorem KsOk.len {ks : List NK} (h : KsOk ks) : ks.length ≤ 15 := pq_len h.nd h.q
theorem KsOk.sort {ks : List NK} (h : KsOk ks) : KsOk (ks.mergeSort keyLe) := ⟨(List.mergeSort_perm _ _).nodup_iff.mpr h.nd, fun k hk => h.q k ((List.mergeSort_perm _ _).mem_iff.mp hk)⟩
theorem KsOk.sortK {ks : List NK} (h : ∀ k ∈ ks, Pq k) : KsOk (sortKeys ks) := ⟨(sortKeys_perm _).nodup_iff.mpr (nodup_uniq _), fun k hk => h k (mem_uniq.mp ((sortKeys_perm _).mem_iff.mp hk))⟩
theorem last0 {S : Sto} {o : SO} : (S ++ [o])[S.length]? = some o := by simp
theorem setl {S : Sto} {o x : SO} : (S ++ [o]).set S.length x = S ++ [x] := by simp [List.set_append]
section
variable {S t u : Sto} {R : SO}
theorem prs_loop {items : List Str} {rows0 : List (List Str)} (ine : items ≠ []) (iN : ∀ i ∈ items, i ∈ N3) (il : items.length ≤ 3) {s : Src} (hs : s.n = none) : ∀ (rows : List (List Str)) (ks : List NK) (x2 x3 : Option Val), (∀ r ∈ rows, RwOk items.length r) → KsOk ks →
    ∃ ks' z2, KsOk ks' ∧ ((rows ≠ [] ∨ ks ≠ []) → ks' ≠ []) ∧ forX (gNm 2) prs_2_1 s (rows.map vR) [some (vB items rows0), some (.ref S.length), x2, x3] (S ++ [.dN (tr ks)]) = some (.nxt, [some (vB items rows0), some (.ref S.length), z2, x3], S ++ [.dN (tr ks')])
  | [], ks, x2, x3, _, hk => ⟨ks, x2, hk, fun h => h.elim (fun q => absurd rfl q) id, by simp [forX, Src.ok, hs]⟩
  | r :: rows, ks, x2, x3, hr, hk => by
    have ok := hr r List.mem_cons_self
    have hp : ∀ p ∈ List.zipWith K5.pK items r, Pq p := fun p hp => by
      obtain ⟨i, hi, c, hc, e⟩ := zip_form hp
      exact ⟨i, iN i hi, c, ok.wd c hc, e⟩
    have pl : (List.zipWith K5.pK items r).length = items.length := by rw [List.length_zipWith, ok.len]; omega
    have kl := hk.len
    have s1 : prs_2_1 [some (vB items rows0), some (.ref S.length), some (vR r), x3] (S ++ [.dN (tr ks)]) = some (.nxt, [some (vB items rows0), some (.ref S.length), some (vR r), x3], S ++ [.dN (tr ((List.zipWith K5.pK items r).foldl addK ks))]) := by
      refine exp_ev (v := .non) (meth_ev (v := .ref S.length) (vs := [.lst ((List.zipWith K5.pK items r).map fun p => Val.tup [ofK p, .bl true])]) (S1 := S ++ [.dN (tr ks)]) (S2 := S ++ [.dN (tr ks)]) (var_ev rfl) (isDn_ev last0) (cons_ev ?_ nil_ev) ?_)
      · refine K5.eLc_all (List.zipWith K5.pK items r) ofK (fun p => Val.tup [ofK p, .bl true]) ?_ fun p _ => tup_ev (cons_ev (var_ev rfl) (cons_ev con_ev nil_ev))
        have e0 : eOp2 fIx (eVar 0) (eCon (.int 0)) [some (vB items rows0), some (.ref S.length), some (vR r), x3] (S ++ [.dN (tr ks)]) = some (.tup (sV items), S ++ [.dN (tr ks)]) := op2_ev (x := vB items rows0) (y := .int 0) (var_ev rfl) con_ev at0
        have e1 : eVar 2 [some (vB items rows0), some (.ref S.length), some (vR r), x3] (S ++ [.dN (tr ks)]) = some (vR r, S ++ [.dN (tr ks)]) := var_ev rfl
        simp only [iZipT, e0, e1, Option.bind_some, tupOf, Option.map_some, zipL_str]
        rw [ofKs_map]
      · rw [fUpd_tr last0 (fun k h => (hk.q k h).key) (fun k h => (hp k h).key) (by omega), setl]
    obtain ⟨ks', z2, a1, a2, a3⟩ := prs_loop ine iN il hs rows ((List.zipWith K5.pK items r).foldl addK ks) (some (vR r)) x3 (fun x hx => hr x (List.mem_cons_of_mem _ hx)) (hk.fold hp)
    refine ⟨ks', z2, a1, fun _ => a2 (.inr ?_), for_cons hs rfl s1 a3⟩
    have : List.zipWith K5.pK items r ≠ [] := fun e => by
      rw [e] at pl
      exact ine (List.length_eq_zero_iff.mp pl.symm)
    obtain ⟨p, ps, e⟩ := List.exists_cons_of_ne_nil this
    intro q
    have : p ∈ (List.zipWith K5.pK items r).foldl addK ks := fold_mem.mpr (.inr (by rw [e]; exact List.mem_cons_self))
    rw [q] at this
    exact List.not_mem_nil this
theorem ks_sz {ks : List NK} (h : KsOk ks) : vszs (ofKs ks) ≤ 30 := by
  have := vszs_map (f := ofK) (l := ks) (m := 4) fun k hk => (h.q k hk).sz
  have := h.len
  rw [ofKs_map]
  omega
theorem sp_prs {items : List Str} {rows : List (List Str)} (hS : SC S) (tb : TbOk items rows) : ∃ E, KsOk E ∧ E ≠ [] ∧ m_prs [vB items rows] S = some (.lst (ofKs E), S) := by
  obtain ⟨ks, z2, hk, hne, e⟩ := prs_loop (S := S) (rows0 := rows) tb.ne tb.it tb.il (s := ⟨rows.map vR, none⟩) rfl rows [] none none tb.rw KsOk.nil
  refine ⟨ks.mergeSort keyLe, hk.sort, fun q => hne (.inl tb.rne) (List.length_eq_zero_iff.mp ?_), ?_⟩
  · have := (List.mergeSort_perm ks keyLe).length_eq
    rw [q] at this
    exact this.symm
  · have f1 : prs_1 [some (vB items rows), none, none, none] S = some (.nxt, [some (vB items rows), some (.ref S.length), none, none], S ++ [.dN (tr [])]) := rfl
    have f2 : prs_2 [some (vB items rows), some (.ref S.length), none, none] (S ++ [.dN (tr [])]) = some (.nxt, [some (vB items rows), some (.ref S.length), z2, none], S ++ [.dN (tr ks)]) := for_ev (s := ⟨rows.map vR, none⟩) (seqT_ev (op2_ev (x := vB items rows) (y := .int 1) (var_ev rfl) con_ev at1)) e
    refine def_leave rfl (seq_ev f1 (seq_ev f2 (ret_ev (fn_ev (vs := [.ref S.length]) (cons_ev (var_ev rfl) nil_ev) (sortD_tr last0 (fun k h => (hk.q k h).key) (pq_sort hk.q)))))) (leave_app hS.sb (by simp) (nrs_ofKs _) ?_)
    have := ks_sz hk.sort
    simp only [vsz]
    omega
theorem scop_loop {E : List NK} (hE : KsOk E) (ne : E ≠ []) (hu : SC u) {s : Src} (hs : s.n = none) : ∀ (js : List Nat) {R : SO} (ks : List NK) (x4 : Option Val), IsR R → KsOk ks →
    ∃ R' ks' z4, IsR R' ∧ KsOk ks' ∧ forX (gNm 4) scop_2_1 s (js.map fun i : Nat => Val.int (i : Int)) [some (.ref 0), some (.lst (ofKs E)), some (.int 3), some (.ref (u.length + 1)), x4] (R :: (u ++ [.dN (tr ks)])) = some (.nxt, [some (.ref 0), some (.lst (ofKs E)), some (.int 3), some (.ref (u.length + 1)), z4], R' :: (u ++ [.dN (tr ks')]))
  | [], R, ks, x4, hR, hk => ⟨R, ks, x4, hR, hk, by simp [forX, Src.ok, hs]⟩
  | j :: js, R, ks, x4, hR, hk => by
    have el := hE.len
    obtain ⟨y, R1, hy, hR1, e1⟩ := choi_ev (t := u ++ [.dN (tr ks)]) (sl := [some (.ref 0), some (.lst (ofKs E)), some (.int 3), some (.ref (u.length + 1)), some (.int (j : Int))]) (a := eVar 1) (v := .lst (ofKs E)) (xs := ofKs E) hR rfl (var_ev rfl) (.inl rfl) (by rw [ofKs_map]; simpa using ne) (by rw [ofKs_map, List.length_map]; omega)
    rw [ofKs_map] at hy
    obtain ⟨k, hk', rfl⟩ := List.mem_map.mp hy
    have kl := hk.len
    have at_ : (R1 :: (u ++ [SO.dN (tr ks)]))[u.length + 1]? = some (.dN (tr ks)) := by simp
    have st_ : ∀ x, (R1 :: (u ++ [SO.dN (tr ks)])).set (u.length + 1) x = R1 :: (u ++ [x]) := fun x => by simp [List.set_append]
    have s1 : scop_2_1 [some (.ref 0), some (.lst (ofKs E)), some (.int 3), some (.ref (u.length + 1)), some (.int (j : Int))] (R :: (u ++ [.dN (tr ks)])) = some (.nxt, [some (.ref 0), some (.lst (ofKs E)), some (.int 3), some (.ref (u.length + 1)), some (.int (j : Int))], R1 :: (u ++ [.dN (tr (addK ks k))])) := by
      have h4 := dput_tr at_ (fun k h => (hk.q k h).key) (hE.q k hk').key (by omega)
      rw [st_] at h4
      have h1 : eCon (.bl true) [some (.ref 0), some (.lst (ofKs E)), some (.int 3), some (.ref (u.length + 1)), some (.int (j : Int))] (R :: (u ++ [.dN (tr ks)])) = some (.bl true, R :: (u ++ [.dN (tr ks)])) := con_ev
      have h2 : eVar 3 [some (.ref 0), some (.lst (ofKs E)), some (.int 3), some (.ref (u.length + 1)), some (.int (j : Int))] (R :: (u ++ [.dN (tr ks)])) = some (.ref (u.length + 1), R :: (u ++ [.dN (tr ks)])) := var_ev rfl
      show sDPutM (eVar 3) (eCall m_choiK (es2 (eVar 0) (eVar 1))) (eCon (.bl true)) _ _ = _
      simp only [sDPutM, h1, h2, e1, Option.bind_some, h4, Option.map_some]
    obtain ⟨R2, ks2, z4, a1, a2, a3⟩ := scop_loop hE ne hu hs js (addK ks k) (some (.int (j : Int))) hR1 (hk.add (hE.q k hk'))
    exact ⟨R2, ks2, z4, a1, a2, for_cons hs rfl s1 a3⟩
theorem sp_scop {E : List NK} (hE : KsOk E) (ne : E ≠ []) (hu : SC u) (hR : IsR R) : ∃ C R', KsOk C ∧ IsR R' ∧ m_scop [.ref 0, .lst (ofKs E), .int 3] (R :: u) = some (gV C, R' :: u) := by
  have f1 : scop_1 [some (.ref 0), some (.lst (ofKs E)), some (.int 3), none, none] (R :: u) = some (.nxt, [some (.ref 0), some (.lst (ofKs E)), some (.int 3), some (.ref (u.length + 1)), none], R :: (u ++ [.dN (tr [])])) := rfl
  obtain ⟨d, R1, hR1, d0, d1, e1⟩ := draw_ev (t := u ++ [.dN (tr [])]) (sl := [some (.ref 0), some (.lst (ofKs E)), some (.int 3), some (.ref (u.length + 1)), none]) (a := eOp2 fAdd (eVar 2) (eCon (.int 1))) (many := 4) hR rfl (op2_ev (x := .int 3) (y := .int 1) (var_ev rfl) con_ev rfl) (by decide) (by decide)
  obtain ⟨R2, ks, z4, hR2, hk, e2⟩ := scop_loop (u := u) hE ne hu (s := ⟨(List.range d.toNat).map fun i : Nat => Val.int (i : Int), none⟩) rfl (List.range d.toNat) [] none hR1 KsOk.nil
  have f2 : scop_2 [some (.ref 0), some (.lst (ofKs E)), some (.int 3), some (.ref (u.length + 1)), none] (R :: (u ++ [.dN (tr [])])) = some (.nxt, [some (.ref 0), some (.lst (ofKs E)), some (.int 3), some (.ref (u.length + 1)), z4], R2 :: (u ++ [.dN (tr ks)])) := for_ev (rng_evS e1 d0 (by omega)) e2
  refine ⟨ks.mergeSort keyLe, R2, hk.sort, hR2, def_leave (S1 := (R2 :: u) ++ [.dN (tr ks)]) (v := gV (ks.mergeSort keyLe)) rfl (seq_ev f1 (seq_ev f2 (ret_ev (fn_ev (vs := [.lst (ofKs (ks.mergeSort keyLe))]) (cons_ev (fn_ev (vs := [.ref (u.length + 1)]) (cons_ev (var_ev rfl) nil_ev) ?_) nil_ev) rfl)))) (leave_app (S := R2 :: u) (SC.cons hR2.soc hu).sb (by simp) (nrs_ofKs _) ?_)⟩
  · exact sortD_tr (by simp) (fun k h => (hk.q k h).key) (pq_sort hk.q)
  · have := ks_sz hk.sort
    simp only [vsz]
    omega
/-! ### coins -/
abbrev Coin := Int × List NK
def cV (c : Coin) : Val := .tup [.int c.1, gV c.2]
abbrev vC (cs : List Coin) : Val := .tup (cs.map cV)
def numOk (i : Int) : Prop := 0 ≤ i ∧ i ≤ 10 ^ 24
structure CsOk (cs : List Coin) : Prop where
  few : cs.length ≤ 5
  ks : ∀ c ∈ cs, KsOk c.2
  up : (cs.map (·.1)).Pairwise (· < ·)
  num : ∀ c ∈ cs, numOk c.1
theorem cV_nr (c : Coin) : nr (cV c) = true := by
  show (true && (nrs (ofKs c.2) && true)) = true
  rw [nrs_ofKs]; rfl
def nums4 : List Int := [0, 1, 2, 10 ^ 20]
abbrev puS (E : List NK) (n : Nat) (m : Int) (x5 : Option Val) : Sl := [some (.ref 0), some (.lst (ofKs E)), some (.int 5), some (.ref n), some (.int m), x5]
theorem purse_loop {E : List NK} (hE : KsOk E) (ne : E ≠ []) {s : Src} (hs : s.n = none) : ∀ (js : List Nat) {R : SO} {cs : List Coin} {m : Int} (x5 : Option Val), IsR R → CsOk cs → cs.length + js.length ≤ 5 → (0 ≤ m ∧ m ≤ cs.length * (10 ^ 20 + 1)) → (∀ c ∈ cs, c.1 < m) →
    ∃ R' cs' z4 z5, IsR R' ∧ CsOk cs' ∧ forX (gNm 5) (sSeq purse_2_1 (sSeq purse_2_2 purse_2_3)) s (js.map fun i : Nat => Val.int (i : Int)) (puS E 1 m x5) [R, .lst (cs.map cV)] = some (.nxt, puS E 1 z4 z5, [R', .lst (cs'.map cV)])
  | [], R, cs, m, x5, hR, hc, _, _, _ => ⟨R, cs, m, x5, hR, hc, by simp [forX, Src.ok, hs]⟩
  | j :: js, R, cs, m, x5, hR, hc, hl, hm, hlt => by
    rw [List.length_cons] at hl
    have hp : fPow ([R, .lst (cs.map cV)] : Sto) (.int 10) (.int 20) = some (.int (10 ^ 20)) := rfl
    obtain ⟨y, R1, hy, hR1, e1⟩ := choi_ev (t := [.lst (cs.map cV)]) (sl := puS E 1 m (some (.int (j : Int)))) (a := eLst (es4 (eCon (.int 0)) (eCon (.int 1)) (eCon (.int 2)) (eOp2 fPow (eCon (.int 10)) (eCon (.int 20))))) (v := .lst (nums4.map Val.int)) (xs := nums4.map Val.int) hR rfl (lst_ev (cons_ev con_ev (cons_ev con_ev (cons_ev con_ev (cons_ev (op2_ev con_ev con_ev hp) nil_ev))))) (.inl rfl) (by simp [nums4]) (by decide)
    obtain ⟨i, hi, rfl⟩ := List.mem_map.mp hy
    have hi2 : 0 ≤ i ∧ i ≤ 10 ^ 20 := by
      simp only [nums4, List.mem_cons, List.not_mem_nil, or_false] at hi
      rcases hi with rfl | rfl | rfl | rfl <;> omega
    obtain ⟨C, R2, hC, hR2, e2⟩ := sp_scop (u := [.lst (cs.map cV)]) hE ne (SC.cons (nrs_map fun c _ => cV_nr c) SC.nil) hR1
    have big := sizes
    have s1 : purse_2_1 (puS E 1 m (some (.int (j : Int)))) [R, .lst (cs.map cV)] = some (.nxt, puS E 1 (m + i) (some (.int (j : Int))), [R1, .lst (cs.map cV)]) := set_ev (op2_ev (x := .int m) (y := .int i) (var_ev rfl) e1 rfl)
    have s2 : purse_2_2 (puS E 1 (m + i) (some (.int (j : Int)))) [R1, .lst (cs.map cV)] = some (.nxt, puS E 1 (m + i) (some (.int (j : Int))), [R2, .lst ((cs ++ [(m + i, C)]).map cV)]) := by
      refine exp_ev (v := .non) (meth_ev (v := .ref 1) (vs := [cV (m + i, C)]) (S1 := [R1, .lst (cs.map cV)]) (S2 := [R2, .lst (cs.map cV)]) (var_ev rfl) rfl (cons_ev (tup_ev (cons_ev (var_ev rfl) (cons_ev (call_ev (vs := [.ref 0, .lst (ofKs E), .int 3]) (cons_ev (var_ev rfl) (cons_ev (var_ev rfl) (cons_ev con_ev nil_ev))) e2) nil_ev))) nil_ev) ?_)
      rw [fApp_ev rfl (by rw [List.length_map]; omega), List.map_append]
      rfl
    have s3 : purse_2_3 (puS E 1 (m + i) (some (.int (j : Int)))) [R2, .lst ((cs ++ [(m + i, C)]).map cV)] = some (.nxt, puS E 1 (m + i + 1) (some (.int (j : Int))), [R2, .lst ((cs ++ [(m + i, C)]).map cV)]) := set_ev (op2_ev (x := .int (m + i)) (y := .int 1) (var_ev rfl) con_ev rfl)
    have ln : (cs ++ [(m + i, C)]).length = cs.length + 1 := by simp
    have hc' : CsOk (cs ++ [(m + i, C)]) := by
      refine ⟨by omega, fun c h => (List.mem_append.mp h).elim (hc.ks c) fun q => by rw [List.mem_singleton.mp q]; exact hC, ?_, fun c h => (List.mem_append.mp h).elim (hc.num c) fun q => by
        rw [List.mem_singleton.mp q]
        show 0 ≤ m + i ∧ m + i ≤ 10 ^ 24
        have : (cs.length : Int) ≤ 4 := by omega
        omega⟩
      rw [List.map_append, List.pairwise_append]
      refine ⟨hc.up, by simp, fun a ha b hb => ?_⟩
      obtain ⟨c, hcm, rfl⟩ := List.mem_map.mp ha
      have hb' : b = m + i := by simpa using hb
      have := hlt c hcm
      omega
    obtain ⟨R3, cs3, z4, z5, a1, a2, a3⟩ := purse_loop hE ne hs js (R := R2) (cs := cs ++ [(m + i, C)]) (m := m + i + 1) (some (.int (j : Int))) hR2 hc' (by omega) (by omega) (fun c h => (List.mem_append.mp h).elim (fun q => by have := hlt c q; omega) fun q => by
      rw [List.mem_singleton.mp q]
      show m + i < m + i + 1
      omega)
    exact ⟨R3, cs3, z4, z5, a1, a2, for_cons hs rfl (seq_ev s1 (seq_ev s2 s3)) a3⟩
theorem cs_sz {cs : List Coin} (hc : CsOk cs) : vsz (vC cs) ≤ 4000 := by
  have h := vszs_map (f := cV) (l := cs) (m := 100) fun c h => by
    have h1 := ks_sz (hc.ks c h)
    simp only [cV, vsz, vszs]
    omega
  have := hc.few
  simp only [vsz]
  omega
theorem sp_purse {E : List NK} (hE : KsOk E) (ne : E ≠ []) (hR : IsR R) : ∃ cs R', CsOk cs ∧ IsR R' ∧ m_purse [.ref 0, .lst (ofKs E), .int 5] [R] = some (vC cs, [R']) := by
  obtain ⟨d, R1, hR1, d0, d1, e1⟩ := draw_ev (t := [.lst []]) (sl := puS E 1 0 none) (a := eOp2 fAdd (eVar 2) (eCon (.int 1))) (many := 6) hR rfl (op2_ev (x := .int 5) (y := .int 1) (var_ev rfl) con_ev rfl) (by decide) (by decide)
  obtain ⟨R2, cs, z4, z5, hR2, hc, e2⟩ := purse_loop hE ne (s := ⟨(List.range d.toNat).map fun i : Nat => Val.int (i : Int), none⟩) rfl (List.range d.toNat) (cs := []) (m := 0) none hR1 ⟨by simp, fun c h => (List.not_mem_nil h).elim, by simp, fun c h => (List.not_mem_nil h).elim⟩ (by rw [List.length_range]; simp only [List.length_nil]; omega) (by simp) (fun c h => (List.not_mem_nil h).elim)
  have f1 : purse_1 [some (.ref 0), some (.lst (ofKs E)), some (.int 5), none, none, none] [R] = some (.nxt, puS E 1 0 none, [R, .lst []]) := par_ev (lstM_ev nil_ev) con_ev
  have f2 : purse_2 (puS E 1 0 none) [R, .lst []] = some (.nxt, puS E 1 z4 z5, [R2, .lst (cs.map cV)]) := for_ev (rng_evS e1 d0 (by omega)) e2
  exact ⟨cs, R2, hc, hR2, def_leave (S1 := [R2] ++ [.lst (cs.map cV)]) (v := vC cs) rfl (seq_ev f1 (seq_ev f2 (ret_ev (fn_ev (vs := [.ref 1]) (cons_ev (var_ev rfl) nil_ev) rfl)))) (leave_app (S := [R2]) (SB1 hR2) (by simp) (nrs_map fun c _ => cV_nr c) (cs_sz hc))⟩
end
end F16
namespace Ev
open PySem PySem.Spec PyProof.Rows L2 Mp
/-! ### values that can be shown -/
mutual
def wsh : Val → Bool
  | .non => true
  | .bl _ => true
  | .str x => decide (x.cps.size ≤ 8) && PyData.strOk x
  | .int i => decide (i.natAbs < 10 ^ 60)
  | .tup xs => wshs xs
  | .ptp xs => wshs xs
  | .lst xs => wshs xs
  | _ => false
def wshs : List Val → Bool
  | [] => true
  | x :: xs => wsh x && wshs xs
end
mutual
def wwt : Val → Nat
  | .str _ => 8
  | .int _ => 201
  | .tup xs => wwts xs
  | .ptp xs => wwts xs
  | .lst xs => wwts xs
  | _ => 0
def wwts : List Val → Nat
  | [] => 0
  | x :: xs => wwt x + 1 + wwts xs
end
mutual
theorem dataW_ev : ∀ v : Val, wsh v = true → ∃ d, toD v = some d ∧ d.canLay0 = true ∧ d.showable = true ∧ d.intsShort 61 = true ∧ d.weight ≤ wwt v ∧ d.depth ≤ vdp v
  | .non, _ => ⟨.none, rfl, rfl, rfl, rfl, Nat.le_refl _, Nat.le_refl _⟩
  | .bl b, _ => ⟨.bool b, rfl, rfl, rfl, rfl, Nat.le_refl _, Nat.le_refl _⟩
  | .str x, h => by
    simp only [wsh, Bool.and_eq_true, decide_eq_true_eq] at h
    exact ⟨.str x, rfl, h.2, rfl, rfl, h.1, Nat.le_refl _⟩
  | .tup xs, h => by
    simp only [wsh] at h
    obtain ⟨ds, e, h1, h2, h3, h4, h5⟩ := datasW_ev xs h
    refine ⟨.tuple ds, by simp only [toD, e, Option.map_some], by simpa only [PyData.canLay0] using h1, by simpa only [PyData.showable] using h2, by simpa only [PyData.intsShort] using h3, by simpa only [PyData.weight, wwt] using h4, by simpa only [PyData.depth, vdp, Nat.add_le_add_iff_right] using h5⟩
  | .ptp xs, h => by
    simp only [wsh] at h
    obtain ⟨ds, e, h1, h2, h3, h4, h5⟩ := datasW_ev xs h
    refine ⟨.tuple ds, by simp only [toD, e, Option.map_some], by simpa only [PyData.canLay0] using h1, by simpa only [PyData.showable] using h2, by simpa only [PyData.intsShort] using h3, by simpa only [PyData.weight, wwt] using h4, by simpa only [PyData.depth, vdp, Nat.add_le_add_iff_right] using h5⟩
  | .lst xs, h => by
    simp only [wsh] at h
    obtain ⟨ds, e, h1, h2, h3, h4, h5⟩ := datasW_ev xs h
    refine ⟨.list ds, by simp only [toD, e, Option.map_some], by simpa only [PyData.canLay0] using h1, by simpa only [PyData.showable] using h2, by simpa only [PyData.intsShort] using h3, by simpa only [PyData.weight, wwt] using h4, by simpa only [PyData.depth, vdp, Nat.add_le_add_iff_right] using h5⟩
  | .int i, h => by
    simp only [wsh, decide_eq_true_eq] at h
    have h10 : i.natAbs.log2 < 200 := by
      by_cases h0 : i.natAbs = 0
      · rw [h0]; decide
      · exact (Nat.log2_lt h0).mpr (Nat.lt_of_lt_of_le h (by decide))
    refine ⟨.int i, rfl, rfl, ?_, ?_, ?_, Nat.le_refl _⟩
    · simp only [PyData.showable, decide_eq_true_eq]; omega
    · simp only [PyData.intsShort, decide_eq_true_eq]
      have e := int_text_length_le10 (k := 60) (by decide) h
      show (Str.ofString (toString i)).length ≤ 61
      rw [PySem.ofString_length]; exact e
    · simp only [PyData.weight, wwt]
      split <;> omega
  | .ref _, h => by simp [wsh] at h
  | .scr _, h => by simp [wsh] at h
  | .ty _, h => by simp [wsh] at h
  | .fn _, h => by simp [wsh] at h
theorem datasW_ev : ∀ xs : List Val, wshs xs = true → ∃ ds, toDs xs = some ds ∧ PyData.canLayAll0 ds = true ∧ PyData.showableAll ds = true ∧ PyData.intsShortAll 61 ds = true ∧ PyData.weightAll ds ≤ wwts xs ∧ PyData.depthAll ds ≤ vdps xs
  | [], _ => ⟨[], rfl, rfl, rfl, rfl, Nat.le_refl _, Nat.le_refl _⟩
  | x :: xs, h => by
    simp only [wshs, Bool.and_eq_true] at h
    obtain ⟨d, e, h1, h2, h3, h4, h5⟩ := dataW_ev x h.1
    obtain ⟨ds, e', g1, g2, g3, g4, g5⟩ := datasW_ev xs h.2
    refine ⟨d :: ds, by simp only [toDs, e, e', Option.bind_some, Option.map_some], by simp only [PyData.canLayAll0, h1, g1, Bool.and_self], by simp only [PyData.showableAll, h2, g2, Bool.and_self], by simp only [PyData.intsShortAll, h3, g3, Bool.and_self], ?_, ?_⟩
    · simp only [PyData.weightAll, wwts]
      omega
    · simp only [PyData.depthAll, vdps]
      omega
end
theorem toDS_toDW {S : Sto} {v : Val} (h : wsh v = true) : toDS S v = toD v := by
  cases v with
  | ref => simp [wsh] at h
  | _ => rfl
theorem reprW_ev {v : Val} (h : wsh v = true) (hw : wwt v ≤ 200000) (hd : vdp v ≤ 60) : ∃ t : Str, ∀ S : Sto, fRepr S [v] = some (.str t) := by
  obtain ⟨d, e, h1, h2, h3, h4, h5⟩ := dataW_ev v h
  refine ⟨d.shown, fun S => ?_⟩
  have fit : d.shown.length ≤ sizeLine := by
    have q := PyData.shown_le 61 (by decide) d (PyData.leavesShort_of_canLay0 61 d h1 h3)
    have q2 : (61 + 2) * d.weight ≤ 63 * 200000 := Nat.mul_le_mul (by omega) (by omega)
    rw [sizeLine_eq]
    omega
  simp only [fRepr, toDS_toDW h, e, Option.bind_some, showOk, h1, h2, fit, decide_true, Bool.and_true, Bool.true_and]
  rw [if_pos (by simp; omega)]
theorem wshs_iff {xs : List Val} : wshs xs = true ↔ ∀ x ∈ xs, wsh x = true := by
  induction xs with
  | nil => simp [wshs]
  | cons x xs ih => simp [wshs, ih]
theorem wshs_map {α : Type} {f : α → Val} {l : List α} (h : ∀ x ∈ l, wsh (f x) = true) : wshs (l.map f) = true := wshs_iff.mpr fun x hx => by
  obtain ⟨y, hy, rfl⟩
        := List.mem_map.mp hx
  exact h y hy
theorem wwts_map {α : Type} {f : α → Val} {m : Nat} : ∀ {l : List α}, (∀ x ∈ l, wwt (f x) ≤ m) → wwts (l.map f) ≤ l.length * (m + 1)
  | [], _ => by simp [wwts]
  | x :: l, h => by
    have ih := wwts_map (f := f) (m := m) (l := l) fun y hy => h y (List.mem_cons_of_mem _ hy)
    have := h x List.mem_cons_self
    rw [List.map_cons, wwts, List.length_cons, Nat.add_mul]
    omega
end Ev
namespace F16
open PySem PySem.Spec PyProof.Rows L2 Mp Pilot Ev Mt W16
/-! ### the payments -/
abbrev vN (ns : List Int) : Val := .tup (ns.map Val.int)
def stp (cs : List Coin) (k : NK) (a : List Int) : List (List Int) := (cs.filter fun c => decide (k ∈ c.2) && decide (c.1 ∉ a)).map fun c => a ++ [c.1]
def payF (cs : List Coin) : List NK → List (List Int) → List (List Int)
  | [], L => L
  | k :: W, L => payF cs W (L.flatMap (stp cs k))
def payL (cs : List Coin) (W : List NK) : List (List Int) := payF cs W [[]]
def Ext (cs : List Coin) : List Int → List NK → List Int → Prop
  | _, [], b => b = []
  | a, k :: W, b => ∃ c ∈ cs, k ∈ c.2 ∧ c.1 ∉ a ∧ ∃ b', b = c.1 :: b' ∧ Ext cs (a ++ [c.1]) W b'
theorem mem_payF {cs : List Coin} : ∀ {W : List NK} {L : List (List Int)} {ns : List Int}, ns ∈ payF cs W L ↔ ∃ a ∈ L, ∃ b, ns = a ++ b ∧ Ext cs a W b
  | [], L, ns => ⟨fun h => ⟨ns, h, [], by simp, rfl⟩, fun ⟨a, ha, b, e, h⟩ => by
    have h : b = [] := h
    subst h
    rw [e, List.append_nil]; exact ha⟩
  | k :: W, L, ns => by
    rw [payF, mem_payF]
    constructor
    · rintro ⟨a1, ha1, b, e, h⟩
      obtain ⟨a, ha, h1⟩ := List.mem_flatMap.mp ha1
      obtain ⟨c, hc, rfl⟩ := List.mem_map.mp h1
      obtain ⟨hc1, hc2⟩ := List.mem_filter.mp hc
      simp only [Bool.and_eq_true, decide_eq_true_eq] at hc2
      exact ⟨a, ha, c.1 :: b, by rw [e]; simp, c, hc1, hc2.1, hc2.2, b, rfl, h⟩
    · rintro ⟨a, ha, b, e, c, hc, h1, h2, b', rfl, h3⟩
      refine ⟨a ++ [c.1], List.mem_flatMap.mpr ⟨a, ha, List.mem_map.mpr ⟨c, List.mem_filter.mpr ⟨hc, by simp only [Bool.and_eq_true, decide_eq_true_eq]; exact ⟨h1, h2⟩⟩, rfl⟩⟩, b', by rw [e]; simp, h3⟩
theorem ext_num {cs : List Coin} (hc : CsOk cs) : ∀ {W : List NK} {a b : List Int}, Ext cs a W b → (∀ n ∈ b, numOk n) ∧ b.length = W.length
  | [], a, b, h => by
    have h : b = [] := h
    subst h
    exact ⟨fun n h => (List.not_mem_nil h).elim, rfl⟩
  | k :: W, a, b, ⟨c, hcm, _, _, b', e, h⟩ => by
    obtain ⟨h1, h2⟩ := ext_num hc h
    rw [e]
    exact ⟨fun n hn => (List.mem_cons.mp hn).elim (fun q => q ▸ hc.num c hcm) (h1 n), by simp [h2]⟩
theorem pay_num {cs : List Coin} {W : List NK} (hc : CsOk cs) {ns : List Int} (h : ns ∈ payL cs W) : (∀ n ∈ ns, numOk n) ∧ ns.length = W.length := by
  obtain ⟨a, ha, b, e, hx⟩ := mem_payF.mp h
  rw [List.mem_singleton.mp ha, List.nil_append] at e
  rw [List.mem_singleton.mp ha] at hx
  rw [e]
  exact ext_num hc hx
theorem payF_len {cs : List Coin} (hc : CsOk cs) : ∀ (W : List NK) (L : List (List Int)), (payF cs W L).length ≤ L.length * 5 ^ W.length
  | [], L => by simp [payF]
  | k :: W, L => by
    rw [payF]
    have h1 := payF_len hc W (L.flatMap (stp cs k))
    have h2 : (L.flatMap (stp cs k)).length ≤ L.length * 5 := by
      clear h1
      induction L with
      | nil => simp
      | cons a L ih =>
        have h3 : (stp cs k a).length ≤ 5 := by
          unfold stp
          rw [List.length_map]
          exact Nat.le_trans (List.length_filter_le _ _) hc.few
        rw [List.flatMap_cons, List.length_append, List.length_cons, Nat.add_mul]
        omega
    rw [List.length_cons, Nat.pow_succ, Nat.mul_comm (5 ^ W.length) 5, ← Nat.mul_assoc]
    exact Nat.le_trans h1 (Nat.mul_le_mul_right _ h2)
theorem num_inj {cs : List Coin} (hc : CsOk cs) {p q : Nat} {c d : Coin} (hp : cs[p]? = some c) (hq : cs[q]? = some d) (e : c.1 = d.1) : p = q := by
  have nd : (cs.map (·.1)).Nodup := hc.up.imp fun h => Int.ne_of_lt h
  have h1 : (cs.map (·.1))[p]? = some c.1 := by rw [List.getElem?_map, hp]; rfl
  have h2 : (cs.map (·.1))[q]? = some c.1 := by rw [List.getElem?_map, hq, e]; rfl
  have l1 := (List.getElem?_eq_some_iff.mp h1).1
  exact (List.getElem?_inj l1 nd).mp (h1.trans h2.symm)
/-- the numbers that an assignment tells -/
def numA (cs : List Coin) (f : NK → Option Nat) (k : NK) : Int := match f k with
  | some p => match cs[p]? with
    | some c => c.1
    | none => 0
  | none => 0
theorem ext_of_pay {cs : List Coin} (hc : CsOk cs) {D0 : List NK} {f : NK → Option Nat} (P : Pay (adjL (cs.map (·.2))) D0 f) : ∀ (W D : List NK), (∀ k ∈ W, k ∈ D0) → (∀ k ∈ D, k ∈ D0) → W.Nodup → (∀ k ∈ W, k ∉ D) → Ext cs (D.map (numA cs f)) W (W.map (numA cs f))
  | [], _, _, _, _, _ => rfl
  | k :: W, D, hW, hD, nd, dj => by
    have at_ : ∀ k ∈ D0, ∃ p c, f k = some p ∧ cs[p]? = some c ∧ k ∈ c.2 ∧ numA cs f k = c.1 := fun k hk => by
      obtain ⟨p, hp⟩ := Option.isSome_iff_exists.mp ((P.dom k).mpr hk)
      obtain ⟨s, h1, h2⟩ := P.ok k p hp
      rw [List.getElem?_map] at h1
      obtain ⟨c, h3, h4⟩ := Option.map_eq_some_iff.mp h1
      refine ⟨p, c, hp, h3, h4 ▸ h2, ?_⟩
      unfold numA
      rw [hp]
      dsimp only
      rw [h3]
    obtain ⟨p, c, hp, hcp, hk, hn⟩ := at_ k (hW k List.mem_cons_self)
    refine ⟨c, List.mem_of_getElem? hcp, hk, fun q => ?_, W.map (numA cs f), by rw [List.map_cons, hn], ?_⟩
    · obtain ⟨d, hd, e⟩ := List.mem_map.mp q
      obtain ⟨p', c', hp', hcp', _, hn'⟩ := at_ d (hD d hd)
      have := num_inj hc hcp hcp' (by rw [← e, hn'])
      subst this
      have e2 : k = d := P.inj k d p hp hp'
      exact dj k List.mem_cons_self (e2 ▸ hd)
    · have := ext_of_pay hc P W (D ++ [k]) (fun x hx => hW x (List.mem_cons_of_mem _ hx)) (fun x hx => (List.mem_append.mp hx).elim (hD x) fun q => by rw [List.mem_singleton.mp q]; exact hW k List.mem_cons_self) (List.nodup_cons.mp nd).2 (fun x hx q => (List.mem_append.mp q).elim (dj x (List.mem_cons_of_mem _ hx)) fun q => by rw [List.mem_singleton.mp q] at hx; exact (List.nodup_cons.mp nd).1 hx)
      rw [List.map_append, List.map_cons, List.map_nil, hn] at this
      exact this
theorem pay_of_ext {cs : List Coin} : ∀ {W D : List NK} {a b : List Int} {f : NK → Option Nat}, Pay (adjL (cs.map (·.2))) D f → (∀ k p c, f k = some p → cs[p]? = some c → c.1 ∈ a) → W.Nodup → (∀ k ∈ W, k ∉ D) → Ext cs a W b → CanPay (adjL (cs.map (·.2))) (W.reverse ++ D)
  | [], D, a, b, f, P, _, _, _, _ => ⟨f, P⟩
  | k :: W, D, a, b, f, P, ha, nd, dj, ⟨c, hcm, hk, hna, b', _, h⟩ => by
    obtain ⟨p, hp⟩ := List.getElem?_of_mem hcm
    have P' : Pay (adjL (cs.map (·.2))) (k :: D) (upd1 f k p) := by
      refine ⟨fun y => ?_, fun y q e => ?_, fun y z q e1 e2 => ?_⟩
      · unfold upd1
        by_cases h : y = k
        · rw [if_pos h]; simp [h]
        · rw [if_neg h, P.dom y]; simp [h]
      · unfold upd1 at e
        by_cases h : y = k
        · rw [if_pos h] at e
          cases e
          exact ⟨c.2, by rw [List.getElem?_map, hp]; rfl, h ▸ hk⟩
        · rw [if_neg h] at e
          exact P.ok y q e
      · unfold upd1 at e1 e2
        by_cases h1 : y = k <;> by_cases h2 : z = k
        · rw [h1, h2]
        · rw [if_pos h1] at e1
          rw [if_neg h2] at e2
          cases e1
          exact absurd (ha z p c e2 hp) hna
        · rw [if_neg h1] at e1
          rw [if_pos h2] at e2
          cases e2
          exact absurd (ha y p c e1 hp) hna
        · rw [if_neg h1] at e1
          rw [if_neg h2] at e2
          exact P.inj y z q e1 e2
    have := pay_of_ext P' (fun y q d e hd => by
      unfold upd1 at e
      by_cases hy : y = k
      · rw [if_pos hy] at e
        cases e
        rw [hp] at hd
        cases hd
        exact List.mem_append_right _ (List.mem_singleton.mpr rfl)
      · rw [if_neg hy] at e
        exact List.mem_append_left _ (ha y q d e hd)) (List.nodup_cons.mp nd).2 (fun y hy q => (List.mem_cons.mp q).elim (fun e => (List.nodup_cons.mp nd).1 (e ▸ hy)) (dj y (List.mem_cons_of_mem _ hy))) h
    rwa [List.reverse_cons, List.append_assoc]
theorem pay_empty {cs : List Coin} {W : List NK} (nd : W.Nodup) (h : ¬ CanPay (adjL (cs.map (·.2))) W) : payL cs W = [] := by
  cases e : payL cs W with
  | nil => rfl
  | cons ns L =>
    have hm : ns ∈ payL cs W := by rw [e]; exact List.mem_cons_self
    obtain ⟨a, ha, b, _, hx⟩ := mem_payF.mp hm
    rw [List.mem_singleton.mp ha] at hx
    obtain ⟨f, F⟩ := pay_of_ext (D := []) (f := fun _ => none) ⟨fun y => by simp, (fun y p e => by cases e), (fun y z p e => by cases e)⟩ (fun k p c e => by cases e) nd (fun k _ h => (List.not_mem_nil h).elim) hx
    exact absurd ⟨f, ⟨fun y => by rw [F.dom y]; simp, F.ok, F.inj⟩⟩ h
end F16
namespace F16
open PySem PySem.Spec PyProof.Rows L2 Mp Pilot Ev Mt W16
section
variable {S t u : Sto} {R : SO}
theorem leave_any {l : Sto} {v : Val} (hS : SC S) (hv : nr v = true) (hs : vsz v ≤ 4000) : leaveS S.length v (S ++ l) = some (v, S) := by
  cases l with
  | nil => rw [List.append_nil]; exact leave_self
  | cons o l => exact leave_app hS.sb (by simp) hv hs
theorem sp_scps {cs : List Coin} : m_scps [vC cs] S = some (.lst ((cs.map (·.2)).map gV), S) := by
  refine def_ret (sl := _) rfl (show scps_1 [some (vC cs), none] S = _ from ret_ev ?_)
  rw [List.map_map]
  exact K5.eLc_all cs cV (fun c => gV c.2) (seqT_ev (var_ev rfl)) fun c _ => op2_ev (x := cV c) (y := .int 1) (var_ev rfl) con_ev at1
theorem vN_nr (ns : List Int) : nr (vN ns) = true := nrs_map fun _ _ => rfl
theorem vN_sz {ns : List Int} (h : ns.length ≤ 20) : vsz (vN ns) ≤ 30 := by
  have := vszs_map (f := Val.int) (l := ns) (m := 1) fun _ _ => by simp [vsz]
  simp only [vN, vsz]
  omega
theorem sp_cfor {cs : List Coin} {W : List NK} (hS : SC S) (hc : CsOk cs) (hW : KsOk W) (hl : W.length ≤ 5) :
    (∃ ns ∈ payL cs W, m_cfor [vC cs, gV W] S = some (vN ns, S)) ∨ (payL cs W = [] ∧ m_cfor [vC cs, gV W] S = some (.non, S)) := by
  have h := sp_asgn (S := S) (ps := gV W) (xs := W) (Sc := fun p => (cs.map (·.2)).getD p []) (G := Pq) (vs := (cs.map (·.2)).map gV)
    (sc_ok (cs.map (·.2)) Pq (fun z hz => hz.fine) fun s hs z hz => by
      obtain ⟨c, hc', rfl⟩ := List.mem_map.mp hs
      exact ((hc.ks c hc').q z hz).fine)
    (by simp only [List.length_map]; have := hc.few; omega) (fun z hz => hz.key)
    (fun R nd hR => ⟨pq_sort hR, by have := pq_len nd hR; omega⟩)
    hW.nd hW.q (fun sl T h => by rw [← ofKs_map]; exact seqT_ev (var_ev h))
  rw [List.length_map, adj_eq] at h
  have c1 : ∀ {r : Val} {S' : Sto} {a b : Val}, m_asgnK [.lst ((cs.map (·.2)).map gV), gV W] S = some (.tup [a, b], S') → cfor_1 [some (vC cs), some (gV W), none, none, none] S = some (.nxt, [some (vC cs), some (gV W), some a, some b, none], S') := fun e =>
    asg_ev (call_ev (vs := [.lst ((cs.map (·.2)).map gV), gV W]) (cons_ev (call_ev (vs := [vC cs]) (cons_ev (var_ev rfl) nil_ev) sp_scps) (cons_ev (var_ev rfl) nil_ev)) e) rfl
  rcases h with ⟨C, k, l, hC, P, nC, e⟩ | ⟨c, v, l, e⟩
  · left
    have hm : W.map (numA cs (valG C)) ∈ payL cs W := mem_payF.mpr ⟨[], List.mem_singleton.mpr rfl, _, by simp, ext_of_pay hc P W [] (fun _ h => h) (fun _ h => (List.not_mem_nil h).elim) hW.nd (fun _ _ h => (List.not_mem_nil h).elim)⟩
    have f3 : cfor_3 [some (vC cs), some (gV W), some (.ref k), some .non, none] (S ++ l) = some (.ret (vN (W.map (numA cs (valG C)))), [some (vC cs), some (gV W), some (.ref k), some .non, none], S ++ l) := by
      refine ret_ev (fn_ev (vs := [.lst (W.map fun x => Val.int (numA cs (valG C) x))]) (cons_ev ?_ nil_ev) ?_)
      · refine K5.eLc_all W ofK (fun x => Val.int (numA cs (valG C) x)) (by rw [← ofKs_map]; exact seqT_ev (var_ev rfl)) fun x hx => ?_
        obtain ⟨p, hp⟩ := Option.isSome_iff_exists.mp ((P.dom x).mpr hx)
        obtain ⟨s, h1, h2⟩ := P.ok x p hp
        rw [List.getElem?_map] at h1
        obtain ⟨c, h3, h4⟩ := Option.map_eq_some_iff.mp h1
        have hn : numA cs (valG C) x = c.1 := by
          unfold numA
          rw [hp]
          dsimp only
          rw [h3]
        have okC : keysOk (vA C) = true := keysOk_vA fun q hq => (hW.q _ ((P.dom q.1).mp (by rw [valG_at C q nC hq]; rfl))).key
        have e1 : fDGet (S ++ l) (.ref k) (ofK x) = some (.int (p : Int)) := by
          unfold fDGet
          rw [dGet_ev (.inl hC) okC (hW.q x hx).key, valG_vA, hp]
          rfl
        refine op2_ev (x := cV c) (y := .int 0) (op2_ev (x := vC cs) (y := .int (p : Int)) (var_ev rfl) (op2_ev (x := .ref k) (y := ofK x) (var_ev rfl) (var_ev rfl) e1) (L2.atI_nat (by rw [List.getElem?_map, h3]; rfl))) con_ev ?_
        rw [hn]
        exact at0
      · show some (Val.tup _) = _
        rw [vN, List.map_map]
        rfl
    refine ⟨_, hm, def_leave (S1 := S ++ l) rfl (seq_ev (c1 (r := .non) e) (seq_ev (if_f (tru_ev (op2_ev (x := .ref k) (y := .non) (var_ev rfl) con_ev rfl)) skip_ev) f3)) (leave_any hS (vN_nr _) ?_)⟩
    · have := vN_sz (ns := W.map (numA cs (valG C))) (by rw [List.length_map]; omega)
      omega
  · right
    have em := pay_empty hW.nd c
    exact ⟨em, def_leave (S1 := S ++ l) (v := .non) rfl (seq_ev (c1 (r := .non) e) (seq_ret (if_t (tru_ev (op2_ev (x := .non) (y := .non) (var_ev rfl) con_ev rfl)) (ret_ev con_ev)))) (leave_any hS rfl (by simp [vsz]))⟩
/-! ### all payments -/
theorem int_fine (i : Int) : K5.Fine (.num i) := ⟨rfl, by simp [NestedKey.depth]⟩
theorem vN_ofK (ns : List Int) : vN ns = ofK (.tup (ns.map NestedKey.num)) := by
  show Val.tup _ = Val.tup _
  congr 1
  induction ns with
  | nil => rfl
  | cons n ns ih => rw [List.map_cons, List.map_cons, ofKs, ih]; rfl
theorem nin_ev {n : Int} {a : List Int} : fIn true S (.int n) (vN a) = some (.bl (decide (n ∉ a))) := by
  have h := K5.fIn_tup (neg := true) (S := S) (a := .num n) (ks := a.map NestedKey.num) (int_fine n) fun k hk => by
    obtain ⟨i, _, rfl⟩ := List.mem_map.mp hk
    exact int_fine i
  have e : (Val.tup (ofKs (a.map NestedKey.num))) = vN a := (vN_ofK a).symm
  rw [e] at h
  rw [show (Val.int n) = ofK (.num n) from rfl, h, Bool.true_xor]
  congr 2
  by_cases q : n ∈ a
  · rw [decide_eq_true (List.mem_map_of_mem q), decide_eq_false (fun h => h q)]; rfl
  · rw [decide_eq_false (fun h => by
      obtain ⟨i, h1, h2⟩ := List.mem_map.mp h
      cases h2
      exact q h1), decide_eq_true q]; rfl
theorem inK_ev {k : NK} {C : List NK} (hk : Pq k) (hC : KsOk C) : fIn false S (ofK k) (gV C) = some (.bl (decide (k ∈ C))) := by
  rw [K5.fIn_tup hk.fine fun z hz => (hC.q z hz).fine, Bool.false_xor]
theorem pays_in {cs : List Coin} {W : List NK} {k : NK} {vf : Val} (hc : CsOk cs) (hk : Pq k) {s : Src} {T : Sto} (hs : ∀ x, s.ok (T ++ [x]) = true) : ∀ (L : List (List Int)) (acc : List (List Int)) (x5 x6 x7 : Option Val), (∀ a ∈ L, a.length ≤ 10) → acc.length + L.length * 5 ≤ 4000 →
    ∃ z5 z6 z7, forX (gNm 5) pays_2_2_1 s (L.map vN) [some (vC cs), some (gV W), some vf, some (ofK k), some (.ref T.length), x5, x6, x7] (T ++ [.lst (acc.map vN)]) = some (.nxt, [some (vC cs), some (gV W), some vf, some (ofK k), some (.ref T.length), z5, z6, z7], T ++ [.lst ((acc ++ L.flatMap (stp cs k)).map vN)])
  | [], acc, x5, x6, x7, _, _ => ⟨x5, x6, x7, by rw [List.map_nil, forX, hs, if_pos rfl]; simp⟩
  | a :: L, acc, x5, x6, x7, hL, hn => by
    rw [List.length_cons] at hn
    have big := sizes
    have la := hL a List.mem_cons_self
    have lc := hc.few
    have sl3 : (stp cs k a).length ≤ 5 := by
      unfold stp
      rw [List.length_map]
      exact Nat.le_trans (List.length_filter_le _ _) hc.few
    have q := eLcT_ev (is := [6, 7]) (it := iSeq (eVar 0)) (tt := tAndD (tTru (eOp2 (fIn false) (eVar 3) (eVar 7))) (tTru (eOp2 (fIn true) (eVar 6) (eVar 5)))) (m := eOp2 fAdd (eVar 5) (eTup (es1 (eVar 6)))) (vs := [6, 7]) (sl := [some (vC cs), some (gV W), some vf, some (ofK k), some (.ref T.length), some (vN a), x6, x7]) (S := T ++ [.lst (acc.map vN)]) (S1 := T ++ [.lst (acc.map vN)])
      cs cV (fun c => [some (vC cs), some (gV W), some vf, some (ofK k), some (.ref T.length), some (vN a), some (.int c.1), some (gV c.2)]) (fun c => decide (k ∈ c.2) && decide (c.1 ∉ a)) (fun c => vN (a ++ [c.1])) (seqT_ev (var_ev rfl)) (fun c _ => rfl)
      (fun c hcm => by
        have t1 : tTru (eOp2 (fIn false) (eVar 3) (eVar 7)) [some (vC cs), some (gV W), some vf, some (ofK k), some (.ref T.length), some (vN a), some (.int c.1), some (gV c.2)] (T ++ [.lst (acc.map vN)]) = some (decide (k ∈ c.2), T ++ [.lst (acc.map vN)]) := tru_ev (op2_ev (x := ofK k) (y := gV c.2) (var_ev rfl) (var_ev rfl) (inK_ev hk (hc.ks c hcm)))
        have t2 : tTru (eOp2 (fIn true) (eVar 6) (eVar 5)) [some (vC cs), some (gV W), some vf, some (ofK k), some (.ref T.length), some (vN a), some (.int c.1), some (gV c.2)] (T ++ [.lst (acc.map vN)]) = some (decide (c.1 ∉ a), T ++ [.lst (acc.map vN)]) := tru_ev (op2_ev (x := .int c.1) (y := vN a) (var_ev rfl) (var_ev rfl) nin_ev)
        cases hb : decide (k ∈ c.2) with
        | true => rw [hb] at t1; rw [Bool.true_and]; exact and_t t1 t2
        | false => rw [hb] at t1; rw [Bool.false_and]; exact and_f t1)
      (fun c _ _ => op2_ev (x := vN a) (y := .tup [.int c.1]) (var_ev rfl) (tup_ev (cons_ev (var_ev rfl) nil_ev)) (by
        show (if (a.map Val.int).length + 1 ≤ sizeLine then some (Val.tup (a.map Val.int ++ [Val.int c.1])) else none) = _
        rw [if_pos (by rw [List.length_map]; omega), vN, List.map_append]
        rfl))
    have s1 : pays_2_2_1 [some (vC cs), some (gV W), some vf, some (ofK k), some (.ref T.length), some (vN a), x6, x7] (T ++ [.lst (acc.map vN)]) = some (.nxt, [some (vC cs), some (gV W), some vf, some (ofK k), some (.ref T.length), some (vN a), x6, x7], T ++ [.lst ((acc ++ stp cs k a).map vN)]) := by
      refine exp_ev (v := .non) (meth_ev (v := .ref T.length) (vs := [.lst ((stp cs k a).map vN)]) (S1 := T ++ [.lst (acc.map vN)]) (S2 := T ++ [.lst (acc.map vN)]) (var_ev rfl) (isL_ev last0) (cons_ev ?_ nil_ev) ?_)
      · rw [q]
        unfold stp
        rw [List.map_map]
        rfl
      · rw [fExt_lst last0 (by rw [List.length_map, List.length_map]; omega), setl, List.map_append]
    obtain ⟨z5, z6, z7, e⟩ := pays_in (W := W) (vf := vf) hc hk hs L (acc ++ stp cs k a) (some (vN a)) x6 x7 (fun b hb => hL b (List.mem_cons_of_mem _ hb)) (by rw [List.length_append]; omega)
    refine ⟨z5, z6, z7, ?_⟩
    rw [List.map_cons, forX, hs, if_pos rfl, show gNm 5 [some (vC cs), some (gV W), some vf, some (ofK k), some (.ref T.length), x5, x6, x7] (T ++ [.lst (acc.map vN)]) (vN a) = some [some (vC cs), some (gV W), some vf, some (ofK k), some (.ref T.length), some (vN a), x6, x7] from rfl, Option.bind_some, s1, Option.bind_some]
    dsimp only
    rw [e, List.flatMap_cons, List.append_assoc]
/-- how found stands -/
def FndAt (m : Nat) (T : Sto) (L : List (List Int)) (v : Val) : Prop := v = .lst (L.map vN) ∨ ∃ n, (m ≤ n ∧ n < T.length) ∧ v = .ref n ∧ T[n]? = some (.lst (L.map vN))
theorem pays_out {m : Nat} {cs : List Coin} {W : List NK} (hc : CsOk cs) {s : Src} (hs : s.n = none) : ∀ (ks : List NK) (L : List (List Int)) (T : Sto) (vf : Val) (x3 x4 x5 x6 x7 : Option Val), (∀ k ∈ ks, Pq k) → m ≤ T.length → FndAt m T L vf → (∀ a ∈ L, a.length + ks.length ≤ 10) → L.length * 5 ^ ks.length ≤ 4000 →
    ∃ l vf' z3 z4 z5 z6 z7, FndAt m (T ++ l) (payF cs ks L) vf' ∧ forX (gNm 3) (sSeq pays_2_1 (sSeq pays_2_2 pays_2_3)) s (ks.map ofK) [some (vC cs), some (gV W), some vf, x3, x4, x5, x6, x7] T = some (.nxt, [some (vC cs), some (gV W), some vf', z3, z4, z5, z6, z7], T ++ l)
  | [], L, T, vf, x3, x4, x5, x6, x7, _, _, hf, _, _ => ⟨[], vf, x3, x4, x5, x6, x7, by rw [List.append_nil]; exact hf, by simp [forX, Src.ok, hs]⟩
  | k :: ks, L, T, vf, x3, x4, x5, x6, x7, hk, hm, hf, hL, hn => by
    rw [List.length_cons, Nat.pow_succ] at hn
    have hn1 : L.length * 5 ≤ 4000 := by
      have : 1 ≤ 5 ^ ks.length := Nat.one_le_pow _ _ (by decide)
      calc L.length * 5 ≤ L.length * (5 ^ ks.length * 5) := Nat.mul_le_mul_left _ (by omega)
        _ ≤ 4000 := hn
    have s1 : pays_2_1 [some (vC cs), some (gV W), some vf, some (ofK k), x4, x5, x6, x7] T = some (.nxt, [some (vC cs), some (gV W), some vf, some (ofK k), some (.ref T.length), x5, x6, x7], T ++ [.lst (([] : List (List Int)).map vN)]) := set_ev (lstM_ev nil_ev)
    have src : ∃ s : Src, s.l = L.map vN ∧ (∀ x, s.ok (T ++ [x]) = true) ∧ iSeq (eVar 2) [some (vC cs), some (gV W), some vf, some (ofK k), some (.ref T.length), x5, x6, x7] (T ++ [.lst (([] : List (List Int)).map vN)]) = some (s, T ++ [.lst (([] : List (List Int)).map vN)]) := by
      rcases hf with rfl | ⟨n, ⟨_, hn⟩, rfl, h⟩
      · exact ⟨⟨L.map vN, none⟩, rfl, fun _ => rfl, seqL_ev (var_ev rfl)⟩
      · exact ⟨⟨L.map vN, some n⟩, rfl, fun x => src_ok (by rw [List.getElem?_append_left hn]; exact h), seqR_ev (var_ev rfl) (by rw [List.getElem?_append_left hn]; exact h)⟩
    obtain ⟨s', sl', so, si⟩ := src
    obtain ⟨z5, z6, z7, e⟩ := pays_in (W := W) (vf := vf) (T := T) hc (hk k List.mem_cons_self) so L [] x5 x6 x7 (fun a ha => by have := hL a ha; omega) (by simpa using hn1)
    rw [List.nil_append] at e
    have s2 : pays_2_2 [some (vC cs), some (gV W), some vf, some (ofK k), some (.ref T.length), x5, x6, x7] (T ++ [.lst (([] : List (List Int)).map vN)]) = some (.nxt, [some (vC cs), some (gV W), some vf, some (ofK k), some (.ref T.length), z5, z6, z7], T ++ [.lst ((L.flatMap (stp cs k)).map vN)]) := for_ev si (by rw [sl']; exact e)
    have s3 : pays_2_3 [some (vC cs), some (gV W), some vf, some (ofK k), some (.ref T.length), z5, z6, z7] (T ++ [.lst ((L.flatMap (stp cs k)).map vN)]) = some (.nxt, [some (vC cs), some (gV W), some (.ref T.length), some (ofK k), some (.ref T.length), z5, z6, z7], T ++ [.lst ((L.flatMap (stp cs k)).map vN)]) := set_ev (var_ev rfl)
    have fl : (L.flatMap (stp cs k)).length ≤ L.length * 5 := by
      clear e s2 s3 hf sl' hn hn1
      induction L with
      | nil => simp
      | cons a L ih =>
        have h3 : (stp cs k a).length ≤ 5 := by
          unfold stp
          rw [List.length_map]
          exact Nat.le_trans (List.length_filter_le _ _) hc.few
        have := ih fun b hb => hL b (List.mem_cons_of_mem _ hb)
        rw [List.flatMap_cons, List.length_append, List.length_cons, Nat.add_mul]
        omega
    obtain ⟨l, vf', y3, y4, y5, y6, y7, hf', e2⟩ := pays_out (W := W) hc hs ks (L.flatMap (stp cs k)) (T ++ [.lst ((L.flatMap (stp cs k)).map vN)]) (.ref T.length) (some (ofK k)) (some (.ref T.length)) z5 z6 z7 (fun x hx => hk x (List.mem_cons_of_mem _ hx)) (by rw [List.length_append]; omega) (.inr ⟨T.length, ⟨hm, by simp⟩, rfl, last0⟩) (fun b hb => by
      obtain ⟨a, ha, h1⟩ := List.mem_flatMap.mp hb
      obtain ⟨c, _, rfl⟩ := List.mem_map.mp h1
      have := hL a ha
      rw [List.length_cons] at this
      simp only [List.length_append, List.length_cons, List.length_nil]
      omega) (by
      calc (L.flatMap (stp cs k)).length * 5 ^ ks.length ≤ L.length * 5 * 5 ^ ks.length := Nat.mul_le_mul_right _ fl
        _ = L.length * (5 ^ ks.length * 5) := by rw [Nat.mul_assoc, Nat.mul_comm 5]
        _ ≤ 4000 := hn)
    rw [List.append_assoc] at hf' e2
    exact ⟨_, vf', y3, y4, y5, y6, y7, hf', for_cons hs rfl (seq_ev s1 (seq_ev s2 s3)) e2⟩
theorem sp_pays {cs : List Coin} {W : List NK} (hS : SC S) (hc : CsOk cs) (hW : KsOk W) (hl : W.length ≤ 5) : m_pays [vC cs, gV W] S = some (.lst ((payL cs W).map vN), S) := by
  obtain ⟨l, vf, z3, z4, z5, z6, z7, hf, e⟩ := pays_out (W := W) hc (s := ⟨W.map ofK, none⟩) rfl W [[]] S (.lst ([[]].map vN)) none none none none none hW.q (Nat.le_refl _) (.inl rfl) (fun a ha => by rw [List.mem_singleton.mp ha]; simp only [List.length_nil]; omega) (by
    have : 5 ^ W.length ≤ 5 ^ 5 := Nat.pow_le_pow_right (by decide) hl
    simp only
          [List.length_cons, List.length_nil]
    omega)
  have f1 : pays_1 [some (vC cs), some (gV W), none, none, none, none, none, none] S = some (.nxt, [some (vC cs), some (gV W), some (.lst ([[]].map vN)), none, none, none, none, none], S) := set_ev (lst_ev (cons_ev (tup_ev nil_ev) nil_ev))
  have f2 : pays_2 [some (vC cs), some (gV W), some (.lst ([[]].map vN)), none, none, none, none, none] S = some (.nxt, [some (vC cs), some (gV W), some vf, z3, z4, z5, z6, z7], S ++ l) := for_ev (s := ⟨W.map ofK, none⟩) (by rw [← ofKs_map]; exact seqT_ev (var_ev rfl)) e
  have hsz : vszs ((payL cs W).map vN) ≤ 3200 + 40 := by
    have h1 := vszs_map (f := vN) (l := payL cs W) (m := 30) fun ns h => vN_sz (by have := (pay_num hc h).2; omega)
    have h2 := payF_len hc W [[]]
    have : 5 ^ W.length ≤ 5 ^ 5 := Nat.pow_le_pow_right (by decide) hl
    simp only [List.length_cons, List.length_nil] at h2
    unfold payL at h1 ⊢
    omega
  have hnr : nrs ((payL cs W).map vN) = true := nrs_map fun ns _ => vN_nr ns
  refine def_leave rfl (seq_ev f1 (seq_ev f2 (ret_ev (var_ev rfl)))) ?_
  rcases hf with rfl | ⟨n, ⟨hn0, hn⟩, rfl, h⟩
  · exact leave_any hS hnr (by simp only [vsz]; unfold payL at hsz; omega)
  · refine leave_gen hS.sb (fun q => by rw [q, List.append_nil] at hn; omega) ?_
    simp only [fzV]
    rw [if_neg (by omega), h]
    show (fzVs (S ++ l) S.length 3999 ((payL cs W).map vN)).map Val.lst = _
    rw [(fz_nr 3999).2 _ hnr (by omega)]
    rfl
end
end F16
namespace F16
open PySem PySem.Spec PyProof.Rows L2 Mp Pilot Ev Mt W16
section
variable {S t u : Sto} {R : SO}
/-! ### the wanted pairs -/
abbrev waS (E : List NK) (x5 : Option Val) : Sl := [some (.ref 0), some (.lst (ofKs E)), some (.int 5), some (.ref 1), some (.ref 2), x5]
theorem er_map {α β : Type} (f : α → β) : ∀ (l : List α) (n : Nat), (l.map f).eraseIdx n = (l.eraseIdx n).map f
  | [], _ => rfl
  | _ :: _, 0 => rfl
  | x :: l, n + 1 => by
    show f x :: (l.map f).eraseIdx n = f x :: (l.eraseIdx n).map f
    rw [er_map f l n]
theorem er_perm {α : Type} : ∀ (l : List α) (n : Nat) (h : n < l.length), (l[n] :: l.eraseIdx n).Perm l
  | x :: l, 0, _ => .refl _
  | x :: l, n + 1, h => by
    show (l[n]'(by simpa using h) :: x :: l.eraseIdx n).Perm (x :: l)
    exact (List.Perm.swap x _ _).trans ((er_perm l n (by simpa using h)).cons x)
theorem fPop_at {S : Sto} {n k : Nat} {i : Int} {ys : List Val} {y : Val} (hs : S[n]? = some (.lst ys)) (hc : -(2 ^ 63) ≤ i ∧ i < 2 ^ 63) (hk : seqIndex? i ys.length = some k) (hy : ys[k]? = some y) : fPop S (.ref n) [.int i] = some (y, S.set n (.lst (ys.eraseIdx k))) := by
  simp only [fPop, hs]
  rw [if_pos hc, hk, Option.bind_some, hy, Option.map_some]
theorem nums_depth : ∀ ns : List Int, NestedKey.depthAll (ns.map NestedKey.num) ≤ 3
  | [] => by simp [NestedKey.depthAll]
  | n :: ns => by
    have := nums_depth ns
    simp only [List.map_cons, NestedKey.depthAll, NestedKey.depth]
    omega
theorem popK {R' : SO} {P : List NK} {F : SO} {n : Nat} (h : n < P.length) (hl : P.length < 1000) : fPop [R', .lst (ofKs P), F] (.ref 1) [.int (n : Int)] = some (ofK P[n], [R', .lst (ofKs (P.eraseIdx n)), F]) := by
  have e1 : seqIndex? (n : Int) (ofKs P).length = some n := by
    rw [seqIndex_of (k := (n : Int)) (n := (ofKs P).length) (by omega) (by rw [ofKs_map, List.length_map]; omega), Int.toNat_natCast]
  have e2 : (ofKs P)[n]? = some (ofK P[n]) := by rw [ofKs_map, List.getElem?_map, List.getElem?_eq_getElem h]; rfl
  have e3 : (ofKs P).eraseIdx n = ofKs (P.eraseIdx n) := by rw [ofKs_map, ofKs_map, er_map]
  have q := fPop_at (S := [R', .lst (ofKs P), F]) (n := 1) rfl (by omega) e1 e2
  rw [e3] at q
  exact q
theorem want_loop {E : List NK} {s : Src} (hs : s.n = none) : ∀ (js : List Nat) {R : SO} (P F : List NK) (x5 : Option Val), IsR R → KsOk (F ++ P) → js.length ≤ P.length →
    ∃ R' P' F' z5, IsR R' ∧ KsOk F' ∧ F'.length = F.length + js.length ∧ forX (gNm 5) want_2_1 s (js.map fun i : Nat => Val.int (i : Int)) (waS E x5) [R, .lst (ofKs P), .lst (ofKs F)] = some (.nxt, waS E z5, [R', .lst (ofKs P'), .lst (ofKs F')])
  | [], R, P, F, x5, hR, hk, _ => ⟨R, P, F, x5, hR, ⟨(List.nodup_append.mp hk.nd).1, fun k h => hk.q k (List.mem_append_left _ h)⟩, rfl, by simp [forX, Src.ok, hs]⟩
  | j :: js, R, P, F, x5, hR, hk, hl => by
    rw [List.length_cons] at hl
    have kl := hk.len
    rw [List.length_append] at kl
    have big := sizes
    obtain ⟨d, R1, hR1, d0, d1, e1⟩ := draw_ev (t := [.lst (ofKs P), .lst (ofKs F)]) (sl := waS E (some (.int (j : Int)))) (a := eFn fLen (es1 (eVar 3))) (many := (P.length : Int)) hR rfl (fn_ev (vs := [.ref 1]) (cons_ev (var_ev rfl) nil_ev) (by
      show some (Val.int ((ofKs P).length : Nat)) = _
      rw [ofKs_map, List.length_map])) (by omega) (by omega)
    obtain ⟨n, rfl⟩ : ∃ n : Nat, d = (n : Int) := ⟨d.toNat, by omega⟩
    have hn : n < P.length := by omega
    have pp := popK (R' := R1) (P := P) (F := .lst (ofKs F)) hn (by omega)
    have pe : eMeth isL fPop (eVar 3) (es1 (eCall m_drawK (es2 (eVar 0) (eFn fLen (es1 (eVar 3)))))) (waS E (some (.int (j : Int)))) [R, .lst (ofKs P), .lst (ofKs F)] = some (ofK P[n], [R1, .lst (ofKs (P.eraseIdx n)), .lst (ofKs F)]) :=
      meth_ev (v := .ref 1) (vs := [.int (n : Int)]) (S1 := [R, .lst (ofKs P), .lst (ofKs F)]) (S2 := [R1, .lst (ofKs P), .lst (ofKs F)]) (var_ev rfl) rfl (cons_ev e1 nil_ev) pp
    have s1 : want_2_1 (waS E (some (.int (j : Int)))) [R, .lst (ofKs P), .lst (ofKs F)] = some (.nxt, waS E (some (.int (j : Int))), [R1, .lst (ofKs (P.eraseIdx n)), .lst (ofKs (F ++ [P[n]]))]) := by
      refine exp_ev (v := .non) (meth_ev (v := .ref 2) (vs := [ofK P[n]]) (S1 := [R, .lst (ofKs P), .lst (ofKs F)]) (S2 := [R1, .lst (ofKs (P.eraseIdx n)), .lst (ofKs F)]) (var_ev rfl) rfl (cons_ev pe nil_ev) ?_)
      rw [fApp_ev rfl (by rw [ofKs_map, List.length_map]; omega), ofKs_map (F ++ [P[n]]), List.map_append, ← ofKs_map F]
      rfl
    have pm : (F ++ [P[n]] ++ P.eraseIdx n).Perm (F ++ P) := by
      rw [List.append_assoc]
      exact (er_perm P n hn).append_left F
    obtain ⟨R2, P2, F2, z5, a1, a2, a3, a4⟩ := want_loop (E := E) hs js (P.eraseIdx n) (F ++ [P[n]]) (some (.int (j : Int))) hR1 ⟨pm.nodup_iff.mpr hk.nd, fun k h => hk.q k (pm.mem_iff.mp h)⟩ (by rw [List.length_eraseIdx, if_pos hn]; omega)
    exact ⟨R2, P2, F2, z5, a1, a2, by rw [a3, List.length_append]; simp only [List.length_cons, List.length_nil]; omega, for_cons hs rfl s1 a4⟩
theorem sp_want {E : List NK} (hE : KsOk E) (hR : IsR R) : ∃ W R', KsOk W ∧ W.length ≤ 5 ∧ IsR R' ∧ m_want [.ref 0, .lst (ofKs E), .int 5] [R] = some (gV W, [R']) := by
  have el := hE.len
  have f1 : want_1 [some (.ref 0), some (.lst (ofKs E)), some (.int 5), none, none, none] [R] = some (.nxt, waS E none, [R, .lst (ofKs E), .lst (ofKs [])]) :=
    par_ev (v := .ref 1) (S1 := [R, .lst (ofKs E)]) (show eAdopt (eFn fLstOf (es1 (eVar 1))) _ _ = some (.ref 1, [R, .lst (ofKs E)]) from rfl) (lstM_ev nil_ev)
  have em : eFn fMin2 (es2 (eVar 2) (eFn fLen (es1 (eVar 3)))) (waS E none) [R, .lst (ofKs E), .lst (ofKs [])] = some (.int (if (E.length : Int) < 5 then (E.length : Int) else 5), [R, .lst (ofKs E), .lst (ofKs [])]) := by
    refine fn_ev (vs := [.int 5, .int (E.length : Int)]) (cons_ev (var_ev rfl) (cons_ev (fn_ev (vs := [.ref 1]) (cons_ev (var_ev rfl) nil_ev) ?_) nil_ev)) rfl
    show some (Val.int ((ofKs E).length : Nat)) = _
    rw [ofKs_map, List.length_map]
  obtain ⟨d, R1, hR1, d0, d1, e1⟩ := draw_ev (t := [.lst (ofKs E), .lst (ofKs [])]) (sl := waS E none) (a := eOp2 fAdd (eFn fMin2 (es2 (eVar 2) (eFn fLen (es1 (eVar 3))))) (eCon (.int 1))) (many := (if (E.length : Int) < 5 then (E.length : Int) else 5) + 1) hR rfl (op2_ev em con_ev rfl) (by split <;> omega) (by split <;> omega)
  have dl : d.toNat ≤ E.length ∧ d.toNat ≤ 5 := by
    split at d1 <;> omega
  obtain ⟨R2, P2, F2, z5, hR2, hF, hl, e2⟩ := want_loop (E := E) (s := ⟨(List.range d.toNat).map fun i : Nat => Val.int (i : Int), none⟩) rfl (List.range d.toNat) E [] none hR1 (by simpa using hE) (by rw [List.length_range]; omega)
  rw [List.length_range, List.length_nil] at hl
  have f2 : want_2 (waS E none) [R, .lst (ofKs E), .lst (ofKs [])] = some (.nxt, waS E z5, [R2, .lst (ofKs P2), .lst (ofKs F2)]) := for_ev (rng_evS e1 d0 (by omega)) e2
  refine ⟨F2, R2, hF, by omega, hR2, def_leave (S1 := [R2] ++ [.lst (ofKs P2), .lst (ofKs F2)]) (v := gV F2) rfl (seq_ev f1 (seq_ev f2 (ret_ev (fn_ev (vs := [.ref 2]) (cons_ev (var_ev rfl) nil_ev) rfl)))) (leave_app (S := [R2]) (SB1 hR2) (by simp) (nrs_ofKs _) ?_)⟩
  have := ks_sz hF
  simp only [vsz]
  omega
/-! ### agreement -/
theorem Pq.sh {k : NK} (h : Pq k) : wsh (ofK k) = true ∧ wwt (ofK k) ≤ 18 ∧ vdp (ofK k) ≤ 1 := by
  obtain ⟨i, hi, c, hc, rfl⟩ := h
  have a1 : ∀ c ∈ N3, wsh (.str c) = true := by decide +kernel
  have a2 : ∀ c ∈ W5, wsh (.str c) = true := by decide +kernel
  refine ⟨?_, ?_, ?_⟩
  · show (wsh (.str i) && (wsh (.str c) && true)) = true
    rw [a1 i hi, a2 c hc]; rfl
  · show wwts [.str i, .str c] ≤ 18
    simp [wwts, wwt]
  · show vdps [.str i, .str c] + 1 ≤ 1
    simp [vdps, vdp]
theorem ks_sh {K : List NK} (h : KsOk K) : wsh (gV K) = true ∧ wwt (gV K) ≤ 400 ∧ vdp (gV K) ≤ 2 := by
  have h1 := wshs_map (f := ofK) (l := K) fun k hk => (h.q k hk).sh.1
  have h2 := wwts_map (f := ofK) (l := K) (m := 18) fun k hk => (h.q k hk).sh.2.1
  have h3 := vdps_map (f := ofK) (l := K) (m := 1) fun k hk => (h.q k hk).sh.2.2
  have hl := h.len
  rw [← ofKs_map] at h1 h2 h3
  refine ⟨h1, ?_, ?_⟩
  · show wwts (ofKs K) ≤ 400
    omega
  · show vdps (ofKs K) + 1 ≤ 2
    omega
theorem num_sh {i : Int} (h : numOk i) : wsh (.int i) = true := by
  unfold numOk at h
  simp only [wsh, decide_eq_true_eq]
  omega
theorem cs_sh {cs : List Coin} (hc : CsOk cs) : wsh (vC cs) = true ∧ wwt (vC cs) ≤ 5000 ∧ vdp (vC cs) ≤ 4 := by
  have h1 := wshs_map (f := cV) (l := cs) fun c h => by
    show (wsh (.int c.1) && (wsh (gV c.2) && true)) = true
    rw [(ks_sh (hc.ks c h)).1, num_sh (hc.num c h)]
    rfl
  have h2 := wwts_map (f := cV) (l := cs) (m := 700) fun c h => by
    have := (ks_sh (hc.ks c h)).2.1
    simp only [cV, wwt, wwts] at this ⊢
    omega
  have h3 := vdps_map (f := cV) (l := cs) (m := 3) fun c h => by
    have := (ks_sh (hc.ks c h)).2.2
    simp only [cV, vdp, vdps] at this ⊢
    omega
  have := hc.few
  refine ⟨h1, ?_, ?_⟩
  · simp only [wwt]; omega
  · simp only [vdp]; omega
theorem repr_two {cs : List Coin} {W : List NK} (hc : CsOk cs) (hW : KsOk W) : ∃ x : Str, ∀ S : Sto, fRepr S [.tup [vC cs, gV W]] = some (.str x) := by
  obtain ⟨g1, g2, g3⟩ := ks_sh hW
  obtain ⟨c1, c2, c3⟩ := cs_sh hc
  refine reprW_ev ?_ ?_ ?_
  · show (wsh (vC cs) && (wsh (gV W) && true)) = true
    rw [g1, c1]; rfl
  · rw [wwt]; simp only [wwts]
    omega
  · rw [vdp]; simp only [vdps]
    omega
theorem repr_ns (ns : List Int) : ∃ x : Str, (∀ n ∈ ns, numOk n) → ns.length ≤ 20 → ∀ S : Sto, fRepr S [vN ns] = some (.str x) := by
  by_cases h : (∀ n ∈ ns, numOk n) ∧ ns.length ≤ 20
  · have a1 := wshs_map (f := Val.int) (l := ns) fun n hn => num_sh (h.1 n hn)
    have a2 := wwts_map (f := Val.int) (l := ns) (m := 201) fun n _ => by simp [wwt]
    have a3 := vdps_map (f := Val.int) (l := ns) (m := 0) fun n _ => by simp [vdp]
    obtain ⟨x, hx⟩ := reprW_ev (v := vN ns) a1 (by simp only [vN, wwt]; omega) (by simp only [vN, vdp]; omega)
    exact ⟨x, fun _ _ => hx⟩
  · exact ⟨"", fun h1 h2 => absurd ⟨h1, h2⟩ h⟩
noncomputable def txN (ns : List Int) : Str := Classical.choose (repr_ns ns)
theorem txN_ev {ns : List Int} (h1 : ∀ n ∈ ns, numOk n) (h2 : ns.length ≤ 20) : fRepr S [vN ns] = some (.str (txN ns)) := Classical.choose_spec (repr_ns ns) h1 h2 S
theorem toStrs_map {α : Type} (f : α → Str) : ∀ l : List α, toStrs (l.map fun x => Val.str (f x)) = some (l.map f)
  | [] => rfl
  | x :: l => by simp only [List.map_cons, toStrs, toStrs_map f l, Option.map_some]
theorem pays_nil {neg : Bool} {L : List (List Int)} : fEq neg S (.lst (L.map vN)) (.lst []) = some (.bl (neg ^^ decide (L = []))) := by
  have e : ofKs (L.map fun ns => NestedKey.tup (ns.map NestedKey.num)) = L.map vN := by
    rw [ofKs_map, List.map_map]
    exact List.map_congr_left fun ns _ => (vN_ofK ns).symm
  have fi : ∀ k ∈ L.map fun ns => NestedKey.tup (ns.map NestedKey.num), K5.Fine k := fun k hk => by
    obtain ⟨ns, _, rfl⟩ := List.mem_map.mp hk
    refine ⟨?_, ?_⟩
    · have : PyData.canLayAll0 (NestedKey.datas (ns.map NestedKey.num)) = true := K5.canLayAll0_of fun k hk => by
        obtain ⟨i, _, rfl⟩ := List.mem_map.mp hk
        rfl
      simpa [NestedKey.data, PyData.canLay0] using this
    · have := nums_depth ns
      show NestedKey.depthAll (ns.map NestedKey.num) + 1 ≤ 6
      omega
  have h := K5.fEq_lst (neg := neg) (S := S) (a := L.map fun ns => NestedKey.tup (ns.map NestedKey.num)) (b := []) fi (fun _ h => (List.not_mem_nil h).elim) (by
    have : PyData.depthAll (NestedKey.datas (L.map fun ns => NestedKey.tup (ns.map NestedKey.num))) ≤ 10 := by
      clear e
      revert fi
      generalize (L.map fun ns => NestedKey.tup (ns.map NestedKey.num)) = ks
      intro fi
      induction ks with
      | nil => simp [NestedKey.datas, PyData.depthAll]
      | cons k ks ih =>
        have h1 := (fi k List.mem_cons_self).2
        have h2 := ih fun x hx => fi x (List.mem_cons_of_mem _ hx)
        rw [NestedKey.datas, PyData.depthAll, data_depth]
        omega
    simp only [PyData.depth]
    omega)
  rw [e] at h
  have e0 : (Val.lst (ofKs []) : Val) = .lst [] := rfl
  rw [e0] at h
  rw [h]
  congr 3
  exact decide_eq_decide.mpr List.map_eq_nil_iff
theorem sp_agr {cs : List Coin} {W : List NK} (hS : SC S) (hc : CsOk cs) (hW : KsOk W) (hl : W.length ≤ 5) : m_agr [vC cs, gV W] S = some (.bl true, S) := by
  obtain ⟨x, hx⟩ := repr_two hc hW
  have kt : ∀ {sl : Sl}, sl[0]? = some (some (vC cs)) → sl[1]? = some (some (gV W)) → eFn fRepr (es1 (eTup (es2 (eVar 0) (eVar 1)))) sl S = some (.str x, S) := fun h0 h1 => fn_ev (vs := [.tup [vC cs, gV W]]) (cons_ev (tup_ev (cons_ev (var_ev h0) (cons_ev (var_ev h1) nil_ev))) nil_ev) (hx S)
  have f1 : agr_1 [some (vC cs), some (gV W), none, none, none, none] S = some (.nxt, [some (vC cs), some (gV W), some (.str x), some (.lst ((payL cs W).map vN)), none, none], S) := par_ev (kt rfl rfl) (call_ev (vs := [vC cs, gV W]) (cons_ev (var_ev rfl) (cons_ev (var_ev rfl) nil_ev)) (sp_pays hS hc hW hl))
  have f3 : agr_3 = agr_3 := rfl
  have pn : ∀ ns ∈ payL cs W, (∀ n ∈ ns, numOk n) ∧ ns.length ≤ 20 := fun ns h => ⟨(pay_num hc h).1, by have := (pay_num hc h).2; omega⟩
  -- one turn
  have turn : ∀ (v : Val) (x4 : Option Val), ((∃ ns ∈ payL cs W, v = vN ns) ∨ (payL cs W = [] ∧ v = .non)) → (sSeq agr_2_1 agr_2_2) [some (vC cs), some (gV W), some (.str x), some (.lst ((payL cs W).map vN)), some v, none] S = some (.nxt, [some (vC cs), some (gV W), some (.str x), some (.lst ((payL cs W).map vN)), some v, none], S) := fun v x4 h => by
    have q1 : ∀ neg, tTru (eOp2 (fEq neg) (eVar 3) (eLst esNil)) [some (vC cs), some (gV W), some (.str x), some (.lst ((payL cs W).map vN)), some v, none] S = some (neg ^^ decide (payL cs W = []), S) := fun neg => tru_ev (op2_ev (x := .lst ((payL cs W).map vN)) (y := .lst []) (var_ev rfl) (lst_ev nil_ev) pays_nil)
    have q1f := q1 false
    have q1t := q1 true
    rw [Bool.false_xor] at q1f
    rw [Bool.true_xor] at q1t
    rcases h with ⟨ns, hns, rfl⟩ | ⟨he, rfl⟩
    · have hne : payL cs W ≠ [] := fun e => by rw [e] at hns; exact List.not_mem_nil hns
      rw [decide_eq_false hne] at q1f q1t
      have r1 := eFn fRepr (es1 (eVar 4))
      have e4 : eFn fRepr (es1 (eVar 4)) [some (vC cs), some (gV W), some (.str x), some (.lst ((payL cs W).map vN)), some (vN ns), none] S = some (.str (txN ns), S) := fn_ev (vs := [vN ns]) (cons_ev (var_ev rfl) nil_ev) (txN_ev (pn ns hns).1 (pn ns hns).2)
      have e5 : eLc (.nm 5) (iSeq (eVar 3)) tYesM (eFn fRepr (es1 (eVar 5))) [5] [some (vC cs), some (gV W), some (.str x), some (.lst ((payL cs W).map vN)), some (vN ns), none] S = some (.lst ((payL cs W).map fun ns => Val.str (txN ns)), S) :=
        K5.eLc_all (payL cs W) vN (fun ns => Val.str (txN ns)) (seqL_ev (var_ev rfl)) fun m hm => fn_ev (vs := [vN m]) (cons_ev (var_ev rfl) nil_ev) (txN_ev (pn m hm).1 (pn m hm).2)
      have e6 : fInS true S (.str (txN ns)) (.lst ((payL cs W).map fun ns => Val.str (txN ns))) = some (.bl false) := by
        simp only [fInS, lstOf, Option.bind_some, toStrs_map]
        rw [decide_eq_true (List.mem_map_of_mem hns)]
        rfl
      exact seq_ev (if_f (and_f q1f) skip_ev) (if_f (and_t q1t (tru_ev (op2_ev e4 e5 e6))) skip_ev)
    · rw [decide_eq_true he] at q1f q1t
      exact seq_ev (if_f (and_t q1f (tru_ev (op2_ev (x := .non) (y := .non) (var_ev rfl) con_ev rfl))) skip_ev) (if_f (and_f q1t) skip_ev)
  obtain ⟨v, hv, ev⟩ : ∃ v, ((∃ ns ∈ payL cs W, v = vN ns) ∨ (payL cs W = [] ∧ v = .non)) ∧ m_cfor [vC cs, gV W] S = some (v, S) := by
    rcases sp_cfor hS hc hW hl with ⟨ns, hns, e⟩ | ⟨he, e⟩
    · exact ⟨_, .inl ⟨ns, hns, rfl⟩, e⟩
    · exact ⟨_, .inr ⟨he, rfl⟩, e⟩
  have f2 : agr_2 [some (vC cs), some (gV W), some (.str x), some (.lst ((payL cs W).map vN)), none, none] S = some (.nxt, [some (vC cs), some (gV W), some (.str x), some (.lst ((payL cs W).map vN)), some v, none], S) := by
    refine for_ev (s := ⟨[v, v], none⟩) (seqT_ev (tup_ev (cons_ev (call_ev (vs := [vC cs, gV W]) (cons_ev (var_ev rfl) (cons_ev (var_ev rfl) nil_ev)) ev) (cons_ev (callK_ev (vs := [gV W, vC cs]) (ws := [vC cs, gV W]) (cons_ev (var_ev rfl) (cons_ev (var_ev rfl) nil_ev)) rfl rfl ev) nil_ev)))) ?_
    exact for_cons rfl rfl (turn v none hv) (for_cons rfl rfl (turn v none hv) rfl)
  exact def_ret rfl (seq_ev f1 (seq_ev f2 (ret_ev (op2_ev (x := .str x) (y := .str x) (kt rfl rfl) (var_ev rfl) eqS_ev))))
end
end F16
namespace F16
open PySem PySem.Spec PyProof.Rows L2 Mp Pilot Ev Mt W16
section
variable {S t u : Sto} {R : SO}
theorem keys_nil {neg : Bool} {F : List NK} (h : KsOk F) : fEq neg S (.lst (ofKs F)) (.lst []) = some (.bl (neg ^^ decide (F = []))) :=
  K5.fEq_lst (b := []) (fun k hk => (h.q k hk).fine) (fun _ q => (List.not_mem_nil q).elim) (by
    have : PyData.depthAll (NestedKey.datas F) ≤ 10 := by
      have fi : ∀ k ∈ F, K5.Fine k := fun k hk => (h.q k hk).fine
      clear h
      induction F with
      | nil => simp [NestedKey.datas, PyData.depthAll]
      | cons k ks ih =>
        have h1 := (fi k List.mem_cons_self).2
        have h2 := ih fun x hx => fi x (List.mem_cons_of_mem _ hx)
        rw [NestedKey.datas, PyData.depthAll, data_depth]
        omega
    simp only [PyData.depth]
    omega)
def hits (s : List NK) (c : Coin) : Bool := decide (c.2.filter (fun k => decide (k ∈ s)) ≠ [])
theorem sp_rchb {cs : List Coin} {s : List NK} (hc : CsOk cs) (hs : KsOk s) : m_rchb [vC cs, gV s] S = some (.int ((cs.filter (hits s)).length : Int), S) := by
  have q := eLcT_ev (is := [2, 3]) (it := iSeq (eVar 0)) (tt := tTru (eOp2 (fEq true) (eLc (.nm 4) (iSeq (eVar 3)) (tTru (eOp2 (fIn false) (eVar 4) (eVar 1))) (eVar 4) [4]) (eLst esNil))) (m := eVar 2) (vs := [2, 3]) (sl := [some (vC cs), some (gV s), none, none, none]) (S := S) (S1 := S)
    cs cV (fun c => [some (vC cs), some (gV s), some (.int c.1), some (gV c.2), none]) (hits s) (fun c => Val.int c.1) (seqT_ev (var_ev rfl)) (fun c _ => rfl) (fun c hcm => by
      have ok := hc.ks c hcm
      have e : eLc (.nm 4) (iSeq (eVar 3)) (tTru (eOp2 (fIn false) (eVar 4) (eVar 1))) (eVar 4) [4] [some (vC cs), some (gV s), some (.int c.1), some (gV c.2), none] S = some (.lst (ofKs (c.2.filter fun k => decide (k ∈ s))), S) := by
        rw [ofKs_map]
        refine K5.eLc_pure c.2 ofK (fun k => decide (k ∈ s)) ofK ?_ (fun k hk => tru_ev (op2_ev (x := ofK k) (y := gV s) (var_ev rfl) (var_ev rfl) (inK_ev (ok.q k hk) hs))) fun k _ _ => var_ev rfl
        rw [← ofKs_map]
        exact seqT_ev (var_ev rfl)
      refine tru_ev (op2_ev e (lst_ev nil_ev) ?_)
      rw [keys_nil (F := c.2.filter fun k => decide (k ∈ s)) ⟨ok.nd.filter _, fun k hk => ok.q k (List.mem_filter.mp hk).1⟩, Bool.true_xor]
      unfold hits
      congr 2
      by_cases h : (c.2.filter fun k => decide (k ∈ s)) = []
      · rw [decide_eq_true h, decide_eq_false (fun q => q h)]; rfl
      · rw [decide_eq_false h, decide_eq_true h]; rfl) (fun c _ _ => var_ev rfl)
  refine def_ret (sl := [some (vC cs), some (gV s), none, none, none]) rfl (show rchb_1 _ S = _ from ret_ev (fn_ev (vs := [.lst ((cs.filter (hits s)).map fun c : Coin => Val.int c.1)]) (cons_ev q nil_ev) ?_))
  show some (Val.int (((cs.filter (hits s)).map fun c => Val.int c.1).length : Nat)) = _
  rw [List.length_map]
/-! ### by hand -/
def kp : NK := K5.pK "a" "p"
def kq : NK := K5.pK "a" "q"
def kr : NK := K5.pK "a" "r"
def chain : List Coin := [(0, [kp, kq]), (3, [kq, kr]), (4, [kr]), (9, [kp])]
def alike5 : List Coin := [(0, [kp, kq, kr]), (1, [kp, kq, kr]), (2, [kp, kq, kr]), (3, [kp, kq, kr]), (4, [kp, kq, kr])]
def hands : List (List Coin × List NK) := [(chain, [kp, kq, kr]), (chain, [kr, kq, kp]), (chain, [kq, kr]), (chain, [kr, kp]), (chain, []), (chain, [kp]),
  ([(0, [kp, kq]), (1, [kp])], [kp, kq]), ([(0, [kp, kq]), (1, [kq, kr]), (2, [kp])], [kp, kq, kr]),
  (alike5, [kr, kp, kq]), (alike5.take 2, [kp, kq, kr]), ([], []), ([], [kp]),
  ([(1, []), (2, [kp])], [kp]), ([(1, [kp]), (2, [kp]), (5, [kq])], [kp, kq, kr])]
def vH (h : List Coin × List NK) : Val := .tup [vC h.1, gV h.2]
theorem sp_hand : m_hand [] S = some (.lst (hands.map vH), S) := by
  have e : b_hand [none, none, none, none, none, none, none, none] S = some (.ret (.lst (hands.map vH)), _, S) := rfl
  exact def_ret rfl e
def ksB (ks : List NK) : Bool := decide ks.Nodup && ks.all fun k => decide (k ∈ allQ)
theorem ksB_ok {ks : List NK} (h : ksB ks = true) : KsOk ks := by
  simp only [ksB, Bool.and_eq_true, decide_eq_true_eq, List.all_eq_true] at h
  refine ⟨h.1, fun k hk => ?_⟩
  have := h.2 k hk
  obtain ⟨i, hi, h2⟩ := List.mem_flatMap.mp this
  obtain ⟨c, hc, rfl⟩ := List.mem_map.mp h2
  exact ⟨i, hi, c, hc, rfl⟩
def csB (cs : List Coin) : Bool := decide (cs.length ≤ 5) && (cs.all fun c => ksB c.2 && decide (0 ≤ c.1) && decide (c.1 ≤ 100)) && decide ((cs.map (·.1)).Pairwise (· < ·))
theorem csB_ok {cs : List Coin} (h : csB cs = true) : CsOk cs := by
  simp only [csB, Bool.and_eq_true, decide_eq_true_eq, List.all_eq_true] at h
  exact ⟨h.1.1, fun c hc => ksB_ok (h.1.2 c hc).1.1, h.2, fun c hc => by
    have := h.1.2 c hc
    unfold numOk
    omega⟩
theorem hands_ok : ∀ h ∈ hands, csB h.1 = true ∧ ksB h.2 = true ∧ h.2.length ≤ 5 := by decide +kernel
/-! ### the law -/
abbrev lw_bd : MS := sSeq lw_3_1 (sSeq lw_3_2 (sSeq lw_3_3 (sSeq lw_3_4 lw_3_5)))
abbrev lwS (v : Val) (x3 x4 x5 x6 x7 : Option Val) : Sl := [some v, some (.ref 0), none, x3, x4, x5, x6, x7, none]
theorem want5 {v : Val} {E : List NK} {cs : List Coin} {x3 x7 : Option Val} (hE : KsOk E) (hc : CsOk cs) {s : Src} (hs : s.n = none) : ∀ (js : List Nat) {R : SO} (x6 : Option Val), IsR R →
    ∃ R' z6, IsR R' ∧ forX (gNm 6) lw_3_3_1 s (js.map fun i : Nat => Val.int (i : Int)) (lwS v x3 (some (.lst (ofKs E))) (some (vC cs)) x6 x7) [R] = some (.nxt, lwS v x3 (some (.lst (ofKs E))) (some (vC cs)) z6 x7, [R'])
  | [], R, x6, hR => ⟨R, x6, hR, by simp [forX, Src.ok, hs]⟩
  | j :: js, R, x6, hR => by
    obtain ⟨W, R1, hW, wl, hR1, e1⟩ := sp_want hE hR
    have s1 : lw_3_3_1 (lwS v x3 (some (.lst (ofKs E))) (some (vC cs)) (some (.int (j : Int))) x7) [R] = some (.nxt, lwS v x3 (some (.lst (ofKs E))) (some (vC cs)) (some (.int (j : Int))) x7, [R1]) :=
      if_f (not_ev (b := true) (tru_ev (call_ev (vs := [vC cs, gV W]) (cons_ev (var_ev rfl) (cons_ev (call_ev (vs := [.ref 0, .lst (ofKs E), .int 5]) (cons_ev (var_ev rfl) (cons_ev (var_ev rfl) (cons_ev con_ev nil_ev))) e1) nil_ev)) (sp_agr (SC.cons hR1.soc SC.nil) hc hW wl)))) skip_ev
    obtain ⟨R2, z6, a1, a2⟩ := want5 (v := v) (x3 := x3) (x7 := x7) hE hc hs js (some (.int (j : Int))) hR1
    exact ⟨R2, z6, a1, for_cons hs rfl s1 a2⟩
theorem cut4 {xs : List Val} : fSl S none (some 4) (.lst xs) = some (.lst (xs.take 4)) := by
  show some (Val.lst (cutG xs none (some ((4 : Nat) : Int)))) = _
  congr 2
  unfold cutG
  rw [show HT.sIx xs.length 0 none = 0 from rfl, HT.sIx_nat, Nat.sub_zero, List.drop_zero]
  by_cases h : 4 ≤ xs.length
  · rw [Nat.min_eq_left h]
  · rw [Nat.min_eq_right (by omega), List.take_of_length_le (by omega), List.take_of_length_le (by omega)]
theorem KsOk.sub {ks l : List NK} (h : KsOk ks) (s : l.Sublist ks) : KsOk l := ⟨h.nd.sublist s, fun k hk => h.q k (s.subset hk)⟩
theorem KsOk.rev {ks : List NK} (h : KsOk ks) : KsOk ks.reverse := ⟨(List.reverse_perm ks).nodup_iff.mpr h.nd, fun k hk => h.q k (List.mem_reverse.mp hk)⟩
theorem lw_step {v : Val} {R : SO} (hR : IsR R) (x3 x4 x5 x6 x7 : Option Val) : ∃ z4 z5 z6 z7 R', IsR R' ∧ lw_bd (lwS v x3 x4 x5 x6 x7) [R] = some (.nxt, lwS v x3 z4 z5 z6 z7, [R']) := by
  obtain ⟨items, rows, R1, tb, hR1, e1⟩ := sp_tabl hR
  obtain ⟨E, hE, ne, e2⟩ := sp_prs (S := [R1]) (SC.cons hR1.soc SC.nil) tb
  obtain ⟨cs, R2, hc, hR2, e3⟩ := sp_purse hE ne hR1
  have f1 : lw_3_1 (lwS v x3 x4 x5 x6 x7) [R] = some (.nxt, lwS v x3 (some (.lst (ofKs E))) x5 x6 x7, [R1]) := set_ev (call_ev (vs := [vB items rows]) (cons_ev (call_ev (vs := [.ref 0, .int 9]) (cons_ev (var_ev rfl) (cons_ev con_ev nil_ev)) e1) nil_ev) e2)
  have f2 : lw_3_2 (lwS v x3 (some (.lst (ofKs E))) x5 x6 x7) [R1] = some (.nxt, lwS v x3 (some (.lst (ofKs E))) (some (vC cs)) x6 x7, [R2]) := set_ev (call_ev (vs := [.ref 0, .lst (ofKs E), .int 5]) (cons_ev (var_ev rfl) (cons_ev (var_ev rfl) (cons_ev con_ev nil_ev))) e3)
  obtain ⟨R3, z6, hR3, e4⟩ := want5 (v := v) (x3 := x3) (x7 := x7) hE hc (s := ⟨(List.range 5).map fun i : Nat => Val.int (i : Int), none⟩) rfl (List.range 5) x6 hR2
  have f3 : lw_3_3 (lwS v x3 (some (.lst (ofKs E))) (some (vC cs)) x6 x7) [R2] = some (.nxt, lwS v x3 (some (.lst (ofKs E))) (some (vC cs)) z6 x7, [R3]) := for_ev (rng_evS (k := 5) con_ev (by decide) (by decide)) e4
  have hS3 : SC [R3] := SC.cons hR3.soc SC.nil
  -- the pairs that some coin has
  have e5 : eLc (.nm 8) (iSeq (eVar 4)) (tTru (eOp2 (fOrd .Gt) (eCall m_rchb (es2 (eVar 5) (eTup (es1 (eVar 8))))) (eCon (.int 0)))) (eVar 8) [8] (lwS v x3 (some (.lst (ofKs E))) (some (vC cs)) z6 x7) [R3] = some (.lst (ofKs (E.filter fun k => decide (0 < ((cs.filter (hits [k])).length : Int)))), [R3]) := by
    rw [ofKs_map (E.filter fun k => decide (0 < ((cs.filter (hits [k])).length : Int)))]
    refine K5.eLc_pure E ofK (fun k => decide (0 < ((cs.filter (hits [k])).length : Int))) ofK (S := [R3]) (by rw [← ofKs_map]; exact seqL_ev (var_ev rfl)) (fun k hk => ?_) fun k _ _ => var_ev rfl
    exact tru_ev (op2_ev (call_ev (vs := [vC cs, gV [k]]) (cons_ev (var_ev rfl) (cons_ev (tup_ev (cons_ev (var_ev rfl) nil_ev)) nil_ev)) (sp_rchb hc ⟨by simp, fun j hj => by rw [List.mem_singleton.mp hj]; exact hE.q k hk⟩)) con_ev gt_int)
  have hT : KsOk (E.filter fun k => decide (0 < ((cs.filter (hits [k])).length : Int))) := hE.sub List.filter_sublist
  generalize (E.filter fun k => decide (0 < ((cs.filter (hits [k])).length : Int))) = T at e5 hT
  have hQ : KsOk (sortKeys T) := KsOk.sortK hT.q
  generalize hQe : sortKeys T = Q at hQ
  have f4 : lw_3_4 (lwS v x3 (some (.lst (ofKs E))) (some (vC cs)) z6 x7) [R3] = some (.nxt, lwS v x3 (some (.lst (ofKs E))) (some (vC cs)) z6 (some (.lst (ofKs Q))), [R3]) := by
    refine set_ev (fn_ev (vs := [.lst (ofKs T)]) (cons_ev e5 nil_ev) ?_)
    simp only [fSortSet, seqOf, lstOf, Option.bind_some, toKs_ofKs, pq_sort hT.q, pq_set hT.q, Bool.and_self, if_true, hQe]
  have tk : ∀ (L : List NK), (ofKs L).take 4 = ofKs (L.take 4) := fun L => by rw [ofKs_map, ofKs_map, List.map_take]
  have g1 : tTru (eCall m_agr (es2 (eVar 5) (eFn fTupOf (es1 (eSl (eVar 7) oNo (oSo (eCon (.int 4)))))))) (lwS v x3 (some (.lst (ofKs E))) (some (vC cs)) z6 (some (.lst (ofKs Q)))) [R3] = some (true, [R3]) := by
    refine tru_ev (call_ev (vs := [vC cs, gV (Q.take 4)]) (cons_ev (var_ev rfl) (cons_ev (fn_ev (vs := [.lst (ofKs (Q.take 4))]) (cons_ev (sl_ev (v := .lst (ofKs Q)) (var_ev rfl) no_ev (so_ev con_ev) ?_) nil_ev) rfl) nil_ev)) (sp_agr hS3 hc (hQ.sub (List.take_sublist _ _)) (by rw [List.length_take]; omega)))
    rw [cut4, tk]
  have g2 : tTru (eCall m_agr (es2 (eVar 5) (eFn fTupOf (es1 (eSl (eRev (eVar 7)) oNo (oSo (eCon (.int 4)))))))) (lwS v x3 (some (.lst (ofKs E))) (some (vC cs)) z6 (some (.lst (ofKs Q)))) [R3] = some (true, [R3]) := by
    refine tru_ev (call_ev (vs := [vC cs, gV (Q.reverse.take 4)]) (cons_ev (var_ev rfl) (cons_ev (fn_ev (vs := [.lst (ofKs (Q.reverse.take 4))]) (cons_ev (sl_ev (v := .lst (ofKs Q.reverse)) (S1 := [R3]) ?_ no_ev (so_ev con_ev) ?_) nil_ev) rfl) nil_ev)) (sp_agr hS3 hc (hQ.rev.sub (List.take_sublist _ _)) (by rw [List.length_take]; omega)))
    · have e7 : eVar 7 (lwS v x3 (some (.lst (ofKs E))) (some (vC cs)) z6 (some (.lst (ofKs Q)))) [R3] = some (.lst (ofKs Q), [R3]) := var_ev rfl
      simp only [eRev, e7, Option.bind_some, lstOf]
      rw [ofKs_map, ofKs_map, List.map_reverse]
      rfl
    · rw [cut4, tk]
  have f5 : lw_3_5 (lwS v x3 (some (.lst (ofKs E))) (some (vC cs)) z6 (some (.lst (ofKs Q)))) [R3] = some (.nxt, lwS v x3 (some (.lst (ofKs E))) (some (vC cs)) z6 (some (.lst (ofKs Q))), [R3]) := if_f (or_f (not_ev g1) (not_ev g2)) skip_ev
  exact ⟨_, _, _, _, R3, hR3, seq_ev f1 (seq_ev f2 (seq_ev f3 (seq_ev f4 f5)))⟩
theorem lw_loop {v : Val} {s : Src} (hs : s.n = none) : ∀ (js : List Nat) {R : SO} (x3 x4 x5 x6 x7 : Option Val), IsR R →
    ∃ z R', IsR R' ∧ forX (gNm 3) lw_bd s (js.map fun i : Nat => Val.int (i : Int)) (lwS v x3 x4 x5 x6 x7) [R] = some (.nxt, z, [R'])
  | [], R, x3, x4, x5, x6, x7, hR => ⟨lwS v x3 x4 x5 x6 x7, R, hR, by simp [forX, Src.ok, hs]⟩
  | j :: js, R, x3, x4, x5, x6, x7, hR => by
    obtain ⟨z4, z5, z6, z7, R1, hR1, e1⟩ := lw_step (v := v) hR (some (.int (j : Int))) x4 x5 x6 x7
    obtain ⟨z, R2, a1, a2⟩ := lw_loop (v := v) hs js (some (.int (j : Int))) z4 z5 z6 z7 hR1
    exact ⟨z, R2, a1, for_cons hs rfl e1 a2⟩
theorem sp_lw {v : Val} {ns : List Int} (h : v = .scr (ns.map Val.int) ∨ v = .lst (ns.map Val.int)) : ∃ S', m_lw [v] [] = some (.bl true, S') := by
  obtain ⟨R, hR, e1⟩ := sp_feed h
  have f1 : lw_1 [some v, none, none, none, none, none, none, none, none] [] = some (.nxt, lwS v none none none none none, [R]) := set_ev (call_ev (vs := [v]) (cons_ev (var_ev rfl) nil_ev) e1)
  have f2 : lw_2 (lwS v none none none none none) [R] = some (.nxt, lwS v none none none none none, [R]) := by
    have q := K5.eLc_pure (i := 2) (it := iSeq (eCall m_hand esNil)) (tt := tNotD (tTru (eCall m_agr (es2 (eOp2 fIx (eVar 2) (eCon (.int 0))) (eOp2 fIx (eVar 2) (eCon (.int 1))))))) (m := eVar 2) (vs := [2]) (S := [R]) (sl := lwS v none none none none none) hands vH (fun _ => false) vH (seqL_ev (call_ev (vs := []) nil_ev sp_hand)) (fun h hh => by
      obtain ⟨h1, h2, h3⟩ := hands_ok h hh
      exact not_ev (b := true) (tru_ev (call_ev (vs := [vC h.1, gV h.2]) (cons_ev (op2_ev (x := vH h) (y := .int 0) (var_ev rfl) con_ev at0) (cons_ev (op2_ev (x := vH h) (y := .int 1) (var_ev rfl) con_ev at1) nil_ev)) (sp_agr (SC.cons hR.soc SC.nil) (csB_ok h1) (ksB_ok h2) h3)))) fun h _ q => by cases q
    rw [show hands.filter (fun _ => false) = [] from List.filter_eq_nil_iff.mpr fun _ _ h => by cases h] at q
    exact if_f (tru_ev (op2_ev (x := .lst []) (y := .lst []) q (lst_ev nil_ev) (keys_nil (neg := true) KsOk.nil))) skip_ev
  obtain ⟨z, R', hR', e3⟩ := lw_loop (v := v) (s := ⟨(List.range 8).map fun i : Nat => Val.int (i : Int), none⟩) rfl (List.range 8) none none none none none hR
  have f3 : lw_3 (lwS v none none none none none) [R] = some (.nxt, z, [R']) := for_ev (rng_evS (k := 8) con_ev (by decide) (by decide)) e3
  have hb : b_lw ([v].map some ++ List.replicate (9 - 1) none) [] = some (.ret (.bl true), z, [R']) := seq_ev f1 (seq_ev f2 (seq_ev f3 (ret_ev con_ev)))
  exact ⟨_, def_leave (w := .bl true) (S2 := []) rfl hb (leave_app (S := []) (l := [R']) SC.nil.sb (by simp) rfl (by decide))⟩
end
end F16
namespace E16
open PySem PySem.Spec PyProof.Rows L2 Mp Pilot Ev F16
/-! ### what the top has written; the promise of the law -/
def isLst : Value → Bool
  | .type t => t == "list"
  | _ => false
def noLst (K : PySem.W.Frag) : Bool := K.all fun e => !(isLst e.2.cls)
theorem noLst_at {K : PySem.W.Frag} (h : noLst K = true) {a : Addr} {o : Obj} (hl : K.lookup a = some o) (hc : o.cls = .type "list") : False := by
  unfold noLst at h
  rw [List.all_eq_true] at h
  induction K with
  | nil => cases hl
  | cons e K ih =>
    rw [List.lookup_cons] at hl
    split at hl
    · have q := h e List.mem_cons_self
      cases hl
      rw [hc] at q
      simp [isLst] at q
    · exact ih (fun x hx => h x (List.mem_cons_of_mem _ hx)) hl
def spLaw (K : PySem.W.Frag) : Sp := fun vs H Q _ => noLst K = true ∧ ∃ (a : Addr) (ns : List Int), vs = [.ref a] ∧ SqL K H a (ns.map V.int) ∧ ns.length ≤ 63 ∧ ∀ H', Q (.bl true) H'
theorem ints_rv {g : Gx} {r : List Addr} {H : Hp} : ∀ ns : List Int, RVs g r H (ns.map Val.int) (ns.map V.int)
  | [] => .nil
  | n :: ns => .cons (.int n) (ints_rv ns)
theorem law_imp {K : PySem.W.Frag} {w : World} {vs : List V} {H : Hp} {Q : VK} {E : XK} (h : spLaw K vs H Q E) : spD { K := K, fa := fun _ => none, w := w } m_lw vs H Q E := by
  obtain ⟨hn, a, ns, rfl, hS, hl, q⟩ := h
  have hsz : (ns.map Val.int).length ≤ sizeLine := by
    rw [List.length_map]
    have := Ev.sizes
    omega
  have sr : SR (Gx.at { K := K, fa := fun _ => none, w := w } []) [] H [] := ⟨rfl, List.nodup_nil, fun p hp => (List.not_mem_nil hp).elim, fun p hp => (List.not_mem_nil hp).elim, fun i o a h1 h2 => by simp at h1⟩
  rcases hS with (hS | ⟨o, hS⟩) | ⟨o, its, n, hk, hc, _⟩
  · obtain ⟨S', e⟩ := F16.sp_lw (v := .lst (ns.map Val.int)) (ns := ns) (.inr rfl)
    exact ⟨[], [], [], [.lst (ns.map Val.int)], .bl true, S', sr, .cons (.lst hS List.not_mem_nil List.not_mem_nil hsz (ints_rv ns)) .nil, e, fun r' H' hv _ _ rv => by cases rv; exact q H'⟩
  · obtain ⟨S', e⟩ := F16.sp_lw (v := .scr (ns.map Val.int)) (ns := ns) (.inl rfl)
    exact ⟨[], [], [], [.scr (ns.map Val.int)], .bl true, S', sr, .cons (.scr hS List.not_mem_nil hsz (ints_rv ns)) .nil, e, fun r' H' hv _ _ rv => by cases rv; exact q H'⟩
  · exact (noLst_at hn hk hc).elim
set_option maxHeartbeats 0 in
theorem all_mk {l : PySem.W.OpenLaw} {w : World} {K : PySem.W.Frag} {h : Heap} {mg : Str → Option Value} {fa : Addr} (X : K.In h) (G : h.Ns mainGlobals mg) (hfa : mg "law" = some (.ref fa))
    {f1 : Addr} {od1 an1 : Option Addr} {sl1 : Array (Option Value)} {oc1 kV1 dc1 pm1 cd1 ct1 : Value}
    (a1 : PySem.W.nsIn K mainGlobals "scopes_of" = some (some (.ref f1))) (l1 : K.lookup f1 = some ⟨oc1, od1, .func (PySem.W.fnOf "scopes_of" "scopes_of" (defArgs s_scps) (defBody s_scps) (defScope s_scps) .none kV1 dc1 pm1 an1 cd1 ct1), sl1⟩) (c1 : PySem.W.codeIn K cd1 "scopes_of" = true) (k1 : PySem.W.keepIn K (.ref f1) = true)
    {f2 : Addr} {od2 an2 : Option Addr} {sl2 : Array (Option Value)} {oc2 kV2 dc2 pm2 cd2 ct2 : Value}
    (a2 : PySem.W.nsIn K mainGlobals "search_coin" = some (some (.ref f2))) (l2 : K.lookup f2 = some ⟨oc2, od2, .func (PySem.W.fnOf "search_coin" "search_coin" (defArgs s_srch) (defBody s_srch) (defScope s_srch) .none kV2 dc2 pm2 an2 cd2 ct2), sl2⟩) (c2 : PySem.W.codeIn K cd2 "search_coin" = true) (k2 : PySem.W.keepIn K (.ref f2) = true)
    {f3 : Addr} {od3 an3 : Option Addr} {sl3 : Array (Option Value)} {oc3 kV3 dc3 pm3 cd3 ct3 : Value}
    (a3 : PySem.W.nsIn K mainGlobals "with_coin" = some (some (.ref f3))) (l3 : K.lookup f3 = some ⟨oc3, od3, .func (PySem.W.fnOf "with_coin" "with_coin" (defArgs s_wcoin) (defBody s_wcoin) (defScope s_wcoin) .none kV3 dc3 pm3 an3 cd3 ct3), sl3⟩) (c3 : PySem.W.codeIn K cd3 "with_coin" = true) (k3 : PySem.W.keepIn K (.ref f3) = true)
    {f4 : Addr} {od4 an4 : Option Addr} {sl4 : Array (Option Value)} {oc4 kV4 dc4 pm4 cd4 ct4 : Value}
    (a4 : PySem.W.nsIn K mainGlobals "assignment_for" = some (some (.ref f4))) (l4 : K.lookup f4 = some ⟨oc4, od4, .func (PySem.W.fnOf "assignment_for" "assignment_for" (defArgs s_asgn) (defBody s_asgn) (defScope s_asgn) .none kV4 dc4 pm4 an4 cd4 ct4), sl4⟩) (c4 : PySem.W.codeIn K cd4 "assignment_for" = true) (k4 : PySem.W.keepIn K (.ref f4) = true)
    {f5 : Addr} {od5 an5 : Option Addr} {sl5 : Array (Option Value)} {oc5 kV5 dc5 pm5 cd5 ct5 : Value}
    (a5 : PySem.W.nsIn K mainGlobals "coins_for" = some (some (.ref f5))) (l5 : K.lookup f5 = some ⟨oc5, od5, .func (PySem.W.fnOf "coins_for" "coins_for" (defArgs s_cfor) (defBody s_cfor) (defScope s_cfor) .none kV5 dc5 pm5 an5 cd5 ct5), sl5⟩) (c5 : PySem.W.codeIn K cd5 "coins_for" = true) (k5 : PySem.W.keepIn K (.ref f5) = true)
    {f6 : Addr} {od6 an6 : Option Addr} {sl6 : Array (Option Value)} {oc6 kV6 dc6 pm6 cd6 ct6 : Value}
    (a6 : PySem.W.nsIn K mainGlobals "_law_feed" = some (some (.ref f6))) (l6 : K.lookup f6 = some ⟨oc6, od6, .func (PySem.W.fnOf "_law_feed" "_law_feed" (defArgs s_feed) (defBody s_feed) (defScope s_feed) .none kV6 dc6 pm6 an6 cd6 ct6), sl6⟩) (c6 : PySem.W.codeIn K cd6 "_law_feed" = true) (k6 : PySem.W.keepIn K (.ref f6) = true)
    {f7 : Addr} {od7 an7 : Option Addr} {sl7 : Array (Option Value)} {oc7 kV7 dc7 pm7 cd7 ct7 : Value}
    (a7 : PySem.W.nsIn K mainGlobals "_law_draw" = some (some (.ref f7))) (l7 : K.lookup f7 = some ⟨oc7, od7, .func (PySem.W.fnOf "_law_draw" "_law_draw" (defArgs s_draw) (defBody s_draw) (defScope s_draw) .none kV7 dc7 pm7 an7 cd7 ct7), sl7⟩) (c7 : PySem.W.codeIn K cd7 "_law_draw" = true) (k7 : PySem.W.keepIn K (.ref f7) = true)
    {f8 : Addr} {od8 an8 : Option Addr} {sl8 : Array (Option Value)} {oc8 kV8 dc8 pm8 cd8 ct8 : Value}
    (a8 : PySem.W.nsIn K mainGlobals "_law_choice" = some (some (.ref f8))) (l8 : K.lookup f8 = some ⟨oc8, od8, .func (PySem.W.fnOf "_law_choice" "_law_choice" (defArgs s_choi) (defBody s_choi) (defScope s_choi) .none kV8 dc8 pm8 an8 cd8 ct8), sl8⟩) (c8 : PySem.W.codeIn K cd8 "_law_choice" = true) (k8 : PySem.W.keepIn K (.ref f8) = true)
    {f9 : Addr} {od9 an9 : Option Addr} {sl9 : Array (Option Value)} {oc9 kV9 dc9 pm9 cd9 ct9 : Value}
    (a9 : PySem.W.nsIn K mainGlobals "_law_table" = some (some (.ref f9))) (l9 : K.lookup f9 = some ⟨oc9, od9, .func (PySem.W.fnOf "_law_table" "_law_table" (defArgs s_tabl) (defBody s_tabl) (defScope s_tabl) .none kV9 dc9 pm9 an9 cd9 ct9), sl9⟩) (c9 : PySem.W.codeIn K cd9 "_law_table" = true) (k9 : PySem.W.keepIn K (.ref f9) = true)
    {f10 : Addr} {od10 an10 : Option Addr} {sl10 : Array (Option Value)} {oc10 kV10 dc10 pm10 cd10 ct10 : Value}
    (a10 : PySem.W.nsIn K mainGlobals "_law_pairs" = some (some (.ref f10))) (l10 : K.lookup f10 = some ⟨oc10, od10, .func (PySem.W.fnOf "_law_pairs" "_law_pairs" (defArgs s_prs) (defBody s_prs) (defScope s_prs) .none kV10 dc10 pm10 an10 cd10 ct10), sl10⟩) (c10 : PySem.W.codeIn K cd10 "_law_pairs" = true) (k10 : PySem.W.keepIn K (.ref f10) = true)
    {f11 : Addr} {od11 an11 : Option Addr} {sl11 : Array (Option Value)} {oc11 kV11 dc11 pm11 cd11 ct11 : Value}
    (a11 : PySem.W.nsIn K mainGlobals "_law_scope" = some (some (.ref f11))) (l11 : K.lookup f11 = some ⟨oc11, od11, .func (PySem.W.fnOf "_law_scope" "_law_scope" (defArgs s_scop) (defBody s_scop) (defScope s_scop) .none kV11 dc11 pm11 an11 cd11 ct11), sl11⟩) (c11 : PySem.W.codeIn K cd11 "_law_scope" = true) (k11 : PySem.W.keepIn K (.ref f11) = true)
    {f12 : Addr} {od12 an12 : Option Addr} {sl12 : Array (Option Value)} {oc12 kV12 dc12 pm12 cd12 ct12 : Value}
    (a12 : PySem.W.nsIn K mainGlobals "_law_purse" = some (some (.ref f12))) (l12 : K.lookup f12 = some ⟨oc12, od12, .func (PySem.W.fnOf "_law_purse" "_law_purse" (defArgs s_purse) (defBody s_purse) (defScope s_purse) .none kV12 dc12 pm12 an12 cd12 ct12), sl12⟩) (c12 : PySem.W.codeIn K cd12 "_law_purse" = true) (k12 : PySem.W.keepIn K (.ref f12) = true)
    {f13 : Addr} {od13 an13 : Option Addr} {sl13 : Array (Option Value)} {oc13 kV13 dc13 pm13 cd13 ct13 : Value}
    (a13 : PySem.W.nsIn K mainGlobals "_law_payments" = some (some (.ref f13))) (l13 : K.lookup f13 = some ⟨oc13, od13, .func (PySem.W.fnOf "_law_payments" "_law_payments" (defArgs s_pays) (defBody s_pays) (defScope s_pays) .none kV13 dc13 pm13 an13 cd13 ct13), sl13⟩) (c13 : PySem.W.codeIn K cd13 "_law_payments" = true) (k13 : PySem.W.keepIn K (.ref f13) = true)
    {f14 : Addr} {od14 an14 : Option Addr} {sl14 : Array (Option Value)} {oc14 kV14 dc14 pm14 cd14 ct14 : Value}
    (a14 : PySem.W.nsIn K mainGlobals "_law_reachable" = some (some (.ref f14))) (l14 : K.lookup f14 = some ⟨oc14, od14, .func (PySem.W.fnOf "_law_reachable" "_law_reachable" (defArgs s_rchb) (defBody s_rchb) (defScope s_rchb) .none kV14 dc14 pm14 an14 cd14 ct14), sl14⟩) (c14 : PySem.W.codeIn K cd14 "_law_reachable" = true) (k14 : PySem.W.keepIn K (.ref f14) = true)
    {f15 : Addr} {od15 an15 : Option Addr} {sl15 : Array (Option Value)} {oc15 kV15 dc15 pm15 cd15 ct15 : Value}
    (a15 : PySem.W.nsIn K mainGlobals "_law_wanted" = some (some (.ref f15))) (l15 : K.lookup f15 = some ⟨oc15, od15, .func (PySem.W.fnOf "_law_wanted" "_law_wanted" (defArgs s_want) (defBody s_want) (defScope s_want) .none kV15 dc15 pm15 an15 cd15 ct15), sl15⟩) (c15 : PySem.W.codeIn K cd15 "_law_wanted" = true) (k15 : PySem.W.keepIn K (.ref f15) = true)
    {f16 : Addr} {od16 an16 : Option Addr} {sl16 : Array (Option Value)} {oc16 kV16 dc16 pm16 cd16 ct16 : Value}
    (a16 : PySem.W.nsIn K mainGlobals "_law_agrees" = some (some (.ref f16))) (l16 : K.lookup f16 = some ⟨oc16, od16, .func (PySem.W.fnOf "_law_agrees" "_law_agrees" (defArgs s_agr) (defBody s_agr) (defScope s_agr) .none kV16 dc16 pm16 an16 cd16 ct16), sl16⟩) (c16 : PySem.W.codeIn K cd16 "_law_agrees" = true) (k16 : PySem.W.keepIn K (.ref f16) = true)
    {f17 : Addr} {od17 an17 : Option Addr} {sl17 : Array (Option Value)} {oc17 kV17 dc17 pm17 cd17 ct17 : Value}
    (a17 : PySem.W.nsIn K mainGlobals "_law_by_hand" = some (some (.ref f17))) (l17 : K.lookup f17 = some ⟨oc17, od17, .func (PySem.W.fnOf "_law_by_hand" "_law_by_hand" (defArgs s_hand) (defBody s_hand) (defScope s_hand) .none kV17 dc17 pm17 an17 cd17 ct17), sl17⟩) (c17 : PySem.W.codeIn K cd17 "_law_by_hand" = true) (k17 : PySem.W.keepIn K (.ref f17) = true)
    {f18 : Addr} {od18 an18 : Option Addr} {sl18 : Array (Option Value)} {oc18 kV18 dc18 pm18 cd18 ct18 : Value}
    (a18 : PySem.W.nsIn K mainGlobals "law" = some (some (.ref f18))) (l18 : K.lookup f18 = some ⟨oc18, od18, .func (PySem.W.fnOf "law" "law" (defArgs s_lw) (defBody s_lw) (defScope s_lw) .none kV18 dc18 pm18 an18 cd18 ct18), sl18⟩) (c18 : PySem.W.codeIn K cd18 "law" = true) (k18 : PySem.W.keepIn K (.ref f18) = true)
    (z1 : PySem.W.nsIn K mainGlobals "len" = some none)
    (z2 : PySem.W.nsIn K mainGlobals "range" = some none)
    (z3 : PySem.W.nsIn K mainGlobals "tuple" = some none)
    (z4 : PySem.W.nsIn K mainGlobals "sorted" = some none)
    (z5 : PySem.W.nsIn K mainGlobals "list" = some none)
    (z6 : PySem.W.nsIn K mainGlobals "zip" = some none)
    (z7 : PySem.W.nsIn K mainGlobals "min" = some none)
    (z8 : PySem.W.nsIn K mainGlobals "repr" = some none)
    (z9 : PySem.W.nsIn K mainGlobals "set" = some none)
    : ∃ fd : FuncData, (∀ (s : Shared) (v : Value), BindsTo s fd ⟨[v], []⟩ [("_law_script", v)]) ∧ ∀ base : Heap, K.In base → base.Ns mainGlobals mg → FnG l.prog w K mg base 5 fa fd ["_law_script"] (spLaw K) := by
  have e := hfa.symm.trans (PySem.W.mg_of X G a18)
  cases e
  have n1 : mg "len" = none := PySem.W.mg_none_of X G z1
  have n2 : mg "range" = none := PySem.W.mg_none_of X G z2
  have n3 : mg "tuple" = none := PySem.W.mg_none_of X G z3
  have n4 : mg "sorted" = none := PySem.W.mg_none_of X G z4
  have n5 : mg "list" = none := PySem.W.mg_none_of X G z5
  have n6 : mg "zip" = none := PySem.W.mg_none_of X G z6
  have n7 : mg "min" = none := PySem.W.mg_none_of X G z7
  have n8 : mg "repr" = none := PySem.W.mg_none_of X G z8
  have n9 : mg "set" = none := PySem.W.mg_none_of X G z9
  have F1 := fun_mk (st := s_scps) l1 c1 k1
  have b1 := F1.binds (ps := ["coins"]) fun _ _ _ _ _ _ us hl => match us, hl with | [_], _ => rfl
  have F2 := fun_mk (st := s_srch) l2 c2 k2
  have b2 := F2.binds (ps := ["scopes", "assignment", "pair"]) fun _ _ _ _ _ _ us hl => match us, hl with | [_, _, _], _ => rfl
  have F3 := fun_mk (st := s_wcoin) l3 c3 k3
  have b3 := F3.binds (ps := ["assignment", "wishes", "place"]) fun _ _ _ _ _ _ us hl => match us, hl with | [_, _, _], _ => rfl
  have F4 := fun_mk (st := s_asgn) l4 c4 k4
  have b4 := F4.binds (ps := ["scopes", "pairs"]) fun _ _ _ _ _ _ us hl => match us, hl with | [_, _], _ => rfl
  have F5 := fun_mk (st := s_cfor) l5 c5 k5
  have b5 := F5.binds (ps := ["coins", "pairs"]) fun _ _ _ _ _ _ us hl => match us, hl with | [_, _], _ => rfl
  have F6 := fun_mk (st := s_feed) l6 c6 k6
  have b6 := F6.binds (ps := ["_law_script"]) fun _ _ _ _ _ _ us hl => match us, hl with | [_], _ => rfl
  have F7 := fun_mk (st := s_draw) l7 c7 k7
  have b7 := F7.binds (ps := ["_law_feed_here", "_law_limit"]) fun _ _ _ _ _ _ us hl => match us, hl with | [_, _], _ => rfl
  have F8 := fun_mk (st := s_choi) l8 c8 k8
  have b8 := F8.binds (ps := ["_law_feed_here", "_law_values"]) fun _ _ _ _ _ _ us hl => match us, hl with | [_, _], _ => rfl
  have F9 := fun_mk (st := s_tabl) l9 c9 k9
  have b9 := F9.binds (ps := ["_law_feed_here", "_law_most_rows"]) fun _ _ _ _ _ _ us hl => match us, hl with | [_, _], _ => rfl
  have F10 := fun_mk (st := s_prs) l10 c10 k10
  have b10 := F10.binds (ps := ["_law_grid"]) fun _ _ _ _ _ _ us hl => match us, hl with | [_], _ => rfl
  have F11 := fun_mk (st := s_scop) l11 c11 k11
  have b11 := F11.binds (ps := ["_law_feed_here", "_law_every", "_law_most"]) fun _ _ _ _ _ _ us hl => match us, hl with | [_, _, _], _ => rfl
  have F12 := fun_mk (st := s_purse) l12 c12 k12
  have b12 := F12.binds (ps := ["_law_feed_here", "_law_every", "_law_most"]) fun _ _ _ _ _ _ us hl => match us, hl with | [_, _, _], _ => rfl
  have F13 := fun_mk (st := s_pays) l13 c13 k13
  have b13 := F13.binds (ps := ["_law_purse_here", "_law_wanted_here"]) fun _ _ _ _ _ _ us hl => match us, hl with | [_, _], _ => rfl
  have F14 := fun_mk (st := s_rchb) l14 c14 k14
  have b14 := F14.binds (ps := ["_law_purse_here", "_law_some"]) fun _ _ _ _ _ _ us hl => match us, hl with | [_, _], _ => rfl
  have F15 := fun_mk (st := s_want) l15 c15 k15
  have b15 := F15.binds (ps := ["_law_feed_here", "_law_every", "_law_most"]) fun _ _ _ _ _ _ us hl => match us, hl with | [_, _, _], _ => rfl
  have F16 := fun_mk (st := s_agr) l16 c16 k16
  have b16 := F16.binds (ps := ["_law_purse_here", "_law_wanted_here"]) fun _ _ _ _ _ _ us hl => match us, hl with | [_, _], _ => rfl
  have F17 := fun_mk (st := s_hand) l17 c17 k17
  have b17 := F17.binds (ps := []) fun _ _ _ _ _ _ us hl => match us, hl with | [], _ => rfl
  have F18 := fun_mk (st := s_lw) l18 c18 k18
  refine ⟨PySem.W.fnOf "law" "law" (defArgs s_lw) (defBody s_lw) (defScope s_lw) .none kV18 dc18 pm18 an18 cd18 ct18, fun s v => .of_eq rfl, fun base _ _ => ?_⟩
  let g : Gx := { K := K, fa := fun _ => none, w := w }
  have C1 : Cal1 l.prog w K mg base g 1 "scopes_of" ["coins"] m_scps := ⟨_, _, ok_scps (g := g) F1 rfl rfl, PySem.W.mg_of X G a1, k1, b1⟩
  have D2 : Cal1 l.prog w K mg base g 1 "search_coin" ["scopes", "assignment", "pair"] m_srchK := ⟨_, _, ok_srchK (g := g) F2 rfl rfl n1 n2, PySem.W.mg_of X G a2, k2, b2⟩
  have D3 : Cal1 l.prog w K mg base g 1 "with_coin" ["assignment", "wishes", "place"] m_wcoinK := ⟨_, _, ok_wcoinK (g := g) F3 rfl rfl, PySem.W.mg_of X G a3, k3, b3⟩
  have D4 : Cal1 l.prog w K mg base g 2 "assignment_for" ["scopes", "pairs"] m_asgnK := ⟨_, _, ok_asgnK (g := g) F4 rfl rfl n3 n4 D2 D3, PySem.W.mg_of X G a4, k4, b4⟩
  have C5 : Cal1 l.prog w K mg base g 3 "coins_for" ["coins", "pairs"] m_cfor := ⟨_, _, ok_cfor (g := g) F5 rfl rfl n3 D4 C1, PySem.W.mg_of X G a5, k5, b5⟩
  have W1 : Cal1K l.prog w K mg base g 3 "coins_for" ["coins", "pairs"] m_cfor ["pairs", "coins"] [1, 0] := ⟨_, _, ok_cfor (g := g) F5 rfl rfl n3 D4 C1, PySem.W.mg_of X G a5, k5, bindK_of F5 fun _ _ _ _ _ _ us hl => match us, hl with | [_, _], _ => rfl⟩
  have D6 : Cal1 l.prog w K mg base g 1 "_law_feed" ["_law_script"] m_feedK := ⟨_, _, ok_feedK (g := g) F6 rfl rfl n5, PySem.W.mg_of X G a6, k6, b6⟩
  have D7 : Cal1 l.prog w K mg base g 1 "_law_draw" ["_law_feed_here", "_law_limit"] m_drawK := ⟨_, _, ok_drawK (g := g) F7 rfl rfl n1, PySem.W.mg_of X G a7, k7, b7⟩
  have D8 : Cal1 l.prog w K mg base g 2 "_law_choice" ["_law_feed_here", "_law_values"] m_choiK := ⟨_, _, ok_choiK (g := g) F8 rfl rfl n1 D7, PySem.W.mg_of X G a8, k8, b8⟩
  have C9 : Cal1 l.prog w K mg base g 3 "_law_table" ["_law_feed_here", "_law_most_rows"] m_tabl := ⟨_, _, ok_tabl (g := g) F9 rfl rfl n3 n2 n4 D7 D8, PySem.W.mg_of X G a9, k9, b9⟩
  have C10 : Cal1 l.prog w K mg base g 1 "_law_pairs" ["_law_grid"] m_prs := ⟨_, _, ok_prs (g := g) F10 rfl rfl n6 n4, PySem.W.mg_of X G a10, k10, b10⟩
  have C11 : Cal1 l.prog w K mg base g 3 "_law_scope" ["_law_feed_here", "_law_every", "_law_most"] m_scop := ⟨_, _, ok_scop (g := g) F11 rfl rfl n2 n3 n4 D7 D8, PySem.W.mg_of X G a11, k11, b11⟩
  have C12 : Cal1 l.prog w K mg base g 4 "_law_purse" ["_law_feed_here", "_law_every", "_law_most"] m_purse := ⟨_, _, ok_purse (g := g) F12 rfl rfl n2 n3 D7 D8 C11, PySem.W.mg_of X G a12, k12, b12⟩
  have C13 : Cal1 l.prog w K mg base g 1 "_law_payments" ["_law_purse_here", "_law_wanted_here"] m_pays := ⟨_, _, ok_pays (g := g) F13 rfl rfl, PySem.W.mg_of X G a13, k13, b13⟩
  have C14 : Cal1 l.prog w K mg base g 1 "_law_reachable" ["_law_purse_here", "_law_some"] m_rchb := ⟨_, _, ok_rchb (g := g) F14 rfl rfl n1, PySem.W.mg_of X G a14, k14, b14⟩
  have C15 : Cal1 l.prog w K mg base g 2 "_law_wanted" ["_law_feed_here", "_law_every", "_law_most"] m_want := ⟨_, _, ok_want (g := g) F15 rfl rfl n5 n2 n7 n1 n3 D7, PySem.W.mg_of X G a15, k15, b15⟩
  have C16 : Cal1G l.prog w K mg base g 4 "_law_agrees" ["_law_purse_here", "_law_wanted_here"] m_agr := ⟨_, _, ok_agr (g := g) F16 rfl rfl n8 C13 C5 W1, PySem.W.mg_of X G a16, k16, b16⟩
  have C17 : Cal1 l.prog w K mg base g 1 "_law_by_hand" [] m_hand := ⟨_, _, ok_hand (g := g) F17 rfl rfl n3 n2, PySem.W.mg_of X G a17, k17, b17⟩
  exact (ok_lw (g := g) F18 rfl rfl n2 n4 n9 n3 D6 C17 C16 C10 C9 C12 C15 C14).imp fun vs H Q E h => law_imp h
theorem walk {l : PySem.W.OpenLaw} {q : Program} {loose : List Str} {XP : (Str → Option Value) → Heap → Prop}
      {YP : World → Heap → Prop} {d : DefRec} {K : Params → PySem.W.Frag} (hn : l.most = some 63) (hdf : d.params.defaults = [])
    (hY : ∀ (w : World) (h : Heap), YP w h → (K w.params).In h) (hno : ∀ P : Params, noLst (K P) = true)
    (F : ∀ (w : World) (mg : Str → Option Value) (fa : Addr) (h : Heap),
          (K w.params).In h → h.Ns mainGlobals mg → mg d.name = some (.ref fa) →
      ∃ fd : FuncData, (∀ (s : Shared) (u : Value), BindsTo s fd ⟨[u], []⟩ [("_law_script", u)]) ∧ ∀ base : Heap, (K w.params).In base → base.Ns mainGlobals mg → FnG l.prog w (K w.params) mg base 5 fa fd ["_law_script"] (spLaw (K w.params))) :
    PySem.W.WalkO q loose XP YP l.row.toRowW d
          [] (fun f vs => PySem.call f vs) :=
  walk_G (n := 63) (k := 5) (x := "_law_script") (sp := fun w => spLaw (K w.params)) hn (by decide) hdf ⟨rfl, by decide, by decide⟩ hY (fun w a o hl hc => noLst_at (hno w.params) hl hc) F (fun w _ a ns hl hS => ⟨hno w.params, a, ns, rfl, hS, hl, fun _ => rfl⟩)
end E16
open PySem PySem.W
      PyProof.Rows
set_option maxHeartbeats 0 in
theorem PySem.Challenge.cw_chosenlast_k16_coins_found_holds : PySem.Challenge.rw_chosenlast_k16_coins_found.Holds := by
  w_on; o_law; k_head; (case
        hw => w_witness2)
  k_fill
  refine E16.walk (l := PySem.Challenge.rw_chosenlast_k16_coins_found) rfl rfl (fun w h Y => PySem.W.kIn_of Y) ?hno ?F
  case hno =>
    intro P
    rfl
  case F =>
    intro w mg fa h KX G hmg
    refine' E16.all_mk KX G hmg ?a1 ?l1 ?c1 ?k1 ?a2 ?l2 ?c2 ?k2 ?a3 ?l3 ?c3 ?k3 ?a4 ?l4 ?c4 ?k4 ?a5 ?l5 ?c5 ?k5 ?a6 ?l6 ?c6 ?k6 ?a7 ?l7 ?c7 ?k7 ?a8 ?l8 ?c8 ?k8 ?a9 ?l9 ?c9 ?k9 ?a10 ?l10 ?c10 ?k10 ?a11 ?l11 ?c11 ?k11 ?a12 ?l12 ?c12 ?k12 ?a13 ?l13 ?c13 ?k13 ?a14 ?l14 ?c14 ?k14 ?a15 ?l15 ?c15 ?k15 ?a16 ?l16 ?c16 ?k16 ?a17 ?l17 ?c17 ?k17 ?a18 ?l18 ?c18 ?k18 ?z1 ?z2 ?z3 ?z4 ?z5 ?z6 ?z7 ?z8 ?z9
    (case a1 => k_is); (case l1 => k_is); (case
          c1 => k_is); (case k1 => k_is)
    (case a2 => k_is); (case l2 => k_is); (case
          c2 => k_is); (case k2 => k_is)
    (case a3 => k_is); (case l3 => k_is); (case
          c3 => k_is); (case k3 => k_is)
    (case a4 => k_is); (case l4 => k_is); (case
          c4 => k_is); (case k4 => k_is)
    (case a5 => k_is); (case l5 => k_is); (case c5 => k_is); (case k5 => k_is)
    (case a6 => k_is); (case l6 => k_is); (case c6 => k_is); (case k6 => k_is)
    (case a7 => k_is); (case l7 => k_is); (case c7 => k_is); (case k7 => k_is)
    (case a8 => k_is); (case l8 => k_is); (case c8 => k_is); (case k8 => k_is)
    (case a9 => k_is); (case l9 => k_is); (case c9 => k_is); (case k9 => k_is)
    (case a10 => k_is); (case l10 => k_is); (case c10 => k_is); (case k10 => k_is)
    (case a11 => k_is); (case l11 => k_is); (case c11 => k_is); (case k11 => k_is)
    (case a12 => k_is); (case l12 => k_is); (case c12 => k_is); (case k12 => k_is)
    (case a13 => k_is); (case l13 => k_is); (case c13 => k_is); (case k13 => k_is)
    (case a14 => k_is); (case l14 => k_is); (case c14 => k_is); (case k14 => k_is)
    (case a15 => k_is); (case l15 => k_is); (case c15 => k_is); (case k15 => k_is)
    (case a16 => k_is); (case l16 => k_is); (case c16 => k_is); (case k16 => k_is)
    (case a17 => k_is); (case l17 => k_is); (case c17 => k_is); (case k17 => k_is)
    (case a18 => k_is); (case l18 => k_is); (case c18 => k_is); (case k18 => k_is)
    (case z1 => k_is); (case z2 => k_is); (case z3 => k_is); (case z4 => k_is); (case z5 => k_is); (case z6 => k_is); (case z7 => k_is); (case z8 => k_is); (case z9 => k_is)
