import PyProof.Rows.All
import Wide.All
import OpenK.AllK
import Wide.FinOn
import HandS.ForMost
import KE.KeyNested
import HandS.Deep
import HandS.TupAny
import HandS.TupLe
import HandS.IsInst
import KE.DataCmp
import HandS.Flow
import HandS.Zip
import HandS.Words
import HandS.TupLen
import HandS.Codes
import HandS.TupSets
import KE.SortData
import PyProof.DictRoadsH
import HandS.Style
import KE.KIndexOf
import KE.KStar
import KE.KDictSum
import KE.KDictCopyH
import KE.DataMinMax
import KE.KDictPairs
import HandS.ExcValue
import HandS.Ends
import PySem.Challenge.RW_chosenlast_k15_whole_tables_compared
set_option Elab.async false
set_option linter.all false
set_option maxRecDepth 100000
set_option autoImplicit false
namespace Mp
open PySem PySem.Spec
      PyProof.Rows L2

inductive Val where
  | non | bl (b : Bool) | int (i : Int) | str (x : Str) | ty (n : String) | fn (f : Str)
  | tup (xs : List Val) | lst (xs : List Val) | scr (xs : List Val) | ref (n : Nat)
  /-- a tuple of which it is known that it is nothing else -/
  | ptp (xs : List Val)

inductive SO where
  | lst (xs : List Val) | dK (kvs : List (Key × Val)) | dN (kvs : List (NestedKey × Val))
  /-- a dict that is being walked -/
  | lk (o : SO)
abbrev Sto := List SO
abbrev Sl := List (Option Val)
abbrev Res (α : Type) := Option (α × Sto)
abbrev ME := Sl → Sto → Res Val
abbrev MEs := Sl → Sto → Res (List Val)

/-- what the interpreter leans on: the written part, where the defs stand -/
structure Gx where
  K : PySem.W.Frag
  fa : Str → Option Addr
  w : World
  /-- lists that are just being made -/
  z : List Addr := []
mutual
def ofK : NestedKey → Val
  | .none => .non
  | .num i => .int i
  | .text x => .str x
  | .tup ks => .tup (ofKs ks)
def ofKs : List NestedKey → List Val
  | [] => []
  | k :: ks => ofK k :: ofKs ks
end
abbrev Gx.at (g : Gx) (z : List Addr) : Gx := { g with z := z }

mutual
inductive RV (g : Gx) (r : List Addr) (H : Hp) : Val → V → Prop
  | non : RV g r H .non .non
  | bl (b : Bool) : RV g r H (.bl b) (.bl b)
  | int (i : Int) : RV g r H (.int i) (.int i)
  | str (x : Str) : RV g r H (.str x) (.str x)
  | ty (n : String) : RV g r H (.ty n) (.ty n)
  | fn {f : Str} {a : Addr} : g.fa f = some a → RV g r H (.fn f) (.ref a)
  | tup {a : Addr} {xs : List Val} {vs : List V} : SqT g.K H a vs → xs.length ≤ sizeLine → RVs g r H xs vs → RV g r H (.tup xs) (.ref a)
  | lst {a : Addr} {xs : List Val} {vs : List V} : H a = some (.lst vs) → a ∉ r → a ∉ g.z → xs.length ≤ sizeLine → RVs g r H xs vs → RV g r H (.lst xs) (.ref a)
  | scr {a : Addr} {o : Obj} {xs : List Val} {vs : List V} : H a = some (.frz o (.lst vs)) → a ∉ r → xs.length ≤ sizeLine → RVs g r H xs vs → RV g r H (.scr xs) (.ref a)
  | ref {n : Nat} {a : Addr} : r[n]? = some a → RV g r H (.ref n) (.ref a)
  | ptp {a : Addr} {o : Obj} {xs : List Val} {vs : List V} : H a = some (.frz o (.tup vs)) → o.dict = none → xs.length ≤ sizeLine → RVs g r H xs vs → RV g r H (.ptp xs) (.ref a)
inductive RVs (g : Gx) (r : List Addr) (H : Hp) : List Val → List V → Prop
  | nil : RVs g r H [] []
  | cons {x : Val} {v : V} {xs : List Val} {vs : List V} : RV g r H x v → RVs g r H xs vs → RVs g r H (x :: xs) (v :: vs)
end

/-- a dict whose keys are nested tuples -/
abbrev NRow := NestedKey × Addr × V
def entN (w : World) (x : NestedKey × Addr × Value) : DictEntry := ⟨x.1.hash w, .ref x.2.1, x.2.2⟩
abbrev RowRel (p : NRow) (q : NestedKey × Addr × Value) : Prop := p.1 = q.1 ∧ p.2.1 = q.2.1 ∧ RelV p.2.2 q.2.2
def DnAt (w : World) (a : Addr) (rows : List NRow) (h : Heap) : Prop := rows.length ≤ sizeLine ∧ (a == sysModules) = false ∧ ∃ xs : List (NestedKey × Addr × Value), Paired RowRel rows xs ∧
  ∃ o es ep, h.get? a = some o ∧ o.ExactDict ∧ o.data = .dict es ep ∧ es.toList = xs.map (entN w) ∧ (xs.map (·.1)).Nodup
abbrev DnHO (w : World) (a : Addr) (rows : List NRow) : HO := .ext (DnAt w a rows)
/-- what stands at a store's place -/
inductive RO (g : Gx) (r : List Addr) (H : Hp) (a : Addr) : SO → HO → Prop
  | lst {xs : List Val} {vs : List V} : xs.length ≤ sizeLine → RVs g r H xs vs → RO g r H a (.lst xs) (.lst vs)
  | dK {kvs : List (Key × Val)} {kws : List (Key × V)} : kvs.map (·.1) = kws.map (·.1) → kvs.length ≤ sizeLine → RVs g r H (kvs.map (·.2)) (kws.map (·.2)) → RO g r H a (.dK kvs) (.dK kws)
  | dN {kvs : List (NestedKey × Val)} {rows : List NRow} : kvs.map (·.1) = rows.map (·.1) → kvs.length ≤ sizeLine → RVs g r H (kvs.map fun p => ofK p.1) (rows.map fun p => V.ref p.2.1) → RVs g r H (kvs.map (·.2)) (rows.map fun p => p.2.2) → RO g r H a (.dN kvs) (DnHO g.w a rows)
  | lkK {kvs : List (Key × Val)} {o : Obj} {kws : List (Key × V)} : RO g r H a (.dK kvs) (.dK kws) → RO g r H a (.lk (.dK kvs)) (.frz o (.dK kws))
  | lkN {kvs : List (NestedKey × Val)} {o : Obj} {rows : List NRow} : kvs.map (·.1) = rows.map (·.1) → kvs.length ≤ sizeLine → RVs g r H (kvs.map fun p => ofK p.1) (rows.map fun p => V.ref p.2.1) → RVs g r H (kvs.map (·.2)) (rows.map fun p => p.2.2) → RO g r H a (.lk (.dN kvs)) (.frz o (DnHO g.w a rows))

structure SR (g : Gx) (r : List Addr) (H : Hp) (S : Sto) : Prop where
  len : r.length = S.length
  nd : r.Nodup
  zat : ∀ p ∈ g.z, ∃ xs, H p = some (.lst xs)
  zr : ∀ p ∈ g.z, p ∉ r
  at_ : ∀ (i : Nat) (o : SO) (a : Addr), S[i]? = some o → r[i]? = some a → ∃ u, H a = some u ∧ RO g r H a o u

/-- from one heap to a later one: what stood stands, but for the store's own objects -/
structure Step (r : List Addr) (H : Hp) (r' : List Addr) (H' : Hp) : Prop where
  ext : ∀ b o, H b = some o → b ∉ r → H' b = some o
  pre : ∃ t, r' = r ++ t
  new : ∀ b, b ∈ r' → b ∈ r ∨ H b = none
  frz : ∀ b o u, H b = some (.frz o u) → H' b = some (.frz o u)

structure SlR (g : Gx) (r : List Addr) (H : Hp) (sl : Sl) (st : L2.St) : Prop where
  len : sl.length = st.length
  at_ : ∀ (i : Nat) (v : Val), sl[i]? = some (some v) → ∃ hv, st[i]? = some (some hv) ∧ RV g r H v hv

theorem Step.refl (r : List Addr) (H : Hp) : Step r H r H := ⟨fun _ _ h _ => h, ⟨[], by simp⟩, fun _ h => .inl h, fun _ _ _ h => h⟩
theorem Step.trans {r r1 r2 : List Addr} {H H1 H2 : Hp} (a : Step r H r1 H1) (b : Step r1 H1 r2 H2) : Step r H r2 H2 := by
  refine ⟨fun c o h hn => ?_, ?_, fun c hc => ?_, fun c o u h => b.frz c o u (a.frz c o u h)⟩
  · refine b.ext c o (a.ext c o h hn) fun hc => ?_
    rcases a.new c hc with z | z
    · exact hn z
    · rw [h] at z; cases z
  · obtain ⟨t, e⟩ := a.pre
    obtain ⟨t', e'⟩ := b.pre
    exact ⟨t ++ t', by rw [e', e, List.append_assoc]⟩
  · rcases b.new c hc with z | z
    · exact a.new c z
    · by_cases hm : c ∈ r
      · exact .inl hm
      · right
        cases q : H c with
        | none => rfl
        | some o =>
          rw [a.ext c o q hm] at z
          cases z
/-- the store's objects are no tuples and not locked -/
def Own (r : List Addr) (H : Hp) : Prop := ∀ b ∈ r, ∃ u, H b = some u ∧ (∀ xs, u ≠ .tup xs) ∧ (∀ o xs, u ≠ .frz o (.tup xs))
theorem SR.own {g : Gx} {r : List Addr} {H : Hp} {S : Sto} (s : SR g r H S) : Own r H := fun b hb => by
  obtain ⟨i, hi, e⟩ := List.mem_iff_getElem.mp hb
  have e1 : r[i]? = some b := by rw [List.getElem?_eq_getElem hi, e]
  have hi' : i < S.length := by rw [← s.len]; exact hi
  obtain ⟨u, hu, ro⟩ := s.at_ i S[i] b (by rw [List.getElem?_eq_getElem hi']) e1
  generalize S[i] = so at ro
  refine ⟨u, hu, ?_, ?_⟩
  · intro xs z; subst z; cases ro
  · intro o v z; subst z; cases ro
theorem Step.seqT {g : Gx} {r r' : List Addr} {H H' : Hp} {a : Addr} {vs : List V} (s : Step r H r' H') (ow : Own r H) (h : SqT g.K H a vs) : SqT g.K H' a vs := by
  rcases h with (h |
        ⟨o, h⟩) | h
  · refine .inl (.inl (s.ext _ _ h fun z => ?_))
    obtain ⟨u, hu, h1, _⟩ := ow a z
    rw [h] at hu; cases hu; exact h1 _ rfl
  · refine .inl (.inr ⟨o, s.ext _ _ h fun z => ?_⟩)
    obtain ⟨u, hu, _, h1⟩ := ow a z
    rw [h] at hu; cases hu; exact h1 _ _ rfl
  · exact .inr h
theorem Step.nin {r r' : List Addr} {H H' : Hp} {a : Addr} {o : HO} (s : Step r H r' H') (hn : a ∉ r) (h : H a = some o) : H' a = some o ∧ a ∉ r' := by
  refine ⟨s.ext _ _ h hn, fun z => ?_⟩
  rcases s.new a z with q | q
  · exact hn q
  · rw [h] at q; cases q
theorem Step.get {r r' : List Addr} {H H' : Hp} {n : Nat} {a : Addr} (s : Step r H r' H') (h : r[n]? = some a) : r'[n]? = some a := by
  obtain ⟨t, rfl⟩ := s.pre
  have hl : n < r.length := by
    rcases Nat.lt_or_ge n r.length with q | q
    · exact q
    · rw [List.getElem?_eq_none q] at h; cases h
  rw [List.getElem?_append_left hl]; exact h
/-- what is being made later was not there before -/
def Zs (z z' : List Addr) (H : Hp) : Prop := ∀ p ∈ z', p ∈ z ∨ H p = none
theorem Zs.refl (z : List Addr) (H : Hp) : Zs z z H := fun _ h => .inl h
theorem Zs.nin {z z' : List Addr} {H : Hp} {a : Addr} {o : HO} (s : Zs z z' H) (hn : a ∉ z) (h : H a = some o) : a ∉ z' := fun q => by
  rcases s a q with e | e
  · exact hn e
  · rw [h] at e; cases e
mutual
theorem RV.monoZ {g : Gx} {r r' z' : List Addr} {H H' : Hp} (s : Step r H r' H') (ow : Own r H) (zs : Zs g.z z' H) : ∀ {x : Val} {v : V}, RV g r H x v → RV (g.at z') r' H' x v
  | _, _, .non => .non
  | _, _, .bl b => .bl b
  | _, _, .int i => .int i
  | _, _, .str i => .str i
  | _, _, .ty i => .ty i
  | _, _, .fn h => .fn h
  | _, _, .tup h hl hs => .tup (s.seqT (g := g) ow h) hl (RVs.monoZ s ow zs hs)
  | _, _, .lst h hn hz hl hs => .lst (s.nin hn h).1 (s.nin hn h).2 (zs.nin hz h) hl (RVs.monoZ s ow zs hs)
  | _, _, .scr h hn hl hs => .scr (s.nin hn h).1 (s.nin hn h).2 hl (RVs.monoZ s ow zs hs)
  | _, _, .ref h => .ref (s.get h)
  | _, _, .ptp h hd hl hs => .ptp (s.ext _ _ h fun q => by obtain ⟨u, hu, _, c⟩ := ow _ q; rw [h] at hu; exact c _ _ (Option.some.inj hu).symm) hd hl (RVs.monoZ s ow zs hs)
theorem RVs.monoZ {g : Gx} {r r' z' : List Addr} {H H' : Hp} (s : Step r H r' H') (ow : Own r H) (zs : Zs g.z z' H) : ∀ {x : List Val} {v : List V}, RVs g r H x v → RVs (g.at z') r' H' x v
  | _, _, .nil => .nil
  | _, _, .cons h hs => .cons (RV.monoZ s ow zs h) (RVs.monoZ s ow zs hs)
end
theorem RV.mono {g : Gx} {r r' : List Addr} {H H' : Hp} (s : Step r H r' H') (ow : Own r H) {x : Val} {v : V} (h : RV g r H x v) : RV g r' H' x v := RV.monoZ s ow (.refl _ _) h
theorem RVs.mono {g : Gx} {r r' : List Addr} {H H' : Hp} (s : Step r H r' H') (ow : Own r H) {x : List Val} {v : List V} (h : RVs g r H x v) : RVs g r' H' x v := RVs.monoZ s ow (.refl _ _) h
theorem SlR.mono {g : Gx} {r r' : List Addr} {H H' : Hp} {sl : Sl} {st : L2.St} (s : Step r H r' H') (ow : Own r H) (x : SlR g r H sl st) : SlR g r' H' sl st :=
  ⟨x.len, fun i v h => by obtain ⟨hv, e, q⟩ := x.at_ i v h; exact ⟨hv, e, q.mono s ow⟩⟩
theorem SlR.set {g : Gx} {r : List Addr} {H : Hp} {sl : Sl} {st : L2.St} {v : Val} {hv : V} (x : SlR g r H sl st) (q : RV g r H v hv) (i : Nat) : SlR g r H (sl.set i (some v)) (st.set i (some hv)) := by
  refine ⟨by simp [x.len], fun j w h => ?_⟩
  by_cases e : i = j
  · subst e
    by_cases hl : i < sl.length
    · rw [List.getElem?_set_self hl] at h
      cases h
      exact ⟨hv, by rw [List.getElem?_set_self (by rw [← x.len]; exact hl)], q⟩
    · rw [List.getElem?_eq_none (by simp; omega)] at h; cases h
  · rw [List.getElem?_set_ne e] at h
    obtain ⟨hw, e1, q1⟩ := x.at_ j w h
    exact ⟨hw, by rw [List.getElem?_set_ne e]; exact e1, q1⟩
theorem RVs.length {g : Gx} {r : List Addr} {H : Hp} : ∀ {xs : List Val} {vs : List V}, RVs g r H xs vs → xs.length = vs.length
  | _, _, .nil => rfl
  | _, _, .cons _ t => by simp [RVs.length t]
theorem RVs.get {g : Gx} {r : List Addr} {H : Hp} : ∀ {xs : List Val} {vs : List V} {i : Nat} {x : Val}, RVs g r H xs vs → xs[i]? = some x → ∃ v, vs[i]? = some v ∧ RV g r H x v
  | _, _, i, _, .nil, e => by simp at e
  | _, _, 0, _, .cons h _, e => by simp at e; subst e; exact ⟨_, rfl, h⟩
  | _, _, i + 1, _, .cons _ t, e => by
    obtain ⟨v, h1, h2⟩ := RVs.get (i := i) t (by simpa using e)
    exact ⟨v, by simpa using h1, h2⟩
theorem RVs.append {g : Gx} {r : List Addr} {H : Hp} : ∀ {xs ys : List Val} {vs ws : List V}, RVs g r H xs vs → RVs g r H ys ws → RVs g r H (xs ++ ys) (vs ++ ws)
  | _, _, _, _, .nil, s => s
  | _, _, _, _, .cons h t, s => .cons h (RVs.append t s)
end Mp
namespace Mp
open PySem PySem.Spec
      PyProof.Rows L2

/-! ### readings -/
structure Rep (g : Gx) (r : List Addr) (H : Hp) (S : Sto) (sl : Sl) (st : L2.St) : Prop where
  sr : SR g r H S
  sl : SlR g r H sl st
/-- an expression's -/
def tD (g : Gx) (m : ME) : TE := fun st H Q => ∃ z r S sl v S', Rep (g.at z) r H S sl st ∧ m sl S = some (v, S') ∧
  ∀ r' H' hv, Step r H r' H' → SR (g.at z) r' H' S' → RV (g.at z) r' H' v hv → Q hv H'
/-- several expressions' -/
def tDs (g : Gx) (m : MEs) : TA := fun st H Q => ∃ z r S sl v S', Rep (g.at z) r H S sl st ∧ m sl S = some (v, S') ∧
  ∀ r' H' hv, Step r H r' H' → SR (g.at z) r' H' S' → RVs (g.at z) r' H' v hv → Q hv H'
/-- a test's -/
abbrev MT := Sl → Sto → Res Bool
def tDt (g : Gx) (m : MT) : TT := fun st H Q => ∃ z r S sl b S', Rep (g.at z) r H S sl st ∧ m sl S = some (b, S') ∧
  ∀ r' H', Step r H r' H' → SR (g.at z) r' H' S' → Q b H'

theorem PE.weak {X : Cx} {e : Expr} {t t' : TE} (h : PE X e t) (w : ∀ st H Q, t' st H Q → t st H Q) : PE X e t' := ⟨fun pins s st H Q I q => h.run pins s st H Q I (w _ _ _ q)⟩
theorem PT.weak {X : Cx} {e : Expr} {t t' : TT} (h : PT X e t) (w : ∀ st H Q, t' st H Q → t st H Q) : PT X e t' := ⟨fun pins s st H Q I q => h.run pins s st H Q I (w _ _ _ q)⟩
theorem PW.weak {X : Cx} {e : Expr} {t t' : TT} (h : PW X e t) (w : ∀ st H Q, t' st H Q → t st H Q) : PW X e t' := ⟨fun wh pins s st H Q I q => h.run wh pins s st H Q I (w _ _ _ q)⟩
theorem PA.weak {X : Cx} {e : List Expr} {t t' : TA} (h : PA X e t) (w : ∀ st H Q, t' st H Q → t st H Q) : PA X e t' := ⟨fun pos pins s st H Q I q => h.run pos pins s st H Q I (w _ _ _ q)⟩
theorem PS.weak {X : Cx} {e : Stmt} {t t' : TS} (h : PS X e t) (w : ∀ D st H, t' D st H → t D st H) : PS X e t' := ⟨fun pins s st H Q I q => h.run pins s st H Q I (w _ _ _ q)⟩
theorem PSs.weak {X : Cx} {e : List Stmt} {t t' : TS} (h : PSs X e t) (w : ∀ D st H, t' D st H → t D st H) : PSs X e t' := ⟨fun pins s st H Q I q => h.run pins s st H Q I (w _ _ _ q)⟩

theorem Rep.step {g : Gx} {r r' : List Addr} {H H' : Hp} {S S' : Sto} {sl : Sl} {st : L2.St} (R : Rep g r H S sl st) (s : Step r H r' H') (sr : SR g r' H' S') : Rep g r' H' S' sl st := ⟨sr, R.sl.mono s R.sr.own⟩

/-! ### the interpreter's words -/
def eVar (i : Nat) : ME := fun sl S => match sl[i]? with
  | some (some v) => some (v, S)
  | _ => none
def eCon (v : Val) : ME := fun _ S => some (v, S)
def esNil : MEs := fun _ S => some ([], S)
def esCons (m : ME) (ms : MEs) : MEs := fun sl S => (m sl S).bind fun p => (ms sl p.2).bind fun q => some (p.1 :: q.1, q.2)
def eTup (ms : MEs) : ME := fun sl S => (ms sl S).bind fun p => some (.tup p.1, p.2)
def eLst (ms : MEs) : ME := fun sl S => (ms sl S).bind fun p => some (.lst p.1, p.2)
def eLstM (ms : MEs) : ME := fun sl S => (ms sl S).bind fun p => some (.ref p.2.length, p.2 ++ [.lst p.1])
/-- a pure operation upon two values -/
def eOp2 (f : Sto → Val → Val → Option Val) (a b : ME) : ME := fun sl S => (a sl S).bind fun p => (b sl p.2).bind fun q => (f q.2 p.1 q.1).bind fun v => some (v, q.2)
def eOp1 (f : Sto → Val → Option Val) (a : ME) : ME := fun sl S => (a sl S).bind fun p => (f p.2 p.1).bind fun v => some (v, p.2)
def eIfE (c : MT) (a b : ME) : ME := fun sl S => (c sl S).bind fun p => if p.1 then a sl p.2 else b sl p.2
/-- truth -/
def truth (S : Sto) : Val → Option Bool
  | .non => some false
  | .bl b => some b
  | .int i => some (i != 0)
  | .str x => if x.length ≤ sizeLine then some (x.length != 0) else none
  | .tup xs => some (!xs.isEmpty)
  | .ptp xs => some (!xs.isEmpty)
  | .lst xs => some (!xs.isEmpty)
  | .ref n => match S[n]? with
    | some (.lst xs) => some (!xs.isEmpty)
    | some (.dK kvs) => some (!kvs.isEmpty)
    | _ => none
  | _ => none
def tTru (a : ME) : MT := fun sl S => (a sl S).bind fun p => (truth p.2 p.1).bind fun b => some (b, p.2)
def tAndD (a b : MT) : MT := fun sl S => (a sl S).bind fun p => if p.1 then b sl p.2 else some (false, p.2)
def tOrD (a b : MT) : MT := fun sl S => (a sl S).bind fun p => if p.1 then some (true, p.2) else b sl p.2
def tNotD (a : MT) : MT := fun sl S => (a sl S).bind fun p => some (!p.1, p.2)
/-- a test's answer as a value -/
def eOfT (a : MT) : ME := fun sl S => (a sl S).bind fun p => some (.bl p.1, p.2)
/-- x and y, x or y as values -/
def eAndV (a b : ME) : ME := fun sl S => (a sl S).bind fun p => (truth p.2 p.1).bind fun k => if k then b sl p.2 else some p
def eOrV (a b : ME) : ME := fun sl S => (a sl S).bind fun p => (truth p.2 p.1).bind fun k => if k then some p else b sl p.2
def eNotV (a : ME) : ME := fun sl S => (a sl S).bind fun p => (truth p.2 p.1).bind fun k => some (.bl (!k), p.2)

section
variable {X : Cx} {g : Gx} {pos : Pos}
theorem d_var {i : Nat} {x : Str} (hN : X.N[i]? = some x := by rfl) (hv : Vis X.env.scope x := by first | exact Or.inl rfl | exact Or.inr (Or.inl rfl) | exact Or.inr (Or.inr rfl)) (hd : (x == ("__debug__" : Str)) = false := by decide)
    (hcd : (x == ("__classdict__" : Str)) = false := by decide) : PE X (.Name x pos) (tD g (eVar i)) := by
  refine PE.weak (pe_var (i := i) hN hv hd hcd) fun st H Q h => ?_
  obtain ⟨z, r, S, sl, v, S', R, e, q⟩ := h
  unfold eVar at e
  split at e
  · rename_i v' hv'
    cases e
    obtain ⟨hw, e1, q1⟩ := R.sl.at_ i v hv'
    exact ⟨hw, e1, q r H hw (.refl r H) R.sr q1⟩
  · cases e
/-- constants -/
theorem d_con {e : Expr} {v : Val} {hv : V} (h : PE X e (tC hv)) (rv : ∀ z r H, RV (g.at z) r H v hv) : PE X e (tD g (eCon v)) := by
  refine PE.weak h fun st H Q h => ?_
  obtain ⟨z, r, S, sl, v', S', R, e, q⟩ := h
  cases e
  exact q r H hv (.refl r H) R.sr (rv z r H)
theorem d_int {i : Int} {j : Nat} : PE X (.Constant (.int i) j pos) (tD g (eCon (.int i))) := d_con pe_int fun _ _ _ => .int i
theorem d_bl {b : Bool} {j : Nat} : PE X (.Constant (.bool b) j pos) (tD g (eCon (.bl b))) := d_con pe_bl fun _ _ _ => .bl b
theorem d_non {j : Nat} : PE X (.Constant .none j pos) (tD g (eCon .non)) := d_con pe_non fun _ _ _ => .non
theorem d_str {x : Str} {j : Nat} : PE X (.Constant (.str x) j pos) (tD g (eCon (.str x))) := d_con pe_str fun _ _ _ => .str x
theorem d_nil : PA X [] (tDs g esNil) := by
  refine PA.weak pa_nil fun st H Q h => ?_
  obtain ⟨z, r, S, sl, v', S', R, e, q⟩ := h
  cases e
  exact q r H [] (.refl r H) R.sr .nil
theorem d_cons {e : Expr} {es : List Expr} {m : ME} {ms : MEs} (h : PE X e (tD g m)) (hs : PA X es (tDs g ms)) (hst : starEach (e :: es) X.env = (false, eval e X.env) :: starEach es X.env := by rfl) : PA X (e :: es) (tDs g (esCons m ms)) := by
  refine PA.weak (pa_cons h hs hst) fun st H Q h => ?_
  obtain ⟨z, r, S, sl, v', S', R, e, q⟩ := h
  unfold esCons at e
  simp only [Option.bind_eq_some_iff] at e
  obtain ⟨⟨a, S1⟩, e1, ⟨b, S2⟩, e2, e3⟩ := e
  cases e3
  refine ⟨z, r, S, sl, a, S1, R, e1, fun r1 H1 x st1 sr1 rx => ⟨z, r1, S1, sl, b, S2, R.step st1 sr1, e2, fun r2 H2 y st2 sr2 ry => ?_⟩⟩
  exact q r2 H2 (x :: y) (st1.trans st2) sr2 (.cons (rx.mono st2 sr1.own) ry)
theorem Step.new1 {r : List Addr} {H : Hp} {p : Addr} {o : HO} (h : H p = none) : Step r H r (upd H p o) :=
  ⟨fun b u e _ => by rw [upd_ne (ne_of_none e h)]; exact e, ⟨[], by simp⟩, fun _ h => .inl h, fun b x u e => by rw [upd_ne (ne_of_none e h)]; exact e⟩
theorem RVs.of_none {g : Gx} {r : List Addr} {H : Hp} {p : Addr} {o : HO} {xs : List Val} {vs : List V} (ow : Own r H) (h : H p = none) (x : RVs g r H xs vs) : RVs g r (upd H p o) xs vs := x.mono (Step.new1 h) ow
theorem RO.mono {g : Gx} {r r' : List Addr} {H H' : Hp} (s : Step r H r' H') (ow : Own r H) {a : Addr} {o : SO} {u : HO} (x : RO g r H a o u) : RO g r' H' a o u := by
  cases x with
  | lst hl h => exact .lst hl (h.mono s ow)
  | dK h1 hl h2 => exact .dK h1 hl (h2.mono s ow)
  | dN h1 hl h0 h2 => exact .dN h1 hl (h0.mono s ow) (h2.mono s ow)
  | lkK h => cases h with | dK h1 hl h2 => exact .lkK (.dK h1 hl (h2.mono s ow))
  | lkN h1 hl h0 h2 => exact .lkN h1 hl (h0.mono s ow) (h2.mono s ow)
/-- a new object beside the store -/
theorem SR.beside {g : Gx} {r : List Addr} {H : Hp} {S : Sto} {p : Addr} {o : HO} (s : SR g r H S) (h : H p = none) : SR g r (upd H p o) S := by
  refine ⟨s.len, s.nd, fun q hq => ?_, s.zr, fun i so a h1 h2 => ?_⟩
  · obtain ⟨xs, e⟩ := s.zat q hq
    exact ⟨xs, by rw [upd_ne (ne_of_none e h)]; exact e⟩
  obtain ⟨u, hu, ro⟩ := s.at_ i so a h1 h2
  exact ⟨u, by rw [upd_ne (ne_of_none hu h)]; exact hu, ro.mono (Step.new1 h) s.own⟩
/-- a new object of the store -/
theorem SR.grow {g : Gx} {r : List Addr} {H : Hp} {S : Sto} {p : Addr} {o : HO} {so : SO} (s : SR g r H S) (h : H p = none) (ro : RO g r H p so o) : SR g (r ++ [p]) (upd H p o) (S ++ [so]) ∧ Step r H (r ++ [p]) (upd H p o) := by
  have hp : p ∉ r := fun z => by
    obtain ⟨u, hu, _⟩ := s.own p z
    rw [h] at hu; cases hu
  have st : Step r H (r ++ [p]) (upd H p o) := by
    refine ⟨fun b u e _ => by rw [upd_ne (ne_of_none e h)]; exact e, ⟨[p], rfl⟩, fun b hb => ?_, fun b x u e => by rw [upd_ne (ne_of_none e h)]; exact e⟩
    rcases List.mem_append.mp hb with z | z
    · exact .inl z
    · right
      have : b = p := by simpa using z
      rw [this]; exact h
  refine ⟨⟨by simp [s.len], ?_, fun q hq => ?_, fun q hq => ?_, fun i so' a h1 h2 => ?_⟩, st⟩
  · refine List.nodup_append.mpr ⟨s.nd, by simp, fun a ha b hb => ?_⟩
    have : b = p := by simpa using hb
    subst this
    intro e; subst e; exact hp ha
  · obtain ⟨xs, e⟩ := s.zat q hq
    exact ⟨xs, by rw [upd_ne (ne_of_none e h)]; exact e⟩
  · obtain ⟨xs, e⟩ := s.zat q hq
    intro z
    rcases List.mem_append.mp z with z | z
    · exact s.zr q hq z
    · have : q = p := by simpa using z
      rw [this, h] at e; cases e
  · by_cases hl : i < S.length
    · rw [List.getElem?_append_left hl] at h1
      rw [List.getElem?_append_left (by rw [s.len]; exact hl)] at h2
      obtain ⟨u, hu, ro'⟩ := s.at_ i so' a h1 h2
      exact ⟨u, by rw [upd_ne (ne_of_none hu h)]; exact hu, ro'.mono st s.own⟩
    · have hi : i = S.length := by
        have := (List.getElem?_eq_some_iff.mp h1).1
        simp at this; omega
      subst hi
      rw [List.getElem?_append_right (Nat.le_refl _)] at h1
      rw [← s.len, List.getElem?_append_right (Nat.le_refl _)] at h2
      simp at h1 h2
      subst h1 h2
      exact ⟨o, upd_same, ro.mono st s.own⟩
/-- so many values come -/
def EsN (ms : MEs) (n : Nat) : Prop := ∀ sl S p, ms sl S = some p → p.1.length = n
theorem esN_nil : EsN esNil 0 := fun sl S p h => by cases h; rfl
theorem esN_cons {m : ME} {ms : MEs} {n : Nat} (h : EsN ms n) : EsN (esCons m ms) (n + 1) := fun sl S p e => by
  unfold esCons at e
  simp only [Option.bind_eq_some_iff] at e
  obtain ⟨⟨a, S1⟩, e1, ⟨b, S2⟩, e2, e3⟩ := e
  cases e3
  simp [h _ _ _ e2]
theorem d_tup {es : List Expr} {ms : MEs} {n : Nat} {x1 : Nat} (h : PA X es (tDs g ms)) (hn : EsN ms n) (hl : n ≤ sizeLine := by decide) : PE X (.Tuple es x1 pos) (tD g (eTup ms)) := by
  refine PE.weak (pe_tup h) fun st H Q h => ?_
  obtain ⟨z, r, S, sl, v', S', R, e, q⟩ := h
  unfold eTup at e
  simp only [Option.bind_eq_some_iff] at e
  obtain ⟨⟨a, S1⟩, e1, e3⟩ := e
  cases e3
  have hz : a.length ≤ sizeLine := by rw [hn _ _ _ e1]; exact hl
  refine ⟨z, r, S, sl, a, S1, R, e1, fun r1 H1 x st1 sr1 rx => ⟨by rw [← rx.length]; exact hz, fun p hp => ?_⟩⟩
  exact q r1 _ (.ref p) (st1.trans (Step.new1 hp)) (sr1.beside hp) (.tup (.inl (.inl upd_same)) hz (rx.of_none sr1.own hp))
theorem notin_own {r : List Addr} {H : Hp} {p : Addr} (ow : Own r H) (h : H p = none) : p ∉ r := fun z => by
  obtain ⟨u, hu, _⟩ := ow p z
  rw [h] at hu; cases hu
theorem SR.notz {g : Gx} {r : List Addr} {H : Hp} {S : Sto} {p : Addr} (sr : SR g r H S) (hp : H p = none) : p ∉ g.z := fun q => by
  obtain ⟨xs, e⟩ := sr.zat p q
  rw [hp] at e; cases e
theorem RV.newL {g : Gx} {r : List Addr} {H : Hp} {S : Sto} {p : Addr} {xs : List Val} {vs : List V} (sr : SR g r H S) (hp : H p = none) (hz : xs.length ≤ sizeLine) (rx : RVs g r H xs vs) : RV g r (upd H p (.lst vs)) (.lst xs) (.ref p) :=
  .lst upd_same (notin_own sr.own hp) (sr.notz hp) hz (rx.of_none sr.own hp)
theorem RV.newT {g : Gx} {r : List Addr} {H : Hp} {S : Sto} {p : Addr} {xs : List Val} {vs : List V} (sr : SR g r H S) (hp : H p = none) (hz : xs.length ≤ sizeLine) (rx : RVs g r H xs vs) : RV g r (upd H p (.tup vs)) (.tup xs) (.ref p) :=
  .tup (.inl (.inl upd_same)) hz (rx.of_none sr.own hp)
theorem d_lst {es : List Expr} {ms : MEs} {n : Nat} (h : PA X es (tDs g ms)) (hn : EsN ms n) (hl : n ≤ sizeLine := by decide) : PE X (.List es pos) (tD g (eLst ms)) := by
  refine PE.weak (pe_lst h) fun st H Q h => ?_
  obtain ⟨z, r, S, sl, v', S', R, e, q⟩ := h
  unfold eLst at e
  simp only [Option.bind_eq_some_iff] at e
  obtain ⟨⟨a, S1⟩, e1, e3⟩ := e
  cases e3
  have hz : a.length ≤ sizeLine := by rw [hn _ _ _ e1]; exact hl
  refine ⟨z, r, S, sl, a, S1, R, e1, fun r1 H1 x st1 sr1 rx => ⟨by rw [← rx.length]; exact hz, fun p hp => ?_⟩⟩
  exact q r1 _ (.ref p) (st1.trans (Step.new1 hp)) (sr1.beside hp) (RV.newL sr1 hp hz rx)
theorem d_lstM {es : List Expr} {ms : MEs} {n : Nat} (h : PA X es (tDs g ms)) (hn : EsN ms n) (hl : n ≤ sizeLine := by decide) : PE X (.List es pos) (tD g (eLstM ms)) := by
  refine PE.weak (pe_lst h) fun st H Q h => ?_
  obtain ⟨z, r, S, sl, v', S', R, e, q⟩ := h
  unfold eLstM at e
  simp only [Option.bind_eq_some_iff] at e
  obtain ⟨⟨a, S1⟩, e1, e3⟩ := e
  cases e3
  have hz : a.length ≤ sizeLine := by rw [hn _ _ _ e1]; exact hl
  refine ⟨z, r, S, sl, a, S1, R, e1, fun r1 H1 x st1 sr1 rx => ⟨by rw [← rx.length]; exact hz, fun p hp => ?_⟩⟩
  obtain ⟨sr2, st2⟩ := sr1.grow hp (RO.lst hz rx)
  refine q _ _ (.ref p) (st1.trans st2) sr2 (.ref ?_)
  rw [← sr1.len, List.getElem?_append_right (Nat.le_refl _)]
  simp
/-- an operation upon two values, as the heap has them -/
def rG2 (g : Gx) (f : Sto → Val → Val → Option Val) : R2 := fun x y H Q => ∃ z r S a b v, SR (g.at z) r H S ∧ RV (g.at z) r H a x ∧ RV (g.at z) r H b y ∧ f S a b = some v ∧
  ∀ r' H' hv, Step r H r' H' → SR (g.at z) r' H' S → RV (g.at z) r' H' v hv → Q hv H'
def rG1 (g : Gx) (f : Sto → Val → Option Val) : V → Hp → VK → Prop := fun x H Q => ∃ z r S a v, SR (g.at z) r H S ∧ RV (g.at z) r H a x ∧ f S a = some v ∧
  ∀ r' H' hv, Step r H r' H' → SR (g.at z) r' H' S → RV (g.at z) r' H' v hv → Q hv H'
theorem op2_read {f : Sto → Val → Val → Option Val} {a b : ME} {st : L2.St} {H : Hp} {Q : VK} (h : tD g (eOp2 f a b) st H Q) : tD g a st H fun x H1 => tD g b st H1 fun y H2 => rG2 g f x y H2 Q := by
  obtain ⟨z, r, S, sl, v', S', R, e, q⟩ := h
  unfold eOp2 at e
  simp only [Option.bind_eq_some_iff] at e
  obtain ⟨⟨a, S1⟩, e1, ⟨b, S2⟩, e2, w, e3, e4⟩ := e
  cases e4
  refine ⟨z, r, S, sl, a, S1, R, e1, fun r1 H1 x st1 sr1 rx => ⟨z, r1, S1, sl, b, S2, R.step st1 sr1, e2, fun r2 H2 y st2 sr2 ry => ?_⟩⟩
  exact ⟨z, r2, S2, a, b, _, sr2, rx.mono st2 sr1.own, ry, e3, fun r3 H3 hv st3 sr3 rv => q r3 H3 hv ((st1.trans st2).trans st3) sr3 rv⟩
theorem op1_read {f : Sto → Val → Option Val} {a : ME} {st : L2.St} {H : Hp} {Q : VK} (h : tD g (eOp1 f a) st H Q) : tD g a st H fun x H1 => rG1 g f x H1 Q := by
  obtain ⟨z, r, S, sl, v', S', R, e, q⟩ := h
  unfold eOp1 at e
  simp only [Option.bind_eq_some_iff] at e
  obtain ⟨⟨a, S1⟩, e1, w, e3, e4⟩ := e
  cases e4
  refine ⟨z, r, S, sl, a, S1, R, e1, fun r1 H1 x st1 sr1 rx => ⟨z, r1, S1, a, _, sr1, rx, e3, fun r3 H3 hv st3 sr3 rv => q r3 H3 hv (st1.trans st3) sr3 rv⟩⟩
theorem d_bin {op : Operator} {f : Sto → Val → Val → Option Val} {a b : Expr} {ma mb : ME} (ho : OpR X (binaryOp op) (rG2 g f)) (ha : PE X a (tD g ma)) (hb : PE X b (tD g mb)) : PE X (.BinOp a op b pos) (tD g (eOp2 f ma mb)) :=
  PE.weak (pe_op ho ha hb) fun _ _ _ h => op2_read h
theorem d_un {op : UnaryOp} {f : Sto → Val → Option Val} {a : Expr} {ma : ME} (ho : UnR X (unaryOp op) (rG1 g f)) (ha : PE X a (tD g ma)) : PE X (.UnaryOp op a pos) (tD g (eOp1 f ma)) :=
  PE.weak (pe_un ho ha) fun _ _ _ h => op1_read h
theorem d_cmp {op : CmpOp} {f : Sto → Val → Val → Option Val} {a b : Expr} {ma mb : ME} (ho : OpR X (compareOp op) (rG2 g f)) (ha : PE X a (tD g ma)) (hb : PE X b (tD g mb)) (hm : behindInMarks op b = false) : PE X (.Compare a [op] [b] pos) (tD g (eOp2 f ma mb)) :=
  PE.weak (pe_cmpR ho ha hb hm) fun _ _ _ h => op2_read h
end
end Mp
namespace Mp
open PySem PySem.Spec
      PyProof.Rows L2

/-! ### values as data -/
mutual
def toD : Val → Option PyData
  | .non => some .none
  | .bl b => some (.bool b)
  | .int i => some (.int i)
  | .str x => some (.str x)
  | .tup xs => (toDs xs).map .tuple
  | .ptp xs => (toDs xs).map .tuple
  | .lst xs => (toDs xs).map .list
  | _ => none
def toDs : List Val → Option (List PyData)
  | [] => some []
  | x :: xs => (toD x).bind fun d => (toDs xs).map fun ds => d :: ds
end
def toDS (S : Sto) : Val → Option PyData
  | .ref n => match S[n]? with
    | some (.lst xs) => (toDs xs).map .list
    | _ => none
  | v => toD v
mutual
theorem RV.dp {g : Gx} {r : List Addr} {H : Hp} : ∀ {x : Val} {v : V} {d : PyData}, RV g r H x v → toD x = some d → Dp g.K H v d
  | _, _, _, .non, e => by cases e; exact .non
  | _, _, _, .bl b, e => by cases e; exact .bl b
  | _, _, _, .int i, e => by cases e; exact .int i
  | _, _, _, .str i, e => by cases e; exact .str i
  | _, _, _, .ty i, e => by cases e
  | _, _, _, .fn h, e => by cases e
  | _, _, _, .ref h, e => by cases e
  | _, _, _, .scr h _ _ _, e => by cases e
  | _, _, _, .tup h _ hs, e => by
    simp only [toD, Option.map_eq_some_iff] at e
    obtain ⟨ds, e1, e2⟩ := e
    subst e2
    exact .tup h (RVs.dp hs e1)
  | _, _, _, .ptp h _ _ hs, e => by
    simp only [toD, Option.map_eq_some_iff] at e
    obtain ⟨ds, e1, e2⟩ := e
    subst e2
    exact .tup (.inl (.inr ⟨_, h⟩)) (RVs.dp hs e1)
  | _, _, _, .lst h _ _ _ hs, e => by
    simp only [toD, Option.map_eq_some_iff] at e
    obtain ⟨ds, e1, e2⟩ := e
    subst e2
    exact .lst (.inl (.inl h)) (RVs.dp hs e1)
theorem RVs.dp {g : Gx} {r : List Addr} {H : Hp} : ∀ {x : List Val} {v : List V} {d : List PyData}, RVs g r H x v → toDs x = some d → DpAll g.K H v d
  | _, _, _, .nil, e => by cases e; exact .nil
  | _, _, _, .cons h hs, e => by
    simp only [toDs, Option.bind_eq_some_iff, Option.map_eq_some_iff] at e
    obtain ⟨d, e1, ds, e2, e3⟩ := e
    subst e3
    exact .cons (RV.dp h e1) (RVs.dp hs e2)
end
theorem RV.dpS {g : Gx} {r : List Addr} {H : Hp} {S : Sto} {x : Val} {v : V} {d : PyData} (sr : SR g r H S) (h : RV g r H x v) (e : toDS S x = some d) : Dp g.K H v d := by
  cases h with
  | ref q =>
    simp only [toDS] at e
    split at e
    · rename_i xs hx
      simp only [Option.map_eq_some_iff] at e
      obtain ⟨ds, e1, e2⟩ := e
      subst e2
      obtain ⟨u, hu, ro⟩ := sr.at_ _ _ _ hx q
      cases ro with
      | lst hl hs => exact .lst (.inl (.inl hu)) (hs.dp e1)
    · cases e
  | non => exact RV.dp (RV.non (g := g) (r := r) (H := H)) e
  | bl b => exact RV.dp (RV.bl (g := g) (r := r) (H := H) b) e
  | int b => exact RV.dp (RV.int (g := g) (r := r) (H := H) b) e
  | str b => exact RV.dp (RV.str (g := g) (r := r) (H := H) b) e
  | ty b => exact RV.dp (RV.ty (g := g) (r := r) (H := H) b) e
  | fn q => exact RV.dp (RV.fn (g := g) (r := r) (H := H) q) e
  | tup h1 h2 h3 => exact RV.dp (RV.tup (g := g) (r := r) (H := H) h1 h2 h3) e
  | lst h1 h2 h5 h3 h4 => exact RV.dp (RV.lst (g := g) (r := r) (H := H) h1 h2 h5 h3 h4) e
  | scr h1 h2 h3 h4 => exact RV.dp (RV.scr (g := g) (r := r) (H := H) h1 h2 h3 h4) e
  | ptp h1 h2 h3 h4 => exact RV.dp (RV.ptp (g := g) (r := r) (H := H) h1 h2 h3 h4) e
/-- two data that may be compared with == -/
def eqOk (d e : PyData) : Bool := d.canLay0 && e.canLay0 && decide (min d.depth e.depth ≤ 64)
def fEq (neg : Bool) (S : Sto) (a b : Val) : Option Val := (toDS S a).bind fun d => (toDS S b).bind fun e => if eqOk d e then some (.bl (neg ^^ PyData.eqv d e)) else none
def ordOk (d e : PyData) : Bool := PySem.W.alike d e && (match d with | .none => false | _ => true) && decide (min d.depth e.depth ≤ 64)
def ordV : CmpOp → PyData → PyData → Option Bool
  | .Lt, d, e => some (PySem.W.dataLt d e)
  | .Gt, d, e => some (PySem.W.dataLt e d)
  | .LtE, d, e => some (!PySem.W.dataLt e d)
  | .GtE, d, e => some (!PySem.W.dataLt d e)
  | _, _, _ => none
def fOrd (op : CmpOp) (S : Sto) (a b : Val) : Option Val := (toDS S a).bind fun d => (toDS S b).bind fun e => if ordOk d e then (ordV op d e).map .bl else none

section
variable {X : Cx} {g : Gx} {pos : Pos}
theorem toDS_reads {pins : List (Addr × Obj)} {st : L2.St} {H : Hp} {s : Shared} {r : List Addr} {S : Sto} {a : Val} {x : V} {u : Value} {d : PyData} (hK : g.K = X.K) (I : Inv X pins st H s) (sr : SR g r H S) (ra : RV g r H a x) (e : toDS S a = some d) (rv : RelV x u) : ∃ as, Reads s.heap u d as := by
  have q := ra.dpS sr e
  rw [hK] at q
  exact Dp.reads I d x u q rv
theorem fin_blG {pins : List (Addr × Obj)} {st : L2.St} {H : Hp} {s : Shared} {r : List Addr} {S : Sto} {Q : VK} {k : Bool} (I : Inv X pins st H s) (sr : SR g r H S) (q : ∀ r' H' hv, Step r H r' H' → SR g r' H' S → RV g r' H' (.bl k) hv → Q hv H') : EP X pins st Q (.bool k) s :=
  ⟨.bl k, H, I, rfl, q r H _ (.refl r H) sr (.bl k)⟩
theorem o_eq (hK : g.K = X.K) (hu : X.A.units + 64 < cLine) : OpR X (compareOp .Eq) (rG2 g (fEq false)) := by
  intro pins s st H x y v u Q I rx ry h
  obtain ⟨z, r, S, a, b, w, sr, ra, rb, e, q⟩ := h
  simp only [fEq, Option.bind_eq_some_iff] at e
  obtain ⟨d, e1, d', e2, e3⟩ := e
  obtain ⟨as, r1⟩ := toDS_reads (g := g.at z) hK I sr ra e1 rx
  obtain ⟨bs, r2⟩ := toDS_reads (g := g.at z) hK I sr rb e2 ry
  split at e3
  · rename_i ok
    simp only [eqOk, Bool.and_eq_true, decide_eq_true_eq] at ok
    cases e3
    refine SeqAt.compareEq_reads r1 r2 ok.1.1 ok.1.2 (by omega) ?_
    have := fin_blG I sr q
    simpa using this
  · cases e3
theorem o_ne (hK : g.K = X.K) (hu : X.A.units + 64 < cLine) : OpR X (compareOp .NotEq) (rG2 g (fEq true)) := by
  intro pins s st H x y v u Q I rx ry h
  obtain ⟨z, r, S, a, b, w, sr, ra, rb, e, q⟩ := h
  simp only [fEq, Option.bind_eq_some_iff] at e
  obtain ⟨d, e1, d', e2, e3⟩ := e
  obtain ⟨as, r1⟩ := toDS_reads (g := g.at z) hK I sr ra e1 rx
  obtain ⟨bs, r2⟩ := toDS_reads (g := g.at z) hK I sr rb e2 ry
  split at e3
  · rename_i ok
    simp only [eqOk, Bool.and_eq_true, decide_eq_true_eq] at ok
    cases e3
    refine SeqAt.compareNe_reads r1 r2 ok.1.1 ok.1.2 (by omega) ?_
    have := fin_blG I sr q
    simpa using this
  · cases e3
theorem o_ord {op : CmpOp} (hK : g.K = X.K) (hu : X.A.units + 64 < cLine) : OpR X (compareOp op) (rG2 g (fOrd op)) := by
  intro pins s st H x y v u Q I rx ry h
  obtain ⟨z, r, S, a, b, w, sr, ra, rb, e, q⟩ := h
  simp only [fOrd, Option.bind_eq_some_iff] at e
  obtain ⟨d, e1, d', e2, e3⟩ := e
  obtain ⟨as, r1⟩ := toDS_reads (g := g.at z) hK I sr ra e1 rx
  obtain ⟨bs, r2⟩ := toDS_reads (g := g.at z) hK I sr rb e2 ry
  split at e3
  · rename_i ok
    simp only [ordOk, Bool.and_eq_true, decide_eq_true_eq] at ok
    obtain ⟨⟨ok1, ok2⟩, ok3⟩ := ok
    have hn : d ≠ .none := fun z => by rw [z] at ok2; exact absurd ok2 (by simp)
    have hu' : X.A.units + min d.depth d'.depth < cLine := by omega
    cases op <;> simp only [ordV, Option.map_some, Option.map_none, Option.some.injEq, reduceCtorEq] at e3 <;> subst e3
    · exact PySem.W.lt_data r1 r2 ok1 hn hu' (fin_blG I sr q)
    · exact PySem.W.le_data r1 r2 ok1 hn hu' (fin_blG I sr q)
    · exact PySem.W.gt_data r1 r2 ok1 hn hu' (fin_blG I sr q)
    · exact PySem.W.ge_data r1 r2 ok1 hn hu' (fin_blG I sr q)
  · cases e3
/-! in, not in -/
def itemsD : PyData → Option (List PyData)
  | .list ds => some ds
  | .tuple ds => some ds
  | _ => none
def fIn (neg : Bool) (S : Sto) (a b : Val) : Option Val := match a, b with
  | .str x, .str y => some (.bl (neg ^^ (!(Builtin.Str.occurrences y x 0 y.length 1).isEmpty)))
  | a, b => (toDS S a).bind fun d => (toDS S b).bind fun e => (itemsD e).bind fun ds => if d.canLay0 && PyData.canLayAll0 ds && decide (min (PyData.depthAll ds) d.depth ≤ 64) then some (.bl (neg ^^ (ds.any fun z => PyData.eqv z d))) else none
theorem o_in {neg : Bool} (hK : g.K = X.K) (hu : X.A.units + 66 < cLine) : OpR X (compareOp (if neg then .NotIn else .In)) (rG2 g (fIn neg)) := by
  intro pins s st H x y v u Q I rx ry h
  obtain ⟨z, r, S, a, b, w, sr, ra, rb, e, q⟩ := h
  unfold fIn at e
  split at e
  · rename_i x' y'
    cases e
    cases ra
    cases rb
    cases neg
    · refine op_in_str pins s st H _ _ v u Q I rx ry ⟨_, _, rfl, rfl, ?_⟩
      exact q r H _ (.refl r H) sr (by simpa using RV.bl _)
    · refine op_notin_str pins s st H _ _ v u Q I rx ry ⟨_, _, rfl, rfl, ?_⟩
      exact q r H _ (.refl r H) sr (by simpa using RV.bl _)
  · simp only [Option.bind_eq_some_iff] at e
    obtain ⟨d, e1, d', e2, ds, e3, e4⟩ := e
    obtain ⟨as, r1⟩ := toDS_reads (g := g.at z) hK I sr ra e1 rx
    obtain ⟨bs, r2⟩ := toDS_reads (g := g.at z) hK I sr rb e2 ry
    split at e4
    · rename_i ok
      simp only [Bool.and_eq_true,
            decide_eq_true_eq] at ok
      obtain ⟨⟨ok1, ok2⟩, ok3⟩ := ok
      cases e4
      have hq := fin_blG I sr q
      cases d' with
      | list zs =>
        cases e3
        cases neg
        · exact SeqAt.in_list_reads r2 r1 ok2 ok1 (by omega) (by simpa using hq)
        · exact SeqAt.notIn_list_reads r2 r1 ok2 ok1 (by omega) (by simpa using hq)
      | tuple zs =>
        cases e3
        cases neg
        · exact SeqAt.in_tuple_reads r2 r1 ok2 ok1 (by omega) (by simpa using hq)
        · exact SeqAt.notIn_tuple_reads r2 r1 ok2 ok1 (by omega) (by simpa using hq)
      | _ => cases e3
    · cases e4
end
end Mp
namespace Mp
open PySem PySem.Spec
      PyProof.Rows L2

/-- the items of a list that is read: one that nobody changes, or one of the store -/
def lstOf (S : Sto) : Val → Option (List Val)
  | .lst xs => some xs
  | .ref n => match S[n]? with
    | some (.lst xs) => some xs
    | _ => none
  | _ => none
def fAdd (S : Sto) : Val → Val → Option Val
  | .int i, .int j => some (.int (i + j))
  | .str x, .str y => if x.length + y.length ≤ sizeLine then some (.str (x ++ y)) else none
  | .tup xs, .tup ys => if xs.length + ys.length ≤ sizeLine then some (.tup (xs ++ ys)) else none
  | a, b => (lstOf S a).bind fun xs => (lstOf S b).bind fun ys => if xs.length + ys.length ≤ sizeLine then some (.lst (xs ++ ys)) else none
def fSub (_ : Sto) : Val → Val → Option Val
  | .int i, .int j => some (.int (i - j))
  | _, _ => none
def mulOk (i j : Int) : Bool := (decide (-(2 ^ 64) < i) && decide (i < 2 ^ 64)) || (decide (-(2 ^ 64) < j) && decide (j < 2 ^ 64))
def fMul (_ : Sto) : Val → Val → Option Val
  | .int i, .int j => if mulOk i j then some (.int (i * j)) else none
  | _, _ => none
def fMod (_ : Sto) : Val → Val → Option Val
  | .int i, .int j => if 0 < j then some (.int (i % j)) else none
  | _, _ => none
def fDiv (_ : Sto) : Val → Val → Option Val
  | .int i, .int j => if 0 < j ∧ j < 1073741824 then some (.int (i / j)) else none
  | _, _ => none
def fPow (_ : Sto) : Val → Val → Option Val
  | .int i, .int j => if 0 ≤ j ∧ j ≤ 1000 ∧ i.natAbs < 1000 then some (.int (i ^ j.toNat)) else none
  | _, _ => none
def fNeg (_ : Sto) : Val → Option Val
  | .int i => some (.int (-i))
  | _ => none
theorem lstOf_at {g : Gx} {r : List Addr} {H : Hp} {S : Sto} {a : Val} {x : V} {xs : List Val} (sr : SR g r H S) (h : RV g r H a x) (e : lstOf S a = some xs) : ∃ p vs, x = .ref p ∧ H p = some (.lst vs) ∧ xs.length ≤ sizeLine ∧ RVs g r H xs vs := by
  cases h with
  | lst h1 h2 _ h3 h4 => cases e; exact ⟨_, _, rfl, h1, h3, h4⟩
  | ref q =>
    simp only [lstOf] at e
    split at e
    · rename_i ys hy
      cases e
      obtain ⟨u, hu, ro⟩ := sr.at_ _ _ _ hy q
      cases ro with
      | lst hl hs => exact ⟨_, _, rfl, hu, hl, hs⟩
    · cases e
  | _ => cases e
section
variable {X : Cx} {g : Gx} {pos : Pos}
theorem int_int {f : Value → Value → Sem Value} {C : Int → Int → Prop} {h : Int → Int → Int} {F : Sto → Val → Val → Option Val} (ho : OpR X f (rI C fun i j => .int (h i j)))
    (hF : ∀ S a b v, F S a b = some v → ∃ i j, a = .int i ∧ b = .int j ∧ C i j ∧ v = .int (h i j)) : OpR X f (rG2 g F) := by
  intro pins s st H x y v u Q I rx ry hh
  obtain ⟨z, r, S, a, b, w, sr, ra, rb, e, q⟩ := hh
  obtain ⟨i, j, rfl, rfl, c, rfl⟩ := hF _ _ _ _ e
  cases ra
  cases rb
  exact ho pins s st H _ _ v u Q I rx ry ⟨i, j, rfl, rfl, c, q r H _ (.refl r H) sr (.int _)⟩
theorem o_sub : OpR X (binaryOp .Sub) (rG2 g fSub) := by
  intro pins s st H x y v u Q I rx ry hh
  obtain ⟨z, r, S, a, b, w, sr, ra, rb, e, q⟩ := hh
  unfold fSub at e
  split at e
  · cases e
    cases ra
    cases rb
    exact op_sub pins s st H _ _ v u Q I rx ry ⟨_, _, rfl, rfl, q r H _ (.refl r H) sr (.int _)⟩
  · cases e
theorem o_mul : OpR X (binaryOp .Mult) (rG2 g fMul) := int_int op_mul fun S a b v e => by
  unfold fMul at e
  split at e
  · rename_i i j
    split at e
    · rename_i c
      cases e
      refine ⟨i, j, rfl, rfl, ?_, rfl⟩
      simp only [mulOk, Bool.or_eq_true, Bool.and_eq_true, decide_eq_true_eq] at c
      exact c
    · cases e
  · cases e
theorem o_mod : OpR X (binaryOp .Mod) (rG2 g fMod) := int_int op_mod fun S a b v e => by
  unfold fMod at e
  split at e
  · rename_i i j
    split at e
    · rename_i c
      cases e
      exact ⟨i, j, rfl, rfl, c, rfl⟩
    · cases e
  · cases e
theorem o_div : OpR X (binaryOp .FloorDiv) (rG2 g fDiv) := int_int op_fdiv fun S a b v e => by
  unfold fDiv at e
  split at e
  · rename_i i j
    split at e
    · rename_i c
      cases e
      exact ⟨i, j, rfl, rfl, c, rfl⟩
    · cases e
  · cases e
theorem o_pow : OpR X (binaryOp .Pow) (rG2 g fPow) := int_int op_pow fun S a b v e => by
  unfold fPow at e
  split at e
  · rename_i i j
    split at e
    · rename_i c
      cases e
      exact ⟨i, j, rfl, rfl, ⟨c.1, by omega, by omega⟩, rfl⟩
    · cases e
  · cases e
theorem o_neg : UnR X (unaryOp .USub) (rG1 g fNeg) := by
  intro pins s st H x v Q I rx hh
  obtain ⟨z, r, S, a, w, sr, ra, e, q⟩ := hh
  unfold fNeg at e
  split at e
  · cases e
    cases ra
    exact un_neg pins s st H _ v Q I rx ⟨_, rfl, q r H _ (.refl r H) sr (.int _)⟩
  · cases e
theorem o_add (hK : g.K = X.K) : OpR X (binaryOp .Add) (rG2 g fAdd) := by
  intro pins s st H x y v u Q I rx ry hh
  obtain ⟨z, r, S, a, b, w, sr, ra, rb, e, q⟩ := hh
  unfold fAdd at e
  split at e
  · cases e
    cases ra
    cases rb
    exact op_add pins s st H _ _ v u Q I rx ry ⟨_, _, rfl, rfl, q r H _ (.refl r H) sr (.int _)⟩
  · split at e
    · rename_i c
      cases e
      cases ra
      cases rb
      exact op_add_str pins s st H _ _ v u Q I rx ry ⟨_, _, rfl, rfl, c, q r H _ (.refl r H) sr (.str _)⟩
    · cases e
  · split at e
    · rename_i xs ys c
      cases e
      cases ra with
      | @tup a1 _ vs1 h1 l1 s1 =>
        cases rb with
        | @tup a2 _ vs2 h2 l2 s2 =>
          have h1' := h1; have h2' := h2
          rw [hK] at h1 h2
          refine op_catA pins s st H _ _ v u Q I rx ry ⟨a1, a2, vs1, vs2, rfl, rfl, h1, h2, by rw [← s1.length, ← s2.length]; exact c, fun z => ?_, fun _ z => ?_, fun _ _ p hp => ?_⟩
          · subst z
            cases s1
            exact q r H _ (.refl r H) sr (.tup h2' l2 s2)
          · subst z
            cases s2
            rw [List.append_nil] at q
            exact q r H _ (.refl r H) sr (.tup h1' l1 s1)
          · exact q r _ (.ref p) (Step.new1 hp) (sr.beside hp) (RV.newT sr hp (by simpa using c) (s1.append s2))
    · cases e
  · simp only [Option.bind_eq_some_iff] at e
    obtain ⟨xs, e1, ys, e2, e3⟩ := e
    split at e3
    · rename_i c
      cases e3
      obtain ⟨p, vs, rfl, hp, _, hs⟩ := lstOf_at sr ra e1
      obtain ⟨p', vs', rfl, hp', _, hs'⟩ := lstOf_at sr rb e2
      refine op_cat pins s st H _ _ v u Q I rx ry ⟨p, p', vs, vs', rfl, rfl, hp, hp', by rw [← hs.length, ← hs'.length]; exact c, fun l hl => ?_⟩
      exact q r _ (.ref l) (Step.new1 hl) (sr.beside hl) (RV.newL sr hl (by simpa using c) (hs.append hs'))
    · cases e3
end
end Mp
namespace Mp
open PySem PySem.Spec
      PyProof.Rows L2

/-! ### truth, tests -/
theorem truth_at {X : Cx} {g : Gx} {r : List Addr} {H : Hp} {S : Sto} {a : Val} {x : V} {k : Bool} (hK : g.K = X.K) (sr : SR g r H S) (h : RV g r H a x) (e : truth S a = some k) : TruV X.K x H k := by
  cases h with
  | non => cases e; exact rfl
  | bl b => cases e; exact rfl
  | int i => cases e; exact rfl
  | str y =>
    simp only [truth] at e
    split at e
    · rename_i c
      cases e
      refine ⟨c, ?_⟩
      rw [Bool.eq_iff_iff]
      simp
    · cases e
  | ty n => cases e
  | fn h => cases e
  | scr => cases e
  | ptp h1 h2 h3 h4 =>
    cases e
    refine .inr (.inl ⟨_, .inl (.inr ⟨_, h1⟩), ?_⟩)
    cases h4 <;> rfl
  | tup h1 h2 h3 =>
    cases e
    rw [hK] at h1
    refine .inr (.inl ⟨_, h1, ?_⟩)
    cases h3 <;> rfl
  | lst h1 h2 _ h3 h4 =>
    cases e
    refine .inl ⟨_, .inl (.inl h1), ?_⟩
    cases h4 <;> rfl
  | ref q =>
    simp only [truth] at e
    split at e
    · rename_i xs hx
      cases e
      obtain ⟨u, hu, ro⟩ := sr.at_ _ _ _ hx q
      cases ro with
      | lst hl hs =>
        refine .inl ⟨_, .inl (.inl hu), ?_⟩
        cases hs <;> rfl
    · rename_i kvs hx
      cases e
      obtain ⟨u, hu, ro⟩ := sr.at_ _ _ _ hx q
      cases ro with
      | @dK _ kws h1 hl hs =>
        refine .inr (.inr ⟨_, hu, ?_⟩)
        cases kvs with
        | nil =>
          cases kws with
          | nil => rfl
          | cons => cases h1
        | cons =>
          cases kws with
          | nil => cases h1
          | cons => rfl
    · cases e
section
variable {X : Cx} {g : Gx} {pos : Pos}
theorem d_tru {a : Expr} {m : ME} (hK : g.K = X.K) (ha : PE X a (tD g m)) (he : ∀ whole, isTrue a X.env whole = (do let v ← whole; standAt a.pos; holding [v] (truthy v)) := by intro _; rfl) : PT X a (tDt g (tTru m)) := by
  refine PT.weak (pt_truth ha he) fun st H Q h => ?_
  obtain ⟨z, r, S, sl, b, S', R, e, q⟩ := h
  simp only [tTru, Option.bind_eq_some_iff] at e
  obtain ⟨⟨a, S1⟩, e1, k, e2, e3⟩ := e
  cases e3
  exact ⟨z, r, S, sl, a, S1, R, e1, fun r1 H1 x st1 sr1 rx => ⟨_, truth_at (g := g.at z) hK sr1 rx e2, q r1 H1 st1 sr1⟩⟩
theorem d_and {a b : Expr} {rest : List Expr} {ta tb : MT} (ha : PT X a (tDt g ta)) (hb : PW X (.BoolOp .And (b :: rest) pos) (tDt g tb)) : PW X (.BoolOp .And (a :: b :: rest) pos) (tDt g (tAndD ta tb)) := by
  refine PW.weak (pw_and ha hb) fun st H Q h => ?_
  obtain ⟨z, r, S, sl, v, S', R, e, q⟩ := h
  simp only [tAndD, Option.bind_eq_some_iff] at e
  obtain ⟨⟨k, S1⟩, e1, e3⟩ := e
  refine ⟨z, r, S, sl, k, S1, R, e1, fun r1 H1 st1 sr1 => ?_⟩
  cases k with
  | true =>
    rw [if_pos rfl] at e3 ⊢
    exact ⟨z, r1, S1, sl, v, S', R.step st1 sr1, e3, fun r2 H2 st2 sr2 => q r2 H2 (st1.trans st2) sr2⟩
  | false =>
    rw [if_neg Bool.false_ne_true] at e3 ⊢
    cases e3
    exact q r1 H1 st1 sr1
theorem d_and1 {a : Expr} {ta : MT} (ha : PT X a (tDt g ta)) : PW X (.BoolOp .And [a] pos) (tDt g ta) := pw_and1 ha
theorem d_or {a b : Expr} {rest : List Expr} {ta tb : MT} (ha : PT X a (tDt g ta)) (hb : PW X (.BoolOp .Or (b :: rest) pos) (tDt g tb)) : PW X (.BoolOp .Or (a :: b :: rest) pos) (tDt g (tOrD ta tb)) := by
  refine PW.weak (pw_or ha hb) fun st H Q h => ?_
  obtain ⟨z, r, S, sl, v, S', R, e, q⟩ := h
  simp only [tOrD, Option.bind_eq_some_iff] at e
  obtain ⟨⟨k, S1⟩, e1, e3⟩ := e
  refine ⟨z, r, S, sl, k, S1, R, e1, fun r1 H1 st1 sr1 => ?_⟩
  cases k with
  | false =>
    rw [if_neg Bool.false_ne_true] at e3 ⊢
    exact ⟨z, r1, S1, sl, v, S', R.step st1 sr1, e3, fun r2 H2 st2 sr2 => q r2 H2 (st1.trans st2) sr2⟩
  | true =>
    rw [if_pos rfl] at e3 ⊢
    cases e3
    exact q r1 H1 st1 sr1
theorem d_or1 {a : Expr} {ta : MT} (ha : PT X a (tDt g ta)) : PW X (.BoolOp .Or [a] pos) (tDt g ta) := pw_or1 ha
theorem d_not {a : Expr} {ta : MT} (ha : PT X a (tDt g ta)) : PT X (.UnaryOp .Not a pos) (tDt g (tNotD ta)) := by
  refine PT.weak (pt_not ha) fun st H Q h => ?_
  obtain ⟨z, r, S, sl, v, S', R, e, q⟩ := h
  simp only [tNotD, Option.bind_eq_some_iff] at e
  obtain ⟨⟨k, S1⟩, e1, e3⟩ := e
  cases e3
  exact ⟨z, r, S, sl, k, S1, R, e1, fun r1 H1 st1 sr1 => q r1 H1 st1 sr1⟩
/-- a comparison's test -/
theorem d_tcmp {op : CmpOp} {f : Sto → Val → Val → Option Val} {a b : Expr} {ma mb : ME} (hK : g.K = X.K) (ho : OpR X (compareOp op) (rG2 g f)) (ha : PE X a (tD g ma)) (hb : PE X b (tD g mb)) (hm : behindInMarks op b = false)
    (hf : ∀ S x y v, f S x y = some v → ∃ k, v = .bl k) : PT X (.Compare a [op] [b] pos) (tDt g (tTru (eOp2 f ma mb))) := by
  refine PT.weak (pt_cmpR ho ha hb hm) fun st H Q h => ?_
  obtain ⟨z, r, S, sl, b, S', R, e, q⟩ := h
  simp only [tTru, eOp2, Option.bind_eq_some_iff] at e
  obtain ⟨⟨a, S1⟩, ⟨⟨x1, T1⟩, e1, ⟨x2, T2⟩, e2, w, e3, e4⟩, k, e5, e6⟩ := e
  cases e4
  cases e6
  obtain ⟨k', rfl⟩ := hf _ _ _ _ e3
  cases e5
  refine ⟨z, r, S, sl, x1, T1, R, e1, fun r1 H1 x st1 sr1 rx => ⟨z, r1, T1, sl, x2, _, R.step st1 sr1, e2, fun r2 H2 y st2 sr2 ry => ?_⟩⟩
  refine ⟨z, r2, _, x1, x2, _, sr2, rx.mono st2 sr1.own, ry, e3, fun r3 H3 hv st3 sr3 rv => ?_⟩
  cases rv
  exact ⟨_, rfl, q r3 H3 ((st1.trans st2).trans st3) sr3⟩
theorem fEq_bl {neg : Bool} : ∀ S x y v, fEq neg S x y = some v → ∃ k, v = .bl k := fun S x y v e => by
  simp only [fEq, Option.bind_eq_some_iff] at e
  obtain ⟨d, e1, d', e2, e3⟩ := e
  split at e3
  · cases e3; exact ⟨_, rfl⟩
  · cases e3
theorem fOrd_bl {op : CmpOp} : ∀ S x y v, fOrd op S x y = some v → ∃ k, v = .bl k := fun S x y v e => by
  simp only [fOrd, Option.bind_eq_some_iff] at e
  obtain ⟨d, e1, d', e2, e3⟩ := e
  split at e3
  · simp only [Option.map_eq_some_iff] at e3
    obtain ⟨k, _, rfl⟩ := e3
    exact ⟨k, rfl⟩
  · cases e3
theorem fIn_bl {neg : Bool} : ∀ S x y v, fIn neg S x y = some v → ∃ k, v = .bl k := fun S x y v e => by
  unfold fIn at e
  split at e
  · cases e; exact ⟨_, rfl⟩
  · simp only [Option.bind_eq_some_iff] at e
    obtain ⟨d, e1, d', e2, ds, e3, e4⟩ := e
    split at e4
    · cases e4; exact ⟨_, rfl⟩
    · cases e4
/-- and, or, not as values -/
theorem d_one {op : BoolOp} {a : Expr} {m : ME} (h : PE X a (tD g m)) : PE X (.BoolOp op [a] pos) (tD g m) := pe_one h
end
end Mp
namespace Mp
open PySem PySem.Spec
      PyProof.Rows L2

inductive Fl where
  | nxt | ret (v : Val) | brk | cnt
abbrev MS := Sl → Sto → Option (Fl × Sl × Sto)
/-- how a statement's end is read -/
def FlD (g : Gx) (D : Ends) (r : List Addr) (H : Hp) (f : Fl) (sl : Sl) (S : Sto) : Prop := ∀ r' H' st', Step r H r' H' → Rep g r' H' S sl st' → match f with
  | .nxt => D.nx st' H'
  | .brk => D.bk st' H'
  | .cnt => D.ct st' H'
  | .ret v => ∀ hv, RV g r' H' v hv → D.rt hv H'
def tDS (g : Gx) (m : MS) : TS := fun D st H => ∃ z r S sl f sl' S', Rep (g.at z) r H S sl st ∧ m sl S = some (f, sl', S') ∧ FlD (g.at z) D r H f sl' S'

def sSkip : MS := fun sl S => some (.nxt, sl, S)
def sSeq (a b : MS) : MS := fun sl S => (a sl S).bind fun p => match p.1 with
  | .nxt => b p.2.1 p.2.2
  | _ => some p
def sSet (i : Nat) (m : ME) : MS := fun sl S => (m sl S).bind fun p => some (.nxt, sl.set i (some p.1), p.2)
def sExp (m : ME) : MS := fun sl S => (m sl S).bind fun p => some (.nxt, sl, p.2)
def sRet (m : ME) : MS := fun sl S => (m sl S).bind fun p => some (.ret p.1, sl, p.2)
def sRetN : MS := fun sl S => some (.ret .non, sl, S)
def sIf (c : MT) (a b : MS) : MS := fun sl S => (c sl S).bind fun p => if p.1 then a sl p.2 else b sl p.2
def sBrk : MS := fun sl S => some (.brk, sl, S)
def sCnt : MS := fun sl S => some (.cnt, sl, S)
def sStuck : MS := fun _ _ => none
/-- a target: a name, or names for a tuple's items -/
abbrev MG := Sl → Sto → Val → Option Sl
def gNm (i : Nat) : MG := fun sl _ v => some (sl.set i (some v))
def setAll : List Nat → List Val → Sl → Sl
  | i :: is, v :: vs, sl => setAll is vs (sl.set i (some v))
  | _, _, sl => sl
def gTp (is : List Nat) : MG := fun sl _ v => match v with
  | .tup xs => if xs.length = is.length then some (setAll is xs sl) else none
  | _ => none
def tDG (g : Gx) (m : MG) : TG := fun v st H Q => ∃ z r S sl x sl', Rep (g.at z) r H S sl st ∧ RV (g.at z) r H x v ∧ m sl S x = some sl' ∧ ∀ st', Rep (g.at z) r H S sl' st' → Q st' H
def sAsg (tg : MG) (m : ME) : MS := fun sl S => (m sl S).bind fun p => (tg sl p.2 p.1).bind fun sl' => some (.nxt, sl', p.2)
/-- a, b = x, y -/
def sPar (i j : Nat) (a b : ME) : MS := fun sl S => (a sl S).bind fun p => (b sl p.2).bind fun q => some (.nxt, (sl.set i (some p.1)).set j (some q.1), q.2)

section
variable {X : Cx} {g : Gx} {pos : Pos}
theorem FlD.weak {D : Ends} {r r1 : List Addr} {H H1 : Hp} {f : Fl} {sl : Sl} {S : Sto} (st : Step r H r1 H1) (q : FlD g D r H f sl S) : FlD g D r1 H1 f sl S := fun r' H' st' s R => q r' H' st' (st.trans s) R
theorem ds_nil : PSs X [] (tDS g sSkip) := by
  refine PSs.weak pss_nil fun D st H h => ?_
  obtain ⟨z, r, S, sl, f, sl', S', R, e, q⟩ := h
  cases e
  exact q r H st (.refl r H) R
theorem ds_cons {s : Stmt} {ss : List Stmt} {a b : MS} (h1 : PS X s (tDS g a)) (h2 : PSs X ss (tDS g b)) : PSs X (s :: ss) (tDS g (sSeq a b)) := by
  refine PSs.weak (pss_cons h1 h2) fun D st H h => ?_
  obtain ⟨z, r, S, sl, f, sl', S', R, e, q⟩ := h
  simp only [sSeq, Option.bind_eq_some_iff] at e
  obtain ⟨⟨f1, sl1, S1⟩, e1, e2⟩ := e
  refine ⟨z, r, S, sl, f1, sl1, S1, R, e1, fun r1 H1 st1 s1 R1 => ?_⟩
  cases f1 with
  | nxt => exact ⟨z, r1, S1, sl1, f, sl', S', R1, e2, q.weak s1⟩
  | ret v => cases e2; exact q r1 H1 st1 s1 R1
  | brk => cases e2; exact q r1 H1 st1 s1 R1
  | cnt => cases e2; exact q r1 H1 st1 s1 R1
theorem ds_one {s : Stmt} {a : MS} (h1 : PS X s (tDS g a)) : PSs X [s] (tDS g a) := pss_one h1
theorem ds_pass : PS X (.Pass pos) (tDS g sSkip) := by
  refine PS.weak ps_pass fun D st H h => ?_
  obtain ⟨z, r, S, sl, f, sl', S', R, e, q⟩ := h
  cases e
  exact q r H st (.refl r H) R
theorem ds_brk : PS X (.Break pos) (tDS g sBrk) := by
  refine PS.weak ps_break fun D st H h => ?_
  obtain ⟨z, r, S, sl, f, sl', S', R, e, q⟩ := h
  cases e
  exact q r H st (.refl r H) R
theorem ds_cnt : PS X (.Continue pos) (tDS g sCnt) := by
  refine PS.weak ps_continue fun D st H h => ?_
  obtain ⟨z, r, S, sl, f, sl', S', R, e, q⟩ := h
  cases e
  exact q r H st (.refl r H) R
theorem ds_stuck {s : Stmt} : PS X s (tDS g sStuck) := by
  refine PS.weak ps_never fun D st H h => ?_
  obtain ⟨z, r, S, sl, f, sl', S', R, e, q⟩ := h
  cases e
theorem ds_exp {e : Expr} {m : ME} (he : PE X e (tD g m)) (hs : swapsWith e none pos.line X.env = pure false := by rfl) : PS X (.Expr e pos) (tDS g (sExp m)) := by
  refine PS.weak (ps_expr he hs) fun D st H h => ?_
  obtain ⟨z, r, S, sl, f, sl', S', R, e, q⟩ := h
  simp only [sExp, Option.bind_eq_some_iff] at e
  obtain ⟨⟨a, S1⟩, e1, e2⟩ := e
  cases e2
  exact ⟨z, r, S, sl, a, S1, R, e1, fun r1 H1 x st1 sr1 rx => q r1 H1 st st1 (R.step st1 sr1)⟩
theorem ds_ret {e : Expr} {m : ME} (he : PE X e (tD g m)) : PS X (.Return (some e) pos) (tDS g (sRet m)) := by
  refine PS.weak (ps_ret he) fun D st H h => ?_
  obtain ⟨z, r, S, sl, f, sl', S', R, e, q⟩ := h
  simp only [sRet, Option.bind_eq_some_iff] at e
  obtain ⟨⟨a, S1⟩, e1, e2⟩ := e
  cases e2
  exact ⟨z, r, S, sl, a, S1, R, e1, fun r1 H1 x st1 sr1 rx => q r1 H1 st st1 (R.step st1 sr1) x rx⟩
theorem ds_retN : PS X (.Return none pos) (tDS g sRetN) := by
  refine PS.weak ps_retN fun D st H h => ?_
  obtain ⟨z, r, S, sl, f, sl', S', R, e, q⟩ := h
  cases e
  exact q r H st (.refl r H) R _ .non
theorem ds_if {c : Expr} {a b : List Stmt} {t : MT} {ma mb : MS} (hc : PT X c (tDt g t)) (ha : PSs X a (tDS g ma)) (hb : PSs X b (tDS g mb)) : PS X (.If c a b pos) (tDS g (sIf t ma mb)) := by
  refine PS.weak (ps_if hc ha hb) fun D st H h => ?_
  obtain ⟨z, r, S, sl, f, sl', S', R, e, q⟩ := h
  simp only [sIf, Option.bind_eq_some_iff] at e
  obtain ⟨⟨k, S1⟩, e1, e2⟩ := e
  refine ⟨z, r, S, sl, k, S1, R, e1, fun r1 H1 st1 sr1 => ?_⟩
  cases k with
  | true =>
    rw [if_pos rfl] at e2 ⊢
    exact ⟨z, r1, S1, sl, f, sl', S', R.step st1 sr1, e2, q.weak st1⟩
  | false =>
    rw [if_neg Bool.false_ne_true] at e2 ⊢
    exact ⟨z, r1, S1, sl, f, sl', S', R.step st1 sr1, e2, q.weak st1⟩
theorem d_ifE {c a b : Expr} {t : MT} {ma mb : ME} (hc : PT X c (tDt g t)) (ha : PE X a (tD g ma)) (hb : PE X b (tD g mb)) : PE X (.IfExp c a b pos) (tD g (eIfE t ma mb)) := by
  refine PE.weak (pe_ifExp hc ha hb) fun st H Q h => ?_
  obtain ⟨z, r, S, sl, v, S', R, e, q⟩ := h
  simp only [eIfE, Option.bind_eq_some_iff] at e
  obtain ⟨⟨k, S1⟩, e1, e2⟩ := e
  refine ⟨z, r, S, sl, k, S1, R, e1, fun r1 H1 st1 sr1 => ?_⟩
  cases k with
  | true =>
    rw [if_pos rfl] at e2 ⊢
    exact ⟨z, r1, S1, sl, v, S', R.step st1 sr1, e2, fun r2 H2 hv st2 sr2 => q r2 H2 hv (st1.trans st2) sr2⟩
  | false =>
    rw [if_neg Bool.false_ne_true] at e2 ⊢
    exact ⟨z, r1, S1, sl, v, S', R.step st1 sr1, e2, fun r2 H2 hv st2 sr2 => q r2 H2 hv (st1.trans st2) sr2⟩
/-! ### targets -/
theorem dg_nm {i : Nat} {x : Str} (hN : X.N.Nodup) (hi : X.N[i]? = some x) (hx : Loc X.env.scope x) (hf : X.fn x = true ∨ X.env.scope.names.lookup x = some .local := by first | exact .inl rfl | exact .inr rfl | assumption) : PG X (.Name x pos) (tDG g (gNm i)) := by
  refine ⟨fun pins s st H v u Q I rv h => ?_⟩
  obtain ⟨z, r, S, sl, x', sl', R, rx, e, q⟩ := h
  cases e
  exact (pg_name hN hi hx hf).run pins s st H v u Q I rv (q _ ⟨R.sr, R.sl.set rx i⟩)
/-- the names of a tuple target -/
def gsNames : List Nat → TGs
  | [] => gNil
  | i :: is => gCons (gName i) (gsNames is)
theorem dgs_nil : PGs X [] (gsNames []) := pgs_nil
theorem dgs_cons {i : Nat} {is : List Nat} {x : Str} {p : Pos} {es : List Expr} (hN : X.N.Nodup) (hi : X.N[i]? = some x) (hx : Loc X.env.scope x) (h : PGs X es (gsNames is)) (hf : X.fn x = true ∨ X.env.scope.names.lookup x = some .local := by first | exact .inl rfl | exact .inr rfl | assumption)
    (hs : (assignEach (.Name x p :: es) X.env).map (·.2) = assign (.Name x p) X.env :: (assignEach es X.env).map (·.2) := by rfl) : PGs X (.Name x p :: es) (gsNames (i :: is)) := pgs_cons (pg_name hN hi hx hf) h hs
theorem gsNames_read {r : List Addr} {H : Hp} {S : Sto} {Q : L2.St → Hp → Prop} : ∀ (is : List Nat) (xs : List Val) (vs : List V) (sl : Sl) (st : L2.St), xs.length = is.length → RVs g r H xs vs → Rep g r H S sl st → (∀ st', Rep g r H S (setAll is xs sl) st' → Q st' H) → gsNames is vs st H Q
  | [], [], _, sl, st, _, .nil, R, q => ⟨rfl, q st R⟩
  | i :: is, x :: xs, _, sl, st, hl, .cons h hs, R, q => ⟨_, _, rfl, gsNames_read is xs _ (sl.set i (some x)) _ (by simpa using hl) hs ⟨R.sr, R.sl.set h i⟩ q⟩
theorem dg_tp {es : List Expr} {is : List Nat} {k : Nat} (hK : g.K = X.K) (hc : X.calm = true) (h : PGs X es (gsNames is)) (hn : (assignEach es X.env).length = is.length := by rfl) (hst : (assignEach es X.env).findIdx? (·.1) = none := by rfl) : PG X (.Tuple es k pos) (tDG g (gTp is)) := by
  refine ⟨fun pins s st H v u Q I rv hh => ?_⟩
  obtain ⟨z, r, S, sl, x', sl', R, rx, e, q⟩ := hh
  refine (pg_tup hc h hn hst).run pins s st H v u Q I rv ?_
  unfold gTp at e
  split at e
  · rename_i xs
    split at e
    · rename_i hl
      cases e
      cases rx with
      | tup h1 h2 h3 =>
        rw [hK] at h1
        exact ⟨_, _, rfl, h1, by rw [← h3.length]; exact hl, gsNames_read is xs _ sl st hl h3 R q⟩
    · cases e
  · cases e
theorem ds_asg {t e : Expr} {m : ME} {tg : MG} (he : PE X e (tD g m)) (hg : PG X t (tDG g tg)) (hs : swapsWithSole [t] e pos.line X.env = pure false := by rfl) (hw : swappedStores [t] e X.env = pure none := by rfl)
    (h1 : (assignEach [t] X.env).map (·.2) = [assign t X.env] := by rfl) : PS X (.Assign [t] e pos) (tDS g (sAsg tg m)) := by
  refine PS.weak (ps_asg he hg hs hw h1) fun D st H h => ?_
  obtain ⟨z, r, S, sl, f, sl', S', R, e, q⟩ := h
  simp only [sAsg, Option.bind_eq_some_iff] at e
  obtain ⟨⟨a, S1⟩, e1, sl1, e2, e3⟩ := e
  cases e3
  exact ⟨z, r, S, sl, a, S1, R, e1, fun r1 H1 x st1 sr1 rx => ⟨z, r1, _, sl, a, _, R.step st1 sr1, rx, e2, fun st' R' => q r1 H1 st' st1 R'⟩⟩
theorem ds_set {i : Nat} {x : Str} {e : Expr} {m : ME} {pos' : Pos} (hN : X.N.Nodup) (hi : X.N[i]? = some x) (hx : Loc X.env.scope x) (he : PE X e (tD g m)) (hs : swapsWith e (some (.Name x pos')) pos.line X.env = pure false := by rfl) (hf : X.fn x = true ∨ X.env.scope.names.lookup x = some .local := by first | exact .inl rfl | exact .inr rfl | assumption) :
    PS X (.Assign [.Name x pos'] e pos) (tDS g (sSet i m)) := by
  refine PS.weak (ps_set hN hi hx he hs hf) fun D st H h => ?_
  obtain ⟨z, r, S, sl, f, sl', S', R, e, q⟩ := h
  simp only [sSet, Option.bind_eq_some_iff] at e
  obtain ⟨⟨a, S1⟩, e1, e3⟩ := e
  cases e3
  exact ⟨z, r, S, sl, a, S1, R, e1, fun r1 H1 x st1 sr1 rx => q r1 H1 _ st1 ⟨sr1, (R.sl.mono st1 R.sr.own).set rx i⟩⟩
theorem ds_par {i j : Nat} {x y : Str} {a b : Expr} {ma mb : ME} {px py pt : Pos} {kt k2 : Nat} {pt2 : Pos} (hc : X.calm = true) (hN : X.N.Nodup) (hi : X.N[i]? = some x) (hj : X.N[j]? = some y) (hij : i ≠ j)
    (hx : X.env.scope.names.lookup x = some .local) (hy : X.env.scope.names.lookup y = some .local) (ha : PE X a (tD g ma)) (hb : PE X b (tD g mb))
    (hw : swappedStores [.Tuple [.Name x px, .Name y py] kt pt]
          (.Tuple [a, b] k2 pt2) X.env = pure (some [x, y]))
    (hs : swapsWithSole [.Tuple [.Name x px, .Name y py] kt pt] (.Tuple [a, b] k2 pt2) pos.line X.env = pure false := by rfl) (hst : starEach [a, b] X.env = (false, eval a X.env) :: starEach [b] X.env := by rfl) (hst2 : starEach [b] X.env = (false, eval b X.env) :: starEach [] X.env := by rfl) :
    PS X (.Assign [.Tuple [.Name x px, .Name y py] kt pt] (.Tuple [a, b] k2 pt2) pos) (tDS g (sPar i j ma mb)) := by
  refine PS.weak (ps_par (i := i) (j := j) hc hN hi hj hij hx hy (pa_cons ha (pa_cons hb pa_nil hst2) hst) hw hs) fun D st H h => ?_
  obtain ⟨z, r, S, sl, f, sl', S', R, e, q⟩ := h
  simp only [sPar, Option.bind_eq_some_iff] at e
  obtain ⟨⟨a, S1⟩, e1, ⟨b, S2⟩, e2, e3⟩ := e
  cases e3
  refine ⟨z, r, S, sl, a, S1, R, e1, fun r1 H1 x st1 sr1 rx => ⟨z, r1, S1, sl, b, S2, R.step st1 sr1, e2, fun r2 H2 y st2 sr2 ry => ?_⟩⟩
  exact ⟨x, y, rfl, q r2 H2 _ (st1.trans st2) ⟨sr2, (((R.sl.mono st1 R.sr.own).mono st2 sr1.own).set (rx.mono st2 sr1.own) i).set ry j⟩⟩
end
end Mp
namespace Mp
open PySem PySem.Spec
      PyProof.Rows L2

mutual
def Val.same : Val → Val → Bool
  | .non, .non => true
  | .bl a, .bl b => a == b
  | .int a, .int b => a == b
  | .str a, .str b => decide (a = b)
  | .ty a, .ty b => a == b
  | .fn a, .fn b => decide (a = b)
  | .tup a, .tup b => Val.sames a b
  | .ptp a, .ptp b => Val.sames a b
  | .lst a, .lst b => Val.sames a b
  | .scr a, .scr b => Val.sames a b
  | .ref a, .ref b => a == b
  | _, _ => false
def Val.sames : List Val → List Val → Bool
  | [], [] => true
  | a :: as, b :: bs => Val.same a b && Val.sames as bs
  | _, _ => false
end
mutual
theorem Val.same_eq : ∀ (a b : Val), Val.same a b = true → a = b
  | .non, b, h => by cases b <;> simp_all [Val.same]
  | .bl a, b, h => by cases b <;> simp_all [Val.same]
  | .int a, b, h => by cases b <;> simp_all [Val.same]
  | .str a, b, h => by cases b <;> simp_all [Val.same]
  | .ty a, b, h => by cases b <;> simp_all [Val.same]
  | .fn a, b, h => by cases b <;> simp_all [Val.same]
  | .ref a, b, h => by cases b <;> simp_all [Val.same]
  | .tup a, b, h => by
    cases b with
    | tup b => rw [Val.sames_eq a b (by simpa [Val.same] using h)]
    | _ => simp [Val.same] at h
  | .ptp a, b, h => by
    cases b with
    | ptp b => rw [Val.sames_eq a b (by simpa [Val.same] using h)]
    | _ => simp [Val.same] at h
  | .lst a, b, h => by
    cases b with
    | lst b => rw [Val.sames_eq a b (by simpa [Val.same] using h)]
    | _ => simp [Val.same] at h
  | .scr a, b, h => by
    cases b with
    | scr b => rw [Val.sames_eq a b (by simpa [Val.same] using h)]
    | _ => simp [Val.same] at h
theorem Val.sames_eq : ∀ (a b : List Val), Val.sames a b = true → a = b
  | [], b, h => by cases b <;> simp_all [Val.sames]
  | a :: as, [], h => by simp [Val.sames] at h
  | a :: as, b :: bs, h => by
    simp only [Val.sames, Bool.and_eq_true] at h
    rw [Val.same_eq a b h.1, Val.sames_eq as bs h.2]
end
mutual
theorem Val.same_self : ∀ (a : Val), Val.same a a = true
  | .non => by simp [Val.same]
  | .bl a => by simp [Val.same]
  | .int a => by simp [Val.same]
  | .str a => by simp [Val.same]
  | .ty a => by simp [Val.same]
  | .fn a => by simp [Val.same]
  | .ref a => by simp [Val.same]
  | .tup a => by rw [Val.same]; exact Val.sames_self a
  | .ptp a => by rw [Val.same]; exact Val.sames_self a
  | .lst a => by rw [Val.same]; exact Val.sames_self a
  | .scr a => by rw [Val.same]; exact Val.sames_self a
theorem Val.sames_self : ∀ (a : List Val), Val.sames a a = true
  | [] => by simp [Val.sames]
  | a :: as => by rw [Val.sames, Val.same_self a, Val.sames_self as]; rfl
end

/-! ### what is walked -/
/-- the items; the place in the store of a list that is walked as it stands there -/
structure Src where
  l : List Val
  n : Option Nat := none
def Src.ok (s : Src) (S : Sto) : Bool := match s.n with
  | none => true
  | some n => match S[n]? with
    | some (.lst xs) => Val.sames xs s.l
    | _ => false
abbrev MI := Sl → Sto → Option (Src × Sto)
/-- the heap has grown by what nobody had -/
def More (H H' : Hp) : Prop := ∀ b o, H b = some o → H' b = some o
theorem More.step {r : List Addr} {H H' : Hp} (m : More H H') : Step r H r H' := ⟨fun b o h _ => m b o h, ⟨[], by simp⟩, fun _ h => .inl h, fun b o u h => m b _ h⟩
theorem SR.more {g : Gx} {r : List Addr} {H H' : Hp} {S : Sto} (sr : SR g r H S) (m : More H H') : SR g r H' S := by
  refine ⟨sr.len, sr.nd, fun p hp => ?_, sr.zr, fun i so a h1 h2 => ?_⟩
  · obtain ⟨xs, e⟩ := sr.zat p hp
    exact ⟨xs, m _ _ e⟩
  · obtain ⟨u, hu, ro⟩ := sr.at_ i so a h1 h2
    exact ⟨u, m _ _ hu, ro.mono m.step sr.own⟩
theorem Rep.more {g : Gx} {r : List Addr} {H H' : Hp} {S : Sto} {sl : Sl} {st : L2.St} (R : Rep g r H S sl st) (m : More H H') : Rep g r H' S sl st := R.step m.step (R.sr.more m)
/-- a later heap, the lists that are just being made aside -/
structure StepZ (z r : List Addr) (H : Hp) (r' : List Addr) (H' : Hp) : Prop where
  ext : ∀ b o, H b = some o → b ∉ r → b ∉ z → H' b = some o
  pre : ∃ t, r' = r ++ t
  new : ∀ b, b ∈ r' → b ∈ r ∨ H b = none
  frz : ∀ b o u, H b = some (.frz o u) → H' b = some (.frz o u)
theorem Step.z {z r r' : List Addr} {H H' : Hp} (s : Step r H r' H') : StepZ z r H r' H' := ⟨fun b o h hn _ => s.ext b o h hn, s.pre, s.new, s.frz⟩
theorem StepZ.get {z r r' : List Addr} {H H' : Hp} {n : Nat} {a : Addr} (s : StepZ z r H r' H') (h : r[n]? = some a) : r'[n]? = some a := by
  obtain ⟨t, rfl⟩ := s.pre
  have hl : n < r.length := (List.getElem?_eq_some_iff.mp h).1
  rw [List.getElem?_append_left hl]; exact h
theorem StepZ.nin {z r r' : List Addr} {H H' : Hp} {a : Addr} {o : HO} (s : StepZ z r H r' H') (hn : a ∉ r) (h : H a = some o) : a ∉ r' := fun q => by
  rcases s.new a q with y | y
  · exact hn y
  · rw [h] at y; cases y
theorem StepZ.seqT {g : Gx} {r r' : List Addr} {H H' : Hp} {S : Sto} {a : Addr} {vs : List V} (s : StepZ g.z r H r' H') (sr : SR g r H S) (h : SqT g.K H a vs) : SqT g.K H' a vs := by
  rcases h with (h |
        ⟨o, h⟩) | h
  · refine .inl (.inl (s.ext _ _ h (fun z => ?_) fun z => ?_))
    · obtain ⟨u, hu, h1, _⟩ := sr.own a z
      rw [h] at hu; cases hu; exact h1 _ rfl
    · obtain ⟨xs, e⟩ := sr.zat a z
      rw [h] at e; cases e
  · exact .inl (.inr ⟨o, s.frz _ _ _ h⟩)
  · exact .inr h
mutual
theorem RV.monoS {g : Gx} {r r' z' : List Addr} {H H' : Hp} {S : Sto} (s : StepZ g.z r H r' H') (sr : SR g r H S) (zs : Zs g.z z' H) : ∀ {x : Val} {v : V}, RV g r H x v → RV (g.at z') r' H' x v
  | _, _, .non => .non
  | _, _, .bl b => .bl b
  | _, _, .int i => .int i
  | _, _, .str i => .str i
  | _, _, .ty i => .ty i
  | _, _, .fn h => .fn h
  | _, _, .tup h hl hs => .tup (s.seqT (g := g) sr h) hl (RVs.monoS s sr zs hs)
  | _, _, .lst h hn hz hl hs => .lst (s.ext _ _ h hn hz) (s.nin hn h) (zs.nin hz h) hl (RVs.monoS s sr zs hs)
  | _, _, .scr h hn hl hs => .scr (s.frz _ _ _ h) (s.nin hn h) hl (RVs.monoS s sr zs hs)
  | _, _, .ref h => .ref (s.get h)
  | _, _, .ptp h hd hl hs => .ptp (s.frz _ _ _ h) hd hl (RVs.monoS s sr zs hs)
theorem RVs.monoS {g : Gx} {r r' z' : List Addr} {H H' : Hp} {S : Sto} (s : StepZ g.z r H r' H') (sr : SR g r H S) (zs : Zs g.z z' H) : ∀ {x : List Val} {v : List V}, RVs g r H x v → RVs (g.at z') r' H' x v
  | _, _, .nil => .nil
  | _, _, .cons h hs => .cons (RV.monoS s sr zs h) (RVs.monoS s sr zs hs)
end
/-- J yields these items -/
def ItOk (g : Gx) (r : List Addr) (H : Hp) (J : It) (s : Src) : Prop := s.l.length ≤ sizeLine ∧ ∀ z' r2 H2 S2, StepZ g.z r H r2 H2 → Zs g.z z' H → SR (g.at z') r2 H2 S2 → s.ok S2 = true →
  (∀ i x, s.l[i]? = some x → J.go i H2 ∧ ∀ hx H3, J.yld i H2 hx H3 → More H2 H3 ∧ RV (g.at z') r2 H3 x hx) ∧ (∀ i, s.l.length ≤ i → J.stop i H2)
def iD (g : Gx) (m : MI) : TI := fun st H R => ∃ z r S sl src S', Rep (g.at z) r H S sl st ∧ m sl S = some (src, S') ∧
  ∀ r' H' J, Step r H r' H' → SR (g.at z) r' H' S' → ItOk (g.at z) r' H' J src → R J H'

/-! for -/
def forX (tg : MG) (body : MS) (s : Src) : List Val → Sl → Sto → Option (Fl × Sl × Sto)
  | [], sl, S => if s.ok S then some (.nxt, sl, S) else none
  | x :: xs, sl, S => if s.ok S then (tg sl S x).bind fun sl1 => (body sl1 S).bind fun p => match p.1 with
    | .nxt => forX tg body s xs p.2.1 p.2.2
    | .cnt => forX tg body s xs p.2.1 p.2.2
    | .brk => some (.nxt, p.2.1, p.2.2)
    | .ret v => some (.ret v, p.2.1, p.2.2)
    else none
def sFor (tg : MG) (it : MI) (body : MS) : MS := fun sl S => (it sl S).bind fun p => forX tg body p.1 p.1.l sl p.2

section
variable {X : Cx} {g : Gx} {pos : Pos}
theorem ds_for {t iter : Expr} {body : List Stmt} {tg : MG} {it : MI} {m : MS} (hp : PassesOwn (model X.prog X.w) X.A X.env X.xe) (hc : X.calm = true) (hi : PI X t iter (iD g it)) (hg : PG X t (tDG g tg)) (hb : PSs X body (tDS g m))
    (hs : ∀ x, foldedSetIterable iter X.env x = pure x := by intro _; rfl) : PS X (.For t iter body [] pos) (tDS g (sFor tg it m)) := by
  refine PS.weak (ps_for hp hc hi hg hb hs) fun D st H h => ?_
  obtain ⟨z, r, S, sl, f, sl', S', R, e, q⟩ := h
  simp only [sFor, Option.bind_eq_some_iff] at e
  obtain ⟨⟨src, S1⟩, e1, e2⟩ := e
  refine ⟨z, r, S, sl, src, S1, R, e1, fun r1 H1 J st1 sr1 ok => ?_⟩
  refine ⟨fun i n st2 H2 => n = src.l.length - i ∧ i ≤ src.l.length ∧ ∃ r2 S2 sl2, Step r1 H1 r2 H2 ∧ Rep (g.at z) r2 H2 S2 sl2 st2 ∧ forX tg m src (src.l.drop i) sl2 S2 = some (f, sl', S'),
    ⟨_, rfl, Nat.zero_le _, r1, S1, sl, .refl _ _, R.step st1 sr1, by simpa using e2⟩, ?_⟩
  rintro i n st2 H2 ⟨rfl, hle, r2, S2, sl2, s2, R2, e3⟩
  have oks : src.ok S2 = true := by
    cases hd : src.l.drop i with
    | nil =>
      rw [hd] at e3
      simp only [forX] at e3
      split at e3
      · assumption
      · cases e3
    | cons x xs =>
      rw [hd] at e3
      simp only [forX] at e3
      split at e3
      · assumption
      · cases e3
  obtain ⟨hgo, hstop⟩ := ok.2 z r2 H2 S2 s2.z (.refl _ _) R2.sr oks
  by_cases hlt : i < src.l.length
  · right
    have hd : src.l.drop i = src.l[i] :: src.l.drop (i + 1) := List.drop_eq_getElem_cons hlt
    rw [hd] at e3
    simp only [forX, oks, if_true, Option.bind_eq_some_iff] at e3
    obtain ⟨sl3, e4, ⟨f3, sl4, S4⟩, e5, e6⟩ := e3
    obtain ⟨go, yl⟩ := hgo i src.l[i] (List.getElem?_eq_getElem hlt)
    refine ⟨go, fun st5 H5 => ∃ r5 S5 sl5, Step r1 H1 r5 H5 ∧ Rep (g.at z) r5 H5 S5 sl5 st5 ∧ forX tg m src (src.l.drop (i + 1)) sl5 S5 = some (f, sl', S'), fun st5 H5 ⟨r5, S5, sl5, a1, a2, a3⟩ => ⟨src.l.length - (i + 1), by omega, rfl, hlt, r5, S5, sl5, a1, a2, a3⟩, fun hx H3 hy => ?_⟩
    obtain ⟨mo, rx⟩ := yl hx H3 hy
    refine ⟨z, r2, S2, sl2, _, sl3, R2.more mo, rx, e4, fun st6 R6 => ?_⟩
    refine ⟨z, r2, S2, sl3, f3, sl4, S4, R6, e5, fun r7 H7 st7 s7 R7 => ?_⟩
    have s17 := (s2.trans mo.step).trans s7
    cases f3 with
    | nxt => exact ⟨r7, S4, sl4, s17, R7, e6⟩
    | cnt => exact ⟨r7, S4, sl4, s17, R7, e6⟩
    | brk =>
      cases e6
      exact q r7 H7 st7 (st1.trans s17) R7
    | ret v =>
      cases e6
      exact q r7 H7 st7 (st1.trans s17) R7
  · left
    have hd : src.l.drop i = [] := List.drop_eq_nil_of_le (by omega)
    rw [hd] at e3
    simp only [forX, oks, if_true] at e3
    cases e3
    exact ⟨hstop i (by omega), q r2 H2 st2 (st1.trans s2) R2⟩

/-! ### list comprehensions -/
inductive Tn where
  | nm (i : Nat) | tp (is : List Nat)
def Tn.m : Tn → MG
  | .nm i => gNm i
  | .tp is => gTp is
def Tn.t (K : PySem.W.Frag) : Tn → TG
  | .nm i => gName i
  | .tp is => gTup K is.length (gsNames is)
def Tn.all : Tn → List Nat
  | .nm i => [i]
  | .tp is => is
def wipeS (sl : Sl) : List Nat → Sl
  | [] => sl
  | v :: vs => (wipeS sl vs).set v none
theorem wipe_set {st : L2.St} {x : Option V} : ∀ {vs : List Nat} {i : Nat}, i ∈ vs → wipe (st.set i x) vs = wipe st vs
  | v :: vs, i, h => by
    unfold wipe
    by_cases hi : i ∈ vs
    · rw [wipe_set hi]
    · have e : i = v := by simpa [hi] using h
      subst e
      have key : ∀ (vs : List Nat), i ∉ vs → (wipe (st.set i x) vs) = (wipe st vs).set i x := by
        intro vs
        induction vs with
        | nil => intro _; rfl
        | cons w ws ih =>
          intro hn
          simp only [List.mem_cons, not_or] at hn
          unfold wipe
          rw [ih hn.2, List.set_comm _ _ hn.1]
      rw [key vs hi, List.set_set]
theorem wipe_none {st : L2.St} : ∀ {vs : List Nat} {i : Nat}, i ∈ vs → (wipe st vs).set i none = wipe st vs
  | v :: vs, i, h => by
    unfold wipe
    by_cases hi : i = v
    · subst hi; rw [List.set_set]
    · rw [List.set_comm _ _ (Ne.symm hi), wipe_none (by simpa [hi] using h)]
theorem wipe_sub {st : L2.St} {vs : List Nat} : ∀ {ws : List Nat}, (∀ i ∈ ws, i ∈ vs) → wipe (wipe st vs) ws = wipe st vs
  | [], _ => rfl
  | w :: ws, h => by
    show (wipe (wipe st vs) ws).set w none = wipe st vs
    rw [wipe_sub fun i hi => h i (List.mem_cons_of_mem _ hi), wipe_none (h w List.mem_cons_self)]
theorem SlR.wipe {g : Gx} {r : List Addr} {H : Hp} {sl : Sl} {st : L2.St} (x : SlR g r H sl st) : ∀ vs : List Nat, SlR g r H (wipeS sl vs) (L2.wipe st vs)
  | [] => x
  | v :: vs => by
    have ih := SlR.wipe x vs
    unfold wipeS L2.wipe
    refine ⟨by simp [ih.len], fun i w h => ?_⟩
    by_cases e : v = i
    · subst e
      by_cases hl : v < (wipeS sl vs).length
      · rw [List.getElem?_set_self hl] at h; cases h
      · rw [List.getElem?_eq_none (by simp; omega)] at h; cases h
    · rw [List.getElem?_set_ne e] at h
      obtain ⟨hw, e1, q1⟩ := ih.at_ i w h
      exact ⟨hw, by rw [List.getElem?_set_ne e]; exact e1, q1⟩
theorem gsNames_readW {r : List Addr} {H : Hp} {S : Sto} {Q : L2.St → Hp → Prop} {ws : List Nat} : ∀ (is : List Nat) (xs : List Val) (vs : List V) (sl : Sl) (st : L2.St), (∀ i ∈ is, i ∈ ws) → xs.length = is.length → RVs g r H xs vs → Rep g r H S sl st →
    (∀ st', Rep g r H S (setAll is xs sl) st' → wipe st' ws = wipe st ws → Q st' H) → gsNames is vs st H Q
  | [], [], _, sl, st, _, _, .nil, R, q => ⟨rfl, q st R rfl⟩
  | i :: is, x :: xs, _, sl, st, hm, hl, .cons h hs, R, q => ⟨_, _, rfl, gsNames_readW is xs _ (sl.set i (some x)) _ (fun j hj => hm j (List.mem_cons_of_mem _ hj)) (by simpa using hl) hs ⟨R.sr, R.sl.set h i⟩ fun st' R' e => q st' R' (by rw [e, wipe_set (hm i List.mem_cons_self)])⟩
theorem Tn.read {K : PySem.W.Frag} {r : List Addr} {H : Hp} {S : Sto} {Q : L2.St → Hp → Prop} {ws : List Nat} {t : Tn} {x : Val} {hx : V} {sl sl' : Sl} {st : L2.St} (hK : g.K = K) (hm : ∀ i ∈ t.all, i ∈ ws) (R : Rep g r H S sl st) (rx : RV g r H x hx) (e : t.m sl S x = some sl')
    (q : ∀ st', Rep g r H S sl' st' → wipe st' ws = wipe st ws → Q st' H) : t.t K hx st H Q := by
  cases t with
  | nm i =>
    cases e
    exact q _ ⟨R.sr, R.sl.set rx i⟩ (wipe_set (hm i (by simp [Tn.all])))
  | tp is =>
    simp only [Tn.m, gTp] at e
    split at e
    · rename_i xs
      split at e
      · rename_i hl
        cases e
        cases rx with
        | tup h1 h2 h3 =>
          rw [hK] at h1
          exact ⟨_, _, rfl, h1, by rw [← h3.length]; exact hl, gsNames_readW is xs _ sl st hm hl h3 R q⟩
      · cases e
    · cases e
def tYesD : MT := fun _ S => some (true, S)
def lcX (t : Tn) (tt : MT) (m : ME) (s : Src) (sl : Sl) : List Val → Sto → Option (List Val × Sto)
  | [], S => if s.ok S then some ([], S) else none
  | x :: xs, S => if s.ok S then (t.m sl S x).bind fun sl1 => (tt sl1 S).bind fun p => if p.1 then (m sl1 p.2).bind fun q => (lcX t tt m s sl xs q.2).bind fun w => some (q.1 :: w.1, w.2) else lcX t tt m s sl xs p.2
    else none
def eLc (t : Tn) (it : MI) (tt : MT) (m : ME) (vs : List Nat) : ME := fun sl S => (it sl S).bind fun p => (lcX t tt m p.1 (wipeS sl vs) p.1.l p.2).bind fun w => some (.lst w.1, w.2)
def eLcM (t : Tn) (it : MI) (tt : MT) (m : ME) (vs : List Nat) : ME := fun sl S => (it sl S).bind fun p => (lcX t tt m p.1 (wipeS sl vs) p.1.l p.2).bind fun w => some (.ref w.2.length, w.2 ++ [.lst w.1])
/-- the list that is being made goes on -/
theorem RVs.updz {r : List Addr} {H : Hp} {D : Addr} {u : List V} {o : HO} (hz : D ∈ g.z) (hD : H D = some (.lst u)) : ∀ {x : List Val} {v : List V}, RVs g r H x v → RVs g r (upd H D o) x v := by
  have seqT : ∀ {a : Addr} {vs : List V}, SqT g.K H a vs → SqT g.K (upd H D o) a vs := fun {a vs} h => by
    rcases h with (h | ⟨ob, h⟩) | h
    · exact .inl (.inl (by rw [upd_ne (fun e => by rw [e, hD] at h; cases h)]; exact h))
    · exact .inl (.inr ⟨ob, by rw [upd_ne (fun e => by rw [e, hD] at h; cases h)]; exact h⟩)
    · exact .inr h
  intro x v h
  exact RVs.rec (g := g) (r := r) (H := H) (motive_1 := fun x v _ => RV g r (upd H D o) x v) (motive_2 := fun x v _ => RVs g r (upd H D o) x v)
    .non .bl .int .str .ty (fun h => .fn h) (fun h hl _ ih => .tup (seqT h) hl ih) (fun {a _ _} h hn hz' hl _ ih => .lst (by rw [upd_ne (fun e => hz' (by rw [e]; exact hz))]; exact h) hn hz' hl ih)
    (fun {a ob _ _} h hn hl _ ih => .scr (o := ob) (by rw [upd_ne (fun e => by rw [e, hD] at h; cases h)]; exact h) hn hl ih) (fun h => .ref h) (fun {a ob _ _} h hd hl _ ih => .ptp (o := ob) (by rw [upd_ne (fun e => by rw [e, hD] at h; cases h)]; exact h) hd hl ih) .nil (fun _ _ a b => .cons a b) h
theorem RV.updz {r : List Addr} {H : Hp} {D : Addr} {u : List V} {o : HO} (hz : D ∈ g.z) (hD : H D = some (.lst u)) {x : Val} {v : V} (h : RV g r H x v) : RV g r (upd H D o) x v := by
  cases RVs.updz hz hD (.cons h .nil) with
  | cons a _ => exact a
theorem RO.updz {r : List Addr} {H : Hp} {D : Addr} {u : List V} {o : HO} (hz : D ∈ g.z) (hD : H D = some (.lst u)) {a : Addr} {x : SO} {v : HO} (h : RO g r H a x v) : RO g r (upd H D o) a x v := by
  cases h with
  | lst hl h => exact .lst hl (h.updz hz hD)
  | dK h1 hl h2 => exact .dK h1 hl (h2.updz hz hD)
  | dN h1 hl h0 h2 => exact .dN h1 hl (h0.updz hz hD) (h2.updz hz hD)
  | lkK h => cases h with | dK h1 hl h2 => exact .lkK (.dK h1 hl (h2.updz hz hD))
  | lkN h1 hl h0 h2 => exact .lkN h1 hl (h0.updz hz hD) (h2.updz hz hD)
theorem SR.updz {r : List Addr} {H : Hp} {S : Sto} {D : Addr} {u w : List V} (hz : D ∈ g.z) (hD : H D = some (.lst u)) (sr : SR g r H S) : SR g r (upd H D (.lst w)) S := by
  refine ⟨sr.len, sr.nd, fun p hp => ?_, sr.zr, fun i so a h1 h2 => ?_⟩
  · by_cases e : p = D
    · exact ⟨w, by rw [e]; exact upd_same⟩
    · obtain ⟨xs, e'⟩ := sr.zat p hp
      exact ⟨xs, by rw [upd_ne e]; exact e'⟩
  · obtain ⟨o, ho, ro⟩ := sr.at_ i so a h1 h2
    refine ⟨o, ?_, ro.updz hz hD⟩
    have hne : a ≠ D := fun e => sr.zr D hz (by
      rw [← e]
      exact List.mem_of_getElem? h2)
    rw [upd_ne hne]; exact ho
/-- fewer lists are being made -/
theorem RVs.fewz {r z : List Addr} {H : Hp} (hz : ∀ p ∈ z, p ∈ g.z) {x : List Val} {v : List V} (h : RVs g r H x v) : RVs (g.at z) r H x v :=
  RVs.rec (g := g) (r := r) (H := H) (motive_1 := fun x v _ => RV (g.at z) r H x v) (motive_2 := fun x v _ => RVs (g.at z) r H x v)
    .non .bl .int .str .ty (fun h => .fn h) (fun h hl _ ih => .tup h hl ih) (fun h hn hz' hl _ ih => .lst h hn (fun q => hz' (hz _ q)) hl ih) (fun h hn hl _ ih => .scr h hn hl ih) (fun h => .ref h) (fun h hd hl _ ih => .ptp h hd hl ih) .nil (fun _ _ a b => .cons a b) h
theorem RO.fewz {r z : List Addr} {H : Hp} (hz : ∀ p ∈ z, p ∈ g.z) {a : Addr} {x : SO} {v : HO} (h : RO g r H a x v) : RO (g.at z) r H a x v := by
  cases h with
  | lst hl h => exact .lst hl (h.fewz hz)
  | dK h1 hl h2 => exact .dK h1 hl (h2.fewz hz)
  | dN h1 hl h0 h2 => exact .dN h1 hl (h0.fewz hz) (h2.fewz hz)
  | lkK h => cases h with | dK h1 hl h2 => exact .lkK (.dK h1 hl (h2.fewz hz))
  | lkN h1 hl h0 h2 => exact .lkN h1 hl (h0.fewz hz) (h2.fewz hz)
theorem SR.fewz {r z : List Addr} {H : Hp} {S : Sto} (hz : ∀ p ∈ z, p ∈ g.z) (sr : SR g r H S) : SR (g.at z) r H S :=
  ⟨sr.len, sr.nd, fun p hp => sr.zat p (hz p hp), fun p hp => sr.zr p (hz p hp), fun i so a h1 h2 => by obtain ⟨u, hu, ro⟩ := sr.at_ i so a h1 h2; exact ⟨u, hu, ro.fewz hz⟩⟩
theorem SlR.monoZ {r r' z' : List Addr} {H H' : Hp} {sl : Sl} {st : L2.St} (s : Step r H r' H') (ow : Own r H) (zs : Zs g.z z' H) (x : SlR g r H sl st) : SlR (g.at z') r' H' sl st :=
  ⟨x.len, fun i v h => by obtain ⟨hv, e, q⟩ := x.at_ i v h; exact ⟨hv, e, q.monoZ s ow zs⟩⟩
theorem RO.monoZ {r r' z' : List Addr} {H H' : Hp} (s : Step r H r' H') (ow : Own r H) (zs : Zs g.z z' H) {a : Addr} {o : SO} {u : HO} (x : RO g r H a o u) : RO (g.at z') r' H' a o u := by
  cases x with
  | lst hl h => exact .lst hl (h.monoZ s ow zs)
  | dK h1 hl h2 => exact .dK h1 hl (h2.monoZ s ow zs)
  | dN h1 hl h0 h2 => exact .dN h1 hl (h0.monoZ s ow zs) (h2.monoZ s ow zs)
  | lkK h => cases h with | dK h1 hl h2 => exact .lkK (.dK h1 hl (h2.monoZ s ow zs))
  | lkN h1 hl h0 h2 => exact .lkN h1 hl (h0.monoZ s ow zs) (h2.monoZ s ow zs)
/-- a list begins to be made -/
theorem SR.addz {r : List Addr} {H : Hp} {S : Sto} {D : Addr} (sr : SR g r H S) (hD : H D = none) : SR (g.at (D :: g.z)) r (upd H D (.lst [])) S := by
  have zs : Zs g.z (D :: g.z) H := fun p hp => by
    rcases List.mem_cons.mp hp
          with e | e
    · right; rw [e]; exact hD
    · exact .inl e
  refine ⟨sr.len, sr.nd, fun p hp => ?_, fun p hp => ?_, fun i so a h1 h2 => ?_⟩
  · rcases List.mem_cons.mp hp with e | e
    · exact ⟨[], by rw [e]; exact upd_same⟩
    · obtain ⟨xs, e'⟩ := sr.zat p e
      exact ⟨xs, by rw [upd_ne (ne_of_none e' hD)]; exact e'⟩
  · rcases List.mem_cons.mp hp with e | e
    · rw [e]; exact notin_own sr.own hD
    · exact sr.zr p e
  · obtain ⟨o, ho, ro⟩ := sr.at_ i so a h1 h2
    exact ⟨o, by rw [upd_ne (ne_of_none ho hD)]; exact ho, ro.monoZ (Step.new1 hD) sr.own zs⟩
/-- what a comprehension comes to -/
theorem lc_read {st : L2.St} {H : Hp} {t : Tn} {it : MI} {tt : MT} {m : ME} {vs : List Nat} (hK : g.K = X.K) (hm : ∀ i ∈ t.all, i ∈ vs) {z r : List Addr} {S S' : Sto} {sl : Sl} {res : List Val} (R : Rep (g.at z) r H S sl st)
    (e : ((it sl S).bind fun p => lcX t tt m p.1 (wipeS sl vs) p.1.l p.2) = some (res, S')) {Q : VK}
    (q : ∀ r' H' D ys, Step r H r' H' → SR (g.at z) r' H' S' → H' D = some (.lst ys) → D ∉ r' → D ∉ z → H D = none → res.length ≤ sizeLine → RVs (g.at (D :: z)) r' H' res ys → (SR (g.at (D :: z)) r' H' S') → Q (.ref D) H') :
    tLc (iD g it) (t.t X.K) (tDt g tt) (tD g m) vs st H Q := by
  simp only [Option.bind_eq_some_iff] at e
  obtain ⟨⟨src, S1⟩, e1, e2⟩ := e
  refine ⟨z, r, S, sl, src, S1, R, e1, fun r1 H1 J st1 sr1 ok D hD => ?_⟩
  have sD : Step r1 H1 r1 (upd H1 D (.lst [])) := Step.new1 hD
  have zs : Zs z (D :: z) H1 := fun p hp => by
    rcases List.mem_cons.mp hp
          with e | e
    · right; rw [e]; exact hD
    · exact .inl e
  have sl1 : SlR (g.at z) r1 H1 (wipeS sl vs) (wipe st vs) := (R.sl.mono st1 R.sr.own).wipe vs
  have hm0 : ∀ p ∈ z, p ∈ D :: z := fun p hp => List.mem_cons_of_mem _ hp
  refine ⟨fun i n H2 => n = src.l.length - i ∧ i ≤ src.l.length ∧ ∃ r2 S2 acc ys rest, Step r1 H1 r2 H2 ∧ Rep (g.at (D :: z)) r2 H2 S2 (wipeS sl vs) (wipe st vs) ∧ H2 D = some (.lst ys) ∧ RVs (g.at (D :: z)) r2 H2 acc ys ∧ acc.length ≤ i ∧ res = acc ++ rest ∧
      lcX t tt m src (wipeS sl vs) (src.l.drop i) S2 = some (rest, S'),
    ⟨_, rfl, Nat.zero_le _, r1, S1, [], [], res, sD, ⟨SR.addz (g := g.at z) sr1 hD, SlR.monoZ (g := g.at z) sD sr1.own zs sl1⟩, upd_same, .nil, Nat.le_refl _, rfl, by simpa using e2⟩, ?_⟩
  rintro i n H2 ⟨rfl, hle, r2, S2, acc, ys, rest, s2, R2, hDy, rys, hal, hres, e3⟩
  have oks : src.ok S2 = true := by
    cases hd : src.l.drop i with
    | nil =>
      rw [hd] at e3
      simp only [lcX] at e3
      split at e3
      · assumption
      · cases e3
    | cons x xs =>
      rw [hd] at e3
      simp only [lcX] at e3
      split at e3
      · assumption
      · cases e3
  obtain ⟨hgo, hstop⟩ := ok.2 (D :: z) r2 H2 S2 s2.z zs R2.sr oks
  by_cases hlt : i < src.l.length
  · right
    have hd : src.l.drop i = src.l[i] :: src.l.drop (i + 1) := List.drop_eq_getElem_cons hlt
    rw [hd] at e3
    simp only [lcX, oks, if_true, Option.bind_eq_some_iff] at e3
    obtain ⟨sl3, e4, ⟨k, S3⟩, e5, e6⟩ := e3
    obtain ⟨go, yl⟩ := hgo i src.l[i] (List.getElem?_eq_getElem hlt)
    refine ⟨go, fun H5 => ∃ r5 S5 acc5 ys5 rest5, Step r1 H1 r5 H5 ∧ Rep (g.at (D :: z)) r5 H5 S5 (wipeS sl vs) (wipe st vs) ∧ H5 D = some (.lst ys5) ∧ RVs (g.at (D :: z)) r5 H5 acc5 ys5 ∧ acc5.length ≤ i + 1 ∧ res = acc5 ++ rest5 ∧
        lcX t tt m src (wipeS sl vs) (src.l.drop (i + 1)) S5 = some (rest5, S'),
      fun H5 ⟨r5, S5, acc5, ys5, rest5, a1, a2, a3, a4, a5, a6, a7⟩ => ⟨src.l.length - (i + 1), by omega, rfl, hlt, r5, S5, acc5, ys5, rest5, a1, a2, a3, a4, a5, a6, a7⟩, fun hx H3 hy => ?_⟩
    obtain ⟨mo, rx⟩ := yl hx H3 hy
    refine Tn.read (g := g.at (D :: z)) (ws := vs) (hK : g.K = X.K) hm (R2.more mo) rx e4 fun st6 R6 hw => ⟨by rw [hw, wipe_sub fun _ h => h], ?_⟩
    refine ⟨D :: z, r2, S2, sl3, k, S3, R6, e5, fun r7 H7 st7 sr7 => ?_⟩
    have hD7 : H7 D = some (.lst ys) := st7.ext _ _ (mo _ _ hDy) (R2.sr.zr D List.mem_cons_self)
    have s27 : Step r2 H2 r7 H7 := mo.step.trans st7
    cases k with
    | false =>
      simp only [Bool.false_eq_true, if_false] at e6
      refine iteF ?_
      exact ⟨r7, S3, acc, ys, rest, s2.trans s27, R2.step s27 sr7, hD7, rys.mono s27 R2.sr.own, by omega, hres, e6⟩
    | true =>
      simp only [if_true, Option.bind_eq_some_iff] at e6
      refine iteT ?_
      obtain ⟨⟨y, S8⟩, e7, ⟨rest8, S9⟩, e8, e9⟩ := e6
      cases e9
      refine ⟨D :: z, r7, S3, sl3, y, S8, R6.step st7 sr7, e7, fun r8 H8 hv st8 sr8 rv => ?_⟩
      have hD8 : H8 D = some (.lst ys) := st8.ext _ _ hD7 (sr7.zr D List.mem_cons_self)
      have s28 : Step r2 H2 r8 H8 := s27.trans st8
      have ra8 := rys.mono s28 R2.sr.own
      have hlen : ys.length < sizeLine := by
        rw [← ra8.length]
        have := ok.1
        omega
      have s18 := s2.trans s28
      have sU : Step r1 H1 r8 (upd H8 D (.lst (ys ++ [hv]))) := ⟨fun b o hb hn => by rw [upd_ne (ne_of_none hb hD)]; exact s18.ext b o hb hn, s18.pre, s18.new, fun b o u hb => by rw [upd_ne (ne_of_none hb hD)]; exact s18.frz b o u hb⟩
      refine ⟨ys, hD8, hlen, r8, S8, acc ++ [y], ys ++ [hv], rest8, sU, ⟨SR.updz (g := g.at (D :: z)) List.mem_cons_self hD8 sr8, ?_⟩, upd_same, ?_, by simp; omega, by rw [hres]; simp, e8⟩
      · refine ⟨R2.sl.len, fun j w hj => ?_⟩
        obtain ⟨hw', e', q'⟩ := (R2.sl.mono s28 R2.sr.own).at_ j w hj
        exact ⟨hw', e', RV.updz (g := g.at (D :: z)) List.mem_cons_self hD8 q'⟩
      · exact (RVs.updz (g := g.at (D :: z)) List.mem_cons_self hD8 ra8).append (.cons (RV.updz (g := g.at (D :: z)) List.mem_cons_self hD8 rv) .nil)
  · left
    have hd : src.l.drop i = [] := List.drop_eq_nil_of_le (by omega)
    rw [hd] at e3
    simp only [lcX, oks, if_true] at e3
    cases e3
    rw [List.append_nil] at hres
    subst hres
    have hDH : H D = none := by
      cases hh : H D with
      | none => rfl
      | some o =>
        have : D ∈ r := by
          by_cases hr : D ∈ r
          · exact hr
          · have := st1.ext D o hh hr
            rw [hD] at this; cases this
        obtain ⟨t', rfl⟩ := st1.pre
        obtain ⟨u, hu, _⟩ := sr1.own D (List.mem_append_left _ this)
        rw [hD] at hu; cases hu
    exact ⟨hstop i (by omega), q r2 H2 D ys (st1.trans s2) (SR.fewz (g := g.at (D :: z)) hm0 R2.sr) hDy (R2.sr.zr D List.mem_cons_self) (fun hz => by
      obtain ⟨xs, e'⟩ := sr1.zat D hz
      rw [hD] at e'; cases e') hDH (by have := ok.1; omega) rys R2.sr⟩
end
end Mp
namespace Mp
open PySem PySem.Spec
      PyProof.Rows L2

/-! ### sources -/
def tupOf : Val → Option (List Val)
  | .tup xs => some xs
  | .ptp xs => some xs
  | _ => none
theorem tupOf_at {g : Gx} {r : List Addr} {H : Hp} {a : Val} {x : V} {xs : List Val} (h : RV g r H a x) (e : tupOf a = some xs) : ∃ p vs, x = .ref p ∧ SqT g.K H p vs ∧ xs.length ≤ sizeLine ∧ RVs g r H xs vs := by
  cases h with
  | tup h1 h2 h3 => cases e; exact ⟨_, _, rfl, h1, h2, h3⟩
  | ptp h0 h1 h2 h3 => cases e; exact ⟨_, _, rfl, .inl (.inr ⟨_, h0⟩), h2, h3⟩
  | _ => cases e
/-- the items of a list or tuple that is walked -/
def iSeq (m : ME) : MI := fun sl S => (m sl S).bind fun p => match p.1 with
  | .tup xs => some (⟨xs, none⟩, p.2)
  | .ptp xs => some (⟨xs, none⟩, p.2)
  | .lst xs => some (⟨xs, none⟩, p.2)
  | .scr xs => some (⟨xs, none⟩, p.2)
  | .str x => if x.cps.size ≤ sizeLine then some (⟨x.cps.toList.map fun c => .str ⟨#[c]⟩, none⟩, p.2) else none
  | .ref n => match p.2[n]? with
    | some (.lst xs) => some (⟨xs, some n⟩, p.2)
    | _ => none
  | _ => none
def rngL (lo : Int) (n : Nat) : List Val := (List.range n).map fun (i : Nat) => .int (lo + i)
def iRng1M (m : ME) : MI := fun sl S => (m sl S).bind fun p => match p.1 with
  | .int j => if -(2 ^ 62) ≤ j ∧ j ≤ 16000000 then some (⟨rngL 0 j.toNat, none⟩, p.2) else none
  | _ => none
def iRng2M (a b : ME) : MI := fun sl S => (a sl S).bind fun p => (b sl p.2).bind fun q => match p.1, q.1 with
  | .int i, .int j => if -16000 ≤ i ∧ i ≤ 16000 ∧ -(2 ^ 62) ≤ j ∧ j ≤ 16000000 then some (⟨rngL i (j - i).toNat, none⟩, q.2) else none
  | _, _ => none
def zipL : List Val → List Val → List Val
  | x :: xs, y :: ys => .tup [x, y] :: zipL xs ys
  | _, _ => []
def iZipT (a b : ME) : MI := fun sl S => (a sl S).bind fun p => (b sl p.2).bind fun q => (tupOf p.1).bind fun xs => (tupOf q.1).map fun ys => (⟨zipL xs ys, none⟩, q.2)
section
variable {X : Cx} {g : Gx} {pos : Pos}
theorem it_tup {r : List Addr} {H : Hp} {S : Sto} {a : Addr} {xs : List Val} {vs : List V} (hK : g.K = X.K) (sr : SR g r H S) (h1 : SqT g.K H a vs) (h2 : xs.length ≤ sizeLine) (h3 : RVs g r H xs vs) : ItOk g r H (Itt X.K a) ⟨xs, none⟩ := by
  refine ⟨h2, fun z' r2 H2 S2 s zs sr2 _ => ⟨fun i x hx => ?_, fun i hi => ?_⟩⟩
  · have h1' := s.seqT (g := g) sr h1
    rw [hK] at h1'
    obtain ⟨v, hv, rv⟩ := h3.get hx
    refine ⟨⟨vs, v, h1', hv⟩, fun hw H3 y => ?_⟩
    obtain ⟨e, y⟩ := y
    subst e
    have := y vs h1'
    rw [hv] at this
    cases this
    exact ⟨fun _ _ q => q, rv.monoS s sr zs⟩
  · have h1' := s.seqT (g := g) sr h1
    rw [hK] at h1'
    exact ⟨vs, h1', by rw [← h3.length]; exact hi⟩
theorem it_at {r : List Addr} {H : Hp} {S : Sto} {a : Addr} {xs : List Val} {n : Option Nat} (sz : xs.length ≤ sizeLine) (K : PySem.W.Frag)
    (at_ : ∀ z' r2 H2 S2, StepZ g.z r H r2 H2 → Zs g.z z' H → SR (g.at z') r2 H2 S2 → Src.ok ⟨xs, n⟩ S2 = true → ∃ vs, SqL K H2 a vs ∧ RVs (g.at z') r2 H2 xs vs) : ItOk g r H (Itl K a) ⟨xs, n⟩ := by
  refine ⟨sz, fun z' r2 H2 S2 s zs sr2 ok => ?_⟩
  obtain ⟨vs, h1, h3⟩ := at_ z' r2 H2 S2 s zs sr2 ok
  refine ⟨fun i x hx => ?_, fun i hi => ⟨vs, h1, by rw [← h3.length]; exact hi⟩⟩
  obtain ⟨v, hv, rv⟩ := h3.get hx
  refine ⟨⟨vs, v, h1, hv⟩, fun hw H3 y => ?_⟩
  obtain ⟨e, y⟩ := y
  subst e
  have := y vs h1
  rw [hv] at this
  cases this
  exact ⟨fun _ _ q => q, rv⟩
theorem PI.weak {t e : Expr} {w w' : TI} (h : PI X t e w) (k : ∀ st H R, w' st H R → w st H R) : PI X t e w' := ⟨fun pins s st H R I q => h.run pins s st H R I (k _ _ _ q)⟩
theorem PI.or {t e : Expr} {w w' : TI} (h : PI X t e w) (h' : PI X t e w') : PI X t e (fun st H R => w st H R ∨ w' st H R) := ⟨fun pins s st H R I q => q.elim (h.run pins s st H R I) (h'.run pins s st H R I)⟩
/-- the reading of an expression whose value is of this kind -/
def tDk (g : Gx) (k : Val → Prop) (m : ME) : TE := fun st H Q => ∃ z r S sl v S', Rep (g.at z) r H S sl st ∧ m sl S = some (v, S') ∧ k v ∧
  ∀ r' H' hv, Step r H r' H' → SR (g.at z) r' H' S' → RV (g.at z) r' H' v hv → Q hv H'
theorem d_kind {e : Expr} {m : ME} {k : Val → Prop} (h : PE X e (tD g m)) : PE X e (tDk g k m) := PE.weak h fun st H Q ⟨z, r, S, sl, v, S', R, e, _, q⟩ => ⟨z, r, S, sl, v, S', R, e, q⟩
theorem it_str {r : List Addr} {H : Hp} {x : Str} (h : x.cps.size ≤ sizeLine) : ItOk g r H (Its x) ⟨x.cps.toList.map fun c => .str ⟨#[c]⟩, none⟩ := by
  refine ⟨by simpa using h, fun z' r2 H2 S2 s zs sr2 _ => ⟨fun i y hy => ?_, fun i hi => (by simpa using hi : x.cps.size ≤ i)⟩⟩
  rw [List.getElem?_map, Option.map_eq_some_iff] at hy
  obtain ⟨c, hc, rfl⟩ := hy
  have hl : i < x.cps.size := by simpa using (List.getElem?_eq_some_iff.mp hc).1
  refine ⟨hl, fun hw H3 q => ?_⟩
  obtain ⟨rfl, c', hc', rfl⟩ := q
  have e : c' = c := by
    rw [Array.getElem?_toList] at hc
    rw [hc] at hc'
    exact (Option.some.inj hc').symm
  subst e
  exact ⟨fun _ _ q => q, .str _⟩
theorem it_rng {r : List Addr} {H : Hp} {lo : Int} {n : Nat} (h : n ≤ sizeLine) : ItOk g r H (Itr lo n) ⟨rngL lo n, none⟩ := by
  refine ⟨by simpa [rngL] using h, fun z' r2 H2 S2 s zs sr2 _ => ⟨fun i y hy => ?_, fun i hi => (by simpa [rngL] using hi : n ≤ i)⟩⟩
  simp only [rngL, List.getElem?_map, Option.map_eq_some_iff] at hy
  obtain ⟨j, hj, rfl⟩ := hy
  obtain ⟨hl, hj⟩ := List.getElem?_eq_some_iff.mp hj
  simp only [List.getElem_range] at hj
  subst hj
  simp only [List.length_range] at hl
  refine ⟨hl, fun hw H3 q => ?_⟩
  obtain ⟨rfl, rfl⟩ := q
  exact ⟨fun _ _ q => q, .int _⟩
theorem di_seq {t e : Expr} {m : ME} (hK : g.K = X.K) (he : PE X e (tD g m)) : PI X t e (iD g (iSeq m)) := by
  refine PI.weak (PI.or (pi_tup (d_kind (k := fun v => ∃ xs, tupOf v = some xs) he)) (PI.or (pi_list (d_kind (k := fun v => (∃ xs, v = .lst xs) ∨ (∃ xs, v = .scr xs) ∨ ∃ n, v = .ref n) he)) (pi_str (d_kind (k := fun v => ∃ x, v = .str x) he)))) fun st H R h => ?_
  obtain ⟨z, r, S, sl, src, S', R0, e, q⟩ := h
  simp only [iSeq, Option.bind_eq_some_iff] at e
  obtain ⟨⟨v, S1⟩, e1, e2⟩ := e
  cases v with
  | tup xs =>
    cases e2
    left
    refine ⟨z, r, S, sl, _, _, R0, e1, ⟨_, rfl⟩, fun r1 H1 hv s1 sr1 rv => ?_⟩
    obtain ⟨p, vs, rfl, h1, h2, h3⟩ := tupOf_at rv rfl
    have h1' := h1
    rw [show (g.at z).K = X.K from hK] at h1'
    exact ⟨_, rfl, ⟨_, h1'⟩, q r1 H1 _ s1 sr1 (it_tup (g := g.at z) hK sr1 h1 h2 h3)⟩
  | ptp xs =>
    cases e2
    left
    refine ⟨z, r, S, sl, _, _, R0, e1, ⟨_, rfl⟩, fun r1 H1 hv s1 sr1 rv => ?_⟩
    obtain ⟨p, vs, rfl, h1, h2, h3⟩ := tupOf_at rv rfl
    have h1' := h1
    rw [show (g.at z).K = X.K from hK] at h1'
    exact ⟨_, rfl, ⟨_, h1'⟩, q r1 H1 _ s1 sr1 (it_tup (g := g.at z) hK sr1 h1 h2 h3)⟩
  | lst xs =>
    cases e2
    right; left
    refine ⟨z, r, S, sl, _, _, R0, e1, .inl ⟨_, rfl⟩, fun r1 H1 hv s1 sr1 rv => ?_⟩
    cases rv with
    | lst h1 h2 h3 h4 h5 =>
      refine ⟨_, rfl, ⟨_, .inl (.inl h1)⟩, q r1 H1 _ s1 sr1 (it_at (g := g.at z) (S := S1) h4 X.K fun z' r2 H2 S2 s zs sr2 _ => ?_)⟩
      exact ⟨_, .inl (.inl (s.ext _ _ h1 h2 h3)), h5.monoS s sr1 zs⟩
  | scr xs =>
    cases e2
    right; left
    refine ⟨z, r, S, sl, _, _, R0, e1, .inr (.inl ⟨_, rfl⟩), fun r1 H1 hv s1 sr1 rv => ?_⟩
    cases rv with
    | scr h1 h2 h4 h5 =>
      refine ⟨_, rfl, ⟨_, .inl (.inr ⟨_, h1⟩)⟩, q r1 H1 _ s1 sr1 (it_at (g := g.at z) (S := S1) h4 X.K fun z' r2 H2 S2 s zs sr2 _ => ?_)⟩
      exact ⟨_, .inl (.inr ⟨_, s.frz _ _ _ h1⟩), h5.monoS s sr1 zs⟩
  | str x =>
    dsimp only at e2
    split at e2
    · rename_i hx
      cases e2
      right; right
      refine ⟨z, r, S, sl, _, _, R0, e1, ⟨_, rfl⟩, fun r1 H1 hv s1 sr1 rv => ?_⟩
      cases rv
      exact ⟨_, rfl, q r1 H1 _ s1 sr1 (it_str hx)⟩
    · cases e2
  | ref n =>
    dsimp only at e2
    split at e2
    · rename_i xs hx
      cases e2
      right; left
      refine ⟨z, r, S, sl, _, _, R0, e1, .inr (.inr ⟨_, rfl⟩), fun r1 H1 hv s1 sr1 rv => ?_⟩
      cases rv with
      | @ref _ a ha =>
        obtain ⟨u, hu, ro⟩ := sr1.at_ _ _ _ hx ha
        cases ro with
        | lst hl hs =>
          refine ⟨_, rfl, ⟨_, .inl (.inl hu)⟩, q r1 H1 _ s1 sr1 (it_at (g := g.at z) (S := S) hl X.K fun z' r2 H2 S2 s zs sr2 ok => ?_)⟩
          simp only [Src.ok] at ok
          split at ok
          · rename_i ys hy
            have e' := Val.sames_eq _ _ ok
            subst e'
            obtain ⟨u2, hu2, ro2⟩ := sr2.at_ _ _ _ hy (s.get ha)
            cases ro2 with
            | lst hl2 hs2 => exact ⟨_, .inl (.inl hu2), hs2⟩
          · cases ok
    · cases e2
  | _ => cases e2
theorem di_rng1 {t a : Expr} {p : Pos} {m : ME} (hg : Gl X "range") (hm : X.mg "range" = none) (ha : PE X a (tD g m)) (hs : starEach [a] X.env = [(false, eval a X.env)] := by rfl) : PI X t (.Call (.Name "range" p) [a] [] pos) (iD g (iRng1M m)) := by
  refine PI.weak (pi_range1 hg hm (d_cons ha d_nil hs) hs) fun st H R h => ?_
  obtain ⟨z, r, S, sl, src, S', R0, e, q⟩ := h
  simp only [iRng1M, Option.bind_eq_some_iff] at e
  obtain ⟨⟨v, S1⟩, e1, e2⟩ := e
  dsimp only at e2
  split at e2
  · rename_i j
    split at e2
    · rename_i hj
      cases e2
      refine ⟨z, r, S, sl, [.int j], _, R0, by simp [esCons, esNil, e1]; rfl, fun r1 H1 hv s1 sr1 rv => ?_⟩
      cases rv with
      | cons a b =>
        cases a
        cases b
        exact ⟨j, rfl, hj.1, by omega, q r1 H1 _ s1 sr1 (it_rng (by rw [sizeLine_eq]; omega))⟩
    · cases e2
  · cases e2
theorem di_rng2 {t a b : Expr} {p : Pos} {m m2 : ME} (hg : Gl X "range") (hm : X.mg "range" = none) (ha : PE X a (tD g m)) (hb : PE X b (tD g m2)) (hs : starEach [a, b] X.env = [(false, eval a X.env), (false, eval b X.env)] := by rfl) (hs2 : starEach [b] X.env = [(false, eval b X.env)] := by rfl) : PI X t (.Call (.Name "range" p) [a, b] [] pos) (iD g (iRng2M m m2)) := by
  refine PI.weak (pi_range2 hg hm (d_cons ha (d_cons hb d_nil hs2) (by rw [hs, hs2])) hs hs2) fun st H R h => ?_
  obtain ⟨z, r, S, sl, src, S', R0, e, q⟩ := h
  simp only [iRng2M, Option.bind_eq_some_iff] at e
  obtain ⟨⟨v, S1⟩, e1, ⟨w, S2⟩, e3, e2⟩ := e
  dsimp only at e2
  split at e2
  · rename_i i j
    split at e2
    · rename_i hj
      cases e2
      refine ⟨z, r, S, sl, [.int i, .int j], _, R0, by simp [esCons, esNil, e1, e3]; rfl, fun r1 H1 hv s1 sr1 rv => ?_⟩
      cases rv with
      | cons a b =>
        cases a
        cases b with
        | cons a b =>
          cases a
          cases b
          exact ⟨i, j, rfl, ⟨by omega, by omega, hj.2.2.1, by omega⟩, q r1 H1 _ s1 sr1 (it_rng (by rw [sizeLine_eq]; omega))⟩
    · cases e2
  · cases e2
theorem zipL_get : ∀ (xs ys : List Val) (i : Nat) (v : Val), (zipL xs ys)[i]? = some v → ∃ x y, xs[i]? = some x ∧ ys[i]? = some y ∧ v = .tup [x, y]
  | [], _, _, _, h => by simp [zipL] at h
  | _ :: _, [], _, _, h => by simp [zipL] at h
  | x :: xs, y :: ys, 0, v, h => by simp [zipL] at h; exact ⟨x, y, rfl, rfl, h.symm⟩
  | x :: xs, y :: ys, i + 1, v, h => by
    obtain ⟨a, b, h1, h2, h3⟩ := zipL_get xs ys i v (by simpa [zipL] using h)
    exact ⟨a, b, by simpa using h1, by simpa using h2, h3⟩
theorem zipL_len : ∀ (xs ys : List Val), (zipL xs ys).length = min xs.length ys.length
  | [], _ => by simp [zipL]
  | _ :: _, [] => by simp [zipL]
  | x :: xs, y :: ys => by simp [zipL, zipL_len xs ys, Nat.succ_min_succ]
theorem it_zip {r : List Addr} {H : Hp} {S : Sto} {a b : Addr} {xs ys : List Val} {vs ws : List V} (hK : g.K = X.K) (sr : SR g r H S) (h1 : SqT g.K H a vs) (h2 : xs.length ≤ sizeLine) (h3 : RVs g r H xs vs) (k1 : SqT g.K H b ws) (k3 : RVs g r H ys ws) : ItOk g r H (RZ.ItzT X.K a b) ⟨zipL xs ys, none⟩ := by
  refine ⟨by rw [zipL_len]; omega, fun z' r2 H2 S2 s zs sr2 _ => ?_⟩
  have h1' := s.seqT (g := g) sr h1
  have k1' := s.seqT (g := g) sr k1
  rw [hK] at h1' k1'
  refine ⟨fun i v hv => ?_, fun i hi => ?_⟩
  · obtain ⟨x, y, hx, hy, rfl⟩ := zipL_get _ _ _ _ hv
    obtain ⟨v, hv', rv⟩ := h3.get hx
    obtain ⟨w, hw, rw'⟩ := k3.get hy
    refine ⟨⟨vs, ws, v, w, h1', k1', hv', hw⟩, fun hq H3 q => ?_⟩
    obtain ⟨T, x', y', rfl, hT, rfl, g1, g2⟩ := q
    have e1 := g1 vs h1'
    have e2 := g2 ws k1'
    rw [hv'] at e1
    rw [hw] at e2
    cases e1
    cases e2
    refine ⟨fun c o hc => by rw [upd_ne (ne_of_none hc hT)]; exact hc, ?_⟩
    exact RV.newT sr2 hT (by show 2 ≤ sizeLine; decide) (.cons (rv.monoS s sr zs) (.cons (rw'.monoS s sr zs) .nil))
  · rw [zipL_len] at hi
    refine ⟨vs, ws, h1', k1', ?_⟩
    rw [← h3.length, ← k3.length]
    rcases Nat.le_total xs.length ys.length with q | q
    · left; omega
    · right; omega
/-- the reading of zip over two tuples -/
theorem di_zipT {e e2 : Expr} {m m2 : ME} {p tpos : Pos} {elts : List Expr} {kk : Nat} (hK : g.K = X.K) (hg : Gl X "zip") (hm : X.mg "zip" = none) (ha : PE X e (tD g m)) (hb : PE X e2 (tD g m2))
    (hs : starEach [e, e2] X.env = (false, eval e X.env) :: starEach [e2] X.env := by rfl) (hs2 : starEach [e2] X.env = (false, eval e2 X.env) :: starEach [] X.env := by rfl) (hpl : (backTo pos (starEach [e2] X.env)).any (·.1) = false := by rfl) :
    PI X (.Tuple elts kk tpos) (.Call (.Name "zip" p) [e, e2] [] pos) (iD g (iZipT m m2)) := by
  refine PI.weak (RZ.pi_zipA hg hm (d_cons ha (d_cons hb d_nil hs2) hs) hs hpl) fun st H R h => ?_
  obtain ⟨z, r, S, sl, src, S', R0, e, q⟩ := h
  simp only [iZipT, Option.bind_eq_some_iff, Option.map_eq_some_iff] at e
  obtain ⟨⟨v, S1⟩, e1, ⟨w, S2⟩, e3, xs, f1, ys, f2, f3⟩ := e
  cases f3
  dsimp only at e3 f1 f2 q
  refine ⟨z, r, S, sl, [v, w], S2, R0, by simp [esCons, esNil, e1, e3], fun r1 H1 hv s1 sr1 rv => ?_⟩
  cases rv with
  | cons a b =>
    cases b with
    | cons b c =>
      cases c
      obtain ⟨p, vs, rfl, h1, h2, h3⟩ := tupOf_at a f1
      obtain ⟨p', ws, rfl, k1, k2, k3⟩ := tupOf_at b f2
      have h1' := h1
      have k1' := k1
      rw [show (g.at z).K = X.K from hK] at h1' k1'
      exact ⟨_, _, _, _, rfl, .inr ⟨h1', k1', q r1 H1 _ s1 sr1 (it_zip (g := g.at z) hK sr1 h1 h2 h3 k1 k3)⟩⟩
end
end Mp
namespace Mp
open PySem PySem.Spec
      PyProof.Rows L2

/-! ### what a def leaves behind: its own lists are frozen, the store is as long as before -/
mutual
def fzV (S : Sto) (n : Nat) : Nat → Val → Option Val
  | 0, _ => none
  | k + 1, .ref i => if i < n then some (.ref i) else match S[i]? with
    | some (.lst xs) => (fzVs S n k xs).map .lst
    | _ => none
  | k + 1, .tup xs => (fzVs S n k xs).map .tup
  | k + 1, .ptp xs => (fzVs S n k xs).map .ptp
  | k + 1, .lst xs => (fzVs S n k xs).map .lst
  | _ + 1, .non => some .non
  | _ + 1, .bl b => some (.bl b)
  | _ + 1, .int b => some (.int b)
  | _ + 1, .str b => some (.str b)
  | _ + 1, .ty b => some (.ty b)
  | _ + 1, .fn b => some (.fn b)
  | _ + 1, .scr _ => none
def fzVs (S : Sto) (n : Nat) : Nat → List Val → Option (List Val)
  | 0, _ => none
  | _ + 1, [] => some []
  | k + 1, x :: xs => (fzV S n k x).bind fun y => (fzVs S n k xs).map fun ys => y :: ys
end
mutual
def Val.inB (n : Nat) : Val → Bool
  | .ref i => decide (i < n)
  | .tup xs => Val.inBs n xs
  | .ptp xs => Val.inBs n xs
  | .lst xs => Val.inBs n xs
  | .scr xs => Val.inBs n xs
  | _ => true
def Val.inBs (n : Nat) : List Val → Bool
  | [] => true
  | x :: xs => Val.inB n x && Val.inBs n xs
end
def SO.inB (n : Nat) : SO → Bool
  | .lst xs => Val.inBs n xs
  | .dK kvs => Val.inBs n (kvs.map (·.2))
  | .dN kvs => Val.inBs n (kvs.map fun p => ofK p.1) && Val.inBs n (kvs.map (·.2))
  | .lk _ => false
def leaveS (n : Nat) (v : Val) (S : Sto) : Res Val := if S.length = n then some (v, S) else if (S.take n).all (SO.inB n) then (fzV S n 40 v).map fun w => (w, S.take n) else none
abbrev MF := List Val → Sto → Res Val
def defM (keep : Bool) (body : MS) (n np : Nat) : MF := fun xs S => if xs.length = np then (body (xs.map some ++ List.replicate (n - np) none) S).bind fun p => match p.1 with
    | .ret v => if keep then some (v, p.2.2) else leaveS S.length v p.2.2
    | .nxt => if keep then some (.non, p.2.2) else leaveS S.length .non p.2.2
    | _ => none
  else none
def eCall (m : MF) (ms : MEs) : ME := fun sl S => (ms sl S).bind fun p => m p.1 p.2
/-- a def's promise: what the interpreter says -/
def spD (g : Gx) (m : MF) : Sp := fun vs H Q _ => ∃ z r S xs v S', SR (g.at z) r H S ∧ RVs (g.at z) r H xs vs ∧ m xs S = some (v, S') ∧
  ∀ r' H' hv, Step r H r' H' → SR (g.at z) r' H' S' → RV (g.at z) r' H' v hv → Q hv H'

section
variable {g : Gx}
mutual
theorem below_rv {r t : List Addr} {H : Hp} : ∀ {x : Val} {v : V}, RV g (r ++ t) H x v → Val.inB r.length x = true → RV g r H x v
  | _, _, .non, _ => .non
  | _, _, .bl b, _ => .bl b
  | _, _, .int i, _ => .int i
  | _, _, .str i, _ => .str i
  | _, _, .ty i, _ => .ty i
  | _, _, .fn h, _ => .fn h
  | _, _, .tup h hl hs, e => .tup h hl (below_rvs hs (by simpa [Val.inB] using e))
  | _, _, .ptp h hd hl hs, e => .ptp h hd hl (below_rvs hs (by simpa [Val.inB] using e))
  | _, _, .lst h hn hz hl hs, e => .lst h (fun q => hn (List.mem_append_left _ q)) hz hl (below_rvs hs (by simpa [Val.inB] using e))
  | _, _, .scr h hn hl hs, e => .scr h (fun q => hn (List.mem_append_left _ q)) hl (below_rvs hs (by simpa [Val.inB] using e))
  | _, _, .ref (n := n) h, e => .ref (by
      have hl : n < r.length := by simpa [Val.inB] using e
      rwa [List.getElem?_append_left hl] at h)
theorem below_rvs {r t : List Addr} {H : Hp} : ∀ {x : List Val} {v : List V}, RVs g (r ++ t) H x v → Val.inBs r.length x = true → RVs g r H x v
  | _, _, .nil, _ => .nil
  | _, _, .cons h hs, e => by
    simp only [Val.inBs, Bool.and_eq_true] at e
    exact .cons (below_rv h e.1) (below_rvs hs e.2)
end
theorem below_ro {r t : List Addr} {H : Hp} {a : Addr} {o : SO} {u : HO} (h : RO g (r ++ t) H a o u) (e : o.inB r.length = true) : RO g r H a o u := by
  cases h with
  | lst hl h => exact .lst hl (below_rvs h e)
  | dK h1 hl h2 => exact .dK h1 hl (below_rvs h2 e)
  | dN h1 hl h0 h2 =>
    simp only [SO.inB, Bool.and_eq_true] at e
    exact .dN h1 hl (below_rvs h0 e.1) (below_rvs h2 e.2)
  | lkK h => cases e
  | lkN => cases e
theorem fz_rv {r t : List Addr} {H : Hp} {S : Sto} (sr : SR g (r ++ t) H S) : ∀ (k : Nat), (∀ (x y : Val) (v : V), RV g (r ++ t) H x v → fzV S r.length k x = some y → RV g r H y v) ∧ (∀ (x y : List Val) (v : List V), RVs g (r ++ t) H x v → fzVs S r.length k x = some y → RVs g r H y v ∧ y.length = x.length)
  | 0 => ⟨fun x y v _ e => by simp [fzV] at e, fun x y v _ e => by simp [fzVs] at e⟩
  | k + 1 => by
    obtain ⟨ih1, ih2⟩ := fz_rv sr k
    constructor
    · intro x y v h e
      cases h with
      | non => simp [fzV] at e; subst e; exact .non
      | bl b => simp [fzV] at e; subst e; exact .bl b
      | int b => simp [fzV] at e; subst e; exact .int b
      | str b => simp [fzV] at e; subst e; exact .str b
      | ty b => simp [fzV] at e; subst e; exact .ty b
      | fn q => simp [fzV] at e; subst e; exact .fn q
      | scr => simp [fzV] at e
      | tup h1 h2 h3 =>
        simp only [fzV, Option.map_eq_some_iff] at e
        obtain ⟨ys, e1, rfl⟩ := e
        obtain ⟨q1, q2⟩ := ih2 _ _ _ h3 e1
        exact .tup h1 (by rw [q2]; exact h2) q1
      | ptp h0 h1 h2 h3 =>
        simp only [fzV, Option.map_eq_some_iff] at e
        obtain ⟨ys, e1, rfl⟩ := e
        obtain ⟨q1, q2⟩ := ih2 _ _ _ h3 e1
        exact .ptp h0 h1 (by rw [q2]; exact h2) q1
      | lst h1 h2 h3 h4 h5 =>
        simp only [fzV, Option.map_eq_some_iff] at e
        obtain ⟨ys, e1, rfl⟩ := e
        obtain ⟨q1, q2⟩ := ih2 _ _ _ h5 e1
        exact .lst h1 (fun q => h2 (List.mem_append_left _ q)) h3 (by rw [q2]; exact h4) q1
      | @ref n a h =>
        simp only [fzV] at e
        split at e
        · rename_i hl
          cases e
          rw [List.getElem?_append_left hl] at h
          exact .ref h
        · rename_i hl
          split at e
          · rename_i xs hx
            simp only [Option.map_eq_some_iff] at e
            obtain ⟨ys, e1, rfl⟩ := e
            obtain ⟨u, hu, ro⟩ := sr.at_ _ _ _ hx h
            cases ro with
            | lst hz hs =>
              obtain ⟨q1, q2⟩ := ih2 _ _ _ hs e1
              have hnr : a ∉ r := fun q => by
                have hd := (List.nodup_append.mp sr.nd).2.2
                rw [List.getElem?_append_right (by omega)] at h
                exact hd a q a (List.mem_of_getElem? h) rfl
              exact .lst hu hnr (fun q => sr.zr a q (List.mem_of_getElem? h)) (by rw [q2]; exact hz) q1
          · cases e
    · intro x y v h e
      cases h with
      | nil => simp [fzVs] at e; subst e; exact ⟨.nil, rfl⟩
      | cons h hs =>
        simp only [fzVs, Option.bind_eq_some_iff, Option.map_eq_some_iff] at e
        obtain ⟨z, e1, zs, e2, rfl⟩ := e
        obtain ⟨q1, q2⟩ := ih2 _ _ _ hs e2
        exact ⟨.cons (ih1 _ _ _ h e1) q1, by simp [q2]⟩
/-- behind a def -/
theorem leave_ok {r r' : List Addr} {H H' : Hp} {S S' S2 : Sto} {v w : Val} {hv : V} (sr0 : SR g r H S) (st : Step r H r' H') (sr : SR g r' H' S') (rv : RV g r' H' v hv) (e : leaveS S.length v S' = some (w, S2)) : ∃ r2, Step r H r2 H' ∧ SR g r2 H' S2 ∧ RV g r2 H' w hv := by
  unfold leaveS at e
  split at e
  · cases e
    exact ⟨r', st, sr, rv⟩
  · split at e
    · rename_i hb
      simp only [Option.map_eq_some_iff] at e
      obtain ⟨w', e1, e2⟩ := e
      cases e2
      obtain ⟨t, rfl⟩ := st.pre
      rw [← sr0.len] at e1 hb ⊢
      refine ⟨r, ⟨st.ext, ⟨[], by simp⟩, fun _ h => .inl h, st.frz⟩, ⟨?_, (List.nodup_append.mp sr.nd).1, sr.zat, fun p hp q => sr.zr p hp (List.mem_append_left _ q), fun i so a h1 h2 => ?_⟩, (fz_rv sr 40).1 _ _ _ rv e1⟩
      · have := sr.len
        simp at this ⊢
        omega
      · have hl : i < r.length := (List.getElem?_eq_some_iff.mp h2).1
        rw [List.getElem?_take_of_lt hl] at h1
        obtain ⟨u, hu, ro⟩ := sr.at_ i so a h1 (by rw [List.getElem?_append_left hl]; exact h2)
        refine ⟨u, hu, below_ro ro ?_⟩
        rw [List.all_eq_true] at hb
        exact hb so (List.mem_of_getElem? (i := i) (by rw [List.getElem?_take_of_lt hl]; exact h1))
    · cases e
theorem start_rep {N : List Str} {r : List Addr} {H : Hp} {S : Sto} {xs : List Val} {vs : List V} (sr : SR g r H S) (h : RVs g r H xs vs) : Rep g r H S (xs.map some ++ List.replicate (N.length - xs.length) none) (L2.start N vs) := by
  refine ⟨sr, ⟨by simp [L2.start, h.length], fun i v e => ?_⟩⟩
  by_cases hl : i < xs.length
  · rw [List.getElem?_append_left (by simpa using hl), List.getElem?_map] at e
    simp only [Option.map_eq_some_iff] at e
    obtain ⟨x, e1, e2⟩ := e
    cases e2
    obtain ⟨hv, q1, q2⟩ := h.get e1
    refine ⟨hv, ?_, q2⟩
    unfold L2.start
    rw [List.getElem?_append_left (by rw [List.length_map, ← h.length]; exact hl), List.getElem?_map, q1]
    rfl
  · rw [List.getElem?_append_right (by simpa using hl)] at e
    have := (List.getElem?_eq_some_iff.mp e).2
    simp at this
variable {P : Program} {w : World} {K : PySem.W.Frag}
      {mg : Str → Option Value} {base : Heap}
/-- THE RULE for a def -/
theorem ok_def {x : Str} {st : Stmt} {f : Addr} {fd : FuncData} {N ps : List Str} {k : Nat} {keep : Bool} {body : MS} {m : MF} (F : Fun K x x st f fd) (S : FnScope N ps (defScope st)) (hm : m = defM keep body N.length ps.length)
    (hbody : ∀ (cdv : Value) (A : Around) (outer : List Env) (s : Shared) (H : Hp) (E : XK), Room k (A.deeper (envOfC x (defScope st) s.heap.objs.size f cdv)) → PSs (cxOf CX0 P w K mg base N x (defScope st) f cdv A outer s H E).nox (defBody st) (tDS g body)) : FnOk P w K mg base CX0 (k + 1) f fd ps (spD g m) := by
  refine F.ok S (fun vs H Q E h => ?_) (fun cdv A outer s H vs Q E hr h => ⟨_, hbody cdv A outer s H E hr, ?_⟩)
  · obtain ⟨z, r, S, xs, v, S', sr, rx, e, q⟩ := h
    subst hm
    unfold defM at e
    split at e
    · rename_i hl
      rw [← rx.length]; exact hl
    · cases e
  · obtain ⟨z, r, S, xs, v, S', sr, rx, e, q⟩ := h
    subst hm
    unfold defM at e
    split at e
    · rename_i hl
      simp only [Option.bind_eq_some_iff] at e
      obtain ⟨⟨fl, sl', S1⟩, e1, e2⟩ := e
      rw [← hl] at e1
      refine ⟨z, r, S, _, fl, sl', S1, start_rep sr rx, e1, fun r1 H1 st1 s1 R1 => ?_⟩
      cases fl with
      | nxt =>
        dsimp only at e2
        cases keep with
        | true => cases e2; exact q r1 H1 _ s1 R1.sr .non
        | false =>
          obtain ⟨r2, a1, a2, a3⟩ := leave_ok sr s1 R1.sr (.non) e2
          exact q r2 H1 _ a1 a2 a3
      | ret v =>
        intro hv rv
        dsimp only at e2
        cases keep with
        | true => cases e2; exact q r1 H1 _ s1 R1.sr rv
        | false =>
          obtain ⟨r2, a1, a2, a3⟩ := leave_ok sr s1 R1.sr rv e2
          exact q r2 H1 _ a1 a2 a3
      | brk => cases e2
      | cnt => cases e2
    · cases e
end
section
variable {X : Cx} {g : Gx} {pos : Pos}
theorem d_call {x : Str} {e : Expr} {es : List Expr} {ms : MEs} {m : MF} {k j : Nat} {f : Addr} {fd : FuncData} {ps : List Str} {p : Pos} (F : FnOk X.prog X.w X.K X.mg X.base CX0 k f fd ps (spD g m)) (hr : Room j X.A) (hk : k ≤ j) (hg : Gl X x) (hm : X.mg x = some (.ref f)) (kp : PySem.W.keepIn X.K (.ref f) = true) (hb : Binds X.K fd ps [])
    (ha : PA X (e :: es) (tDs g ms)) (hdb : (x == ("__debug__" : Str)) = false := by decide) (he : starEach (e :: es) X.env = (false, eval e X.env) :: starEach es X.env := by rfl) (hpl : (backTo pos (starEach es X.env)).any (·.1) = false := by rfl) :
    PE X (.Call (.Name x p) (e :: es) [] pos) (tD g (eCall m ms)) := by
  refine PE.weak (pe_call F (hr.mono hk) hg hm kp hb .nil pass0 ha hdb he hpl) fun st H Q h => ?_
  obtain ⟨z, r, S, sl, v, S', R, e, q⟩ := h
  simp only [eCall, Option.bind_eq_some_iff] at e
  obtain ⟨⟨xs, S1⟩, e1, e2⟩ := e
  refine ⟨z, r, S, sl, xs, S1, R, e1, fun r1 H1 hv s1 sr1 rx => ?_⟩
  refine ⟨z, r1, S1, xs, v, S', sr1, by rw [List.append_nil]; exact rx, e2, fun r2 H2 hw s2 sr2 rv => q r2 H2 hw (s1.trans s2) sr2 rv⟩
theorem d_call0 {x : Str} {m : MF} {k j : Nat} {f : Addr} {fd : FuncData} {ps : List Str} {p : Pos} (F : FnOk X.prog X.w X.K X.mg X.base CX0 k f fd ps (spD g m)) (hr : Room j X.A) (hk : k ≤ j) (hg : Gl X x) (hm : X.mg x = some (.ref f)) (kp : PySem.W.keepIn X.K (.ref f) = true) (hb : Binds X.K fd ps [])
    (hdb : (x == ("__debug__" : Str)) = false := by decide) : PE X (.Call (.Name x p) [] [] pos) (tD g (eCall m esNil)) := by
  refine PE.weak (pe_call0 F (hr.mono hk) hg hm kp hb .nil pass0 hdb) fun st H Q h => ?_
  obtain ⟨z, r, S, sl, v, S', R, e, q⟩ := h
  simp only [eCall, esNil, Option.bind_eq_some_iff] at e
  obtain ⟨⟨xs, S1⟩, e1, e2⟩ := e
  cases e1
  exact ⟨z, r, S, [], v, S', R.sr, .nil, e2, fun r2 H2 hw s2 sr2 rv => q r2 H2 hw s2 sr2 rv⟩
end
end Mp
namespace Mp
open PySem PySem.Spec
      PyProof.Rows L2

theorem PE.or {X : Cx} {e : Expr} {t t' : TE} (h : PE X e t) (h' : PE X e t') : PE X e (fun st H Q => t st H Q ∨ t' st H Q) := ⟨fun pins s st H Q I q => q.elim (h.run pins s st H Q I) (h'.run pins s st H Q I)⟩
theorem PS.or {X : Cx} {e : Stmt} {t t' : TS} (h : PS X e t) (h' : PS X e t') : PS X e (fun D st H => t D st H ∨ t' D st H) := ⟨fun pins s st H D I q => q.elim (h.run pins s st H D I) (h'.run pins s st H D I)⟩

/-! ### index -/
def strAt (x : Str) (i : Int) : Option Val := if x.length ≤ sizeLine then (atI x.cps.toList i).map fun c => .str ⟨#[c]⟩ else none
def fIx (S : Sto) (a b : Val) : Option Val := match b with
  | .int i => match a with
    | .tup xs => atI xs i
    | .ptp xs => atI xs i
    | .scr xs => atI xs i
    | .str x => strAt x i
    | a => (lstOf S a).bind fun xs => atI xs i
  | _ => none
theorem RVs.atI {g : Gx} {r : List Addr} {H : Hp} {xs : List Val} {vs : List V} {i : Int} {x : Val} (h : RVs g r H xs vs) (e : atI xs i = some x) : ∃ v, L2.atI vs i = some v ∧ RV g r H x v := by
  unfold L2.atI at e ⊢
  rw [← h.length]
  simp only [Option.bind_eq_some_iff] at e
  obtain ⟨j, e1, e2⟩ := e
  obtain ⟨v, h1, h2⟩ := h.get e2
  exact ⟨v, by rw [e1]; exact h1, h2⟩
section
variable {X : Cx} {g : Gx} {pos : Pos}
theorem o_ix (hK : g.K = X.K) : IxR X (rG2 g fIx) := by
  intro value slice pins s st H x y v u Q I rx ry h hs
  obtain ⟨z, r, S, a, b, w, sr, ra, rb, e, q⟩ := h
  unfold fIx at e
  split at e
  · rename_i i
    cases rb
    have fin : ∀ (hv : V), RV (g.at z) r H w hv → Q hv H := fun hv rv => q r H hv (.refl r H) sr rv
    split at e
    · cases ra with
      | tup h1 h2 h3 =>
        obtain ⟨hv, e1, rv⟩ := h3.atI e
        rw [show (g.at z).K = X.K from hK] at h1
        exact ix_tup value slice pins s st H _ _ v u Q I rx ry ⟨_, _, _, _, rfl, rfl, h1, e1, fin _ rv⟩ hs
    · cases ra with
      | ptp h0 h1 h2 h3 =>
        obtain ⟨hv, e1, rv⟩ := h3.atI e
        exact ix_tup value slice pins s st H _ _ v u Q I rx ry ⟨_, _, _, _, rfl, rfl, .inl (.inr ⟨_, h0⟩), e1, fin _ rv⟩ hs
    · cases ra with
      | scr h1 h2 h3 h4 =>
        obtain ⟨hv, e1, rv⟩ := h4.atI e
        exact ix_list value slice pins s st H _ _ v u Q I rx ry ⟨_, _, _, _, rfl, rfl, .inl (.inr ⟨_, h1⟩), e1, fin _ rv⟩ hs
    · cases ra with
      | str x =>
        unfold strAt at e
        split at e
        · rename_i hz
          simp only [Option.map_eq_some_iff] at e
          obtain ⟨c, e1, rfl⟩ := e
          exact ix_str value slice pins s st H _ _ v u Q I rx ry ⟨_, _, _, rfl, rfl, hz, e1, fin _ (.str _)⟩ hs
        · cases e
    · simp only [Option.bind_eq_some_iff] at e
      obtain ⟨xs, e1, e2⟩ := e
      obtain ⟨p, vs, rfl, hp, _, hs'⟩ := lstOf_at sr ra e1
      obtain ⟨hv, e3, rv⟩ := hs'.atI e2
      exact ix_list value slice pins s st H _ _ v u Q I rx ry ⟨_, _, _, _, rfl, rfl, .inl (.inl hp), e3, fin _ rv⟩ hs
  · cases e
theorem d_ix {a b : Expr} {ma mb : ME} (hK : g.K = X.K) (ha : PE X a (tD g ma)) (hb : PE X b (tD g mb)) (hs : PlainIx b := by intro _ _; rfl) : PE X (.Subscript a b pos) (tD g (eOp2 fIx ma mb)) :=
  PE.weak (pe_ix (o_ix hK) ha hb hs) fun _ _ _ h => op2_read h

/-! ### slices -/
def cutG (xs : List Val) (lo hi : Option Int) : List Val := (xs.drop (HT.sIx xs.length 0 lo)).take (HT.sIx xs.length xs.length hi - HT.sIx xs.length 0 lo)
theorem RVs.drop {r : List Addr} {H : Hp} : ∀ {xs : List Val} {vs : List V} (k : Nat), RVs g r H xs vs → RVs g r H (xs.drop k) (vs.drop k)
  | _, _, 0, h => h
  | _, _, _ + 1, .nil => .nil
  | _, _, k + 1, .cons _ t => RVs.drop k t
theorem RVs.take {r : List Addr} {H : Hp} : ∀ {xs : List Val} {vs : List V} (k : Nat), RVs g r H xs vs → RVs g r H (xs.take k) (vs.take k)
  | _, _, 0, _ => .nil
  | _, _, _ + 1, .nil => .nil
  | _, _, k + 1, .cons h t => .cons h (RVs.take k t)
theorem RVs.cut {r : List Addr} {H : Hp} {xs : List Val} {vs : List V} (h : RVs g r H xs vs) (lo hi : Option Int) : RVs g r H (cutG xs lo hi) (cutV vs lo hi) := by
  unfold cutG cutV
  rw [h.length]
  exact (h.drop _).take _
theorem cutG_le (xs : List Val) (lo hi : Option Int) : (cutG xs lo hi).length ≤ xs.length := by
  unfold cutG
  rw [List.length_take,
        List.length_drop]
  omega
def sIx_all (n : Nat) (lo hi : Option Int) : Bool := decide (HT.sIx n 0 lo = 0 ∧ HT.sIx n n hi = n)
theorem cutG_all {xs : List Val} {lo hi : Option Int} (h : HT.sIx xs.length 0 lo = 0 ∧ HT.sIx xs.length xs.length hi = xs.length) : cutG xs lo hi = xs := by
  unfold cutG
  rw [h.1, h.2]
  simp
def fSl (S : Sto) (lo hi : Option Int) : Val → Option Val
  | .tup xs => some (.tup (cutG xs lo hi))
  | .scr xs => some (.lst (cutG xs lo hi))
  | .str x => if x.length ≤ sizeLine then some (.str (cutS x lo hi)) else none
  | a => (lstOf S a).map fun xs => .lst (cutG xs lo hi)
/-- a slice's part -/
abbrev MO := Sl → Sto → Option (Option Int × Sto)
def oNo : MO := fun _ S => some (none, S)
def oSo (m : ME) : MO := fun sl S => (m sl S).bind fun p => match p.1 with
  | .int i => some (some i, p.2)
  | _ => none
def tDo (g : Gx) (m : MO) : TO := fun st H Q => ∃ z r S sl o S', Rep (g.at z) r H S sl st ∧ m sl S = some (o, S') ∧ ∀ r' H', Step r H r' H' → SR (g.at z) r' H' S' → Q o H'
theorem PO.weak {e : Option Expr} {t t' : TO} (h : PO X e t) (w : ∀ st H Q, t' st H Q → t st H Q) : PO X e t' := ⟨fun pins s st H Q I q => h.run pins s st H Q I (w _ _ _ q)⟩
theorem do_no : PO X none (tDo g oNo) := PO.weak po_none fun st H Q ⟨z, r, S, sl, o, S', R, e, q⟩ => by
  cases e
  exact q r H (.refl r H) R.sr
theorem do_so {e : Expr} {m : ME} (h : PE X e (tD g m)) : PO X (some e) (tDo g (oSo m)) := PO.weak (po_some h) fun st H Q ⟨z, r, S, sl, o, S', R, e, q⟩ => by
  simp only [oSo, Option.bind_eq_some_iff] at e
  obtain ⟨⟨v, S1⟩, e1, e2⟩ := e
  refine ⟨z, r, S, sl, v, S1, R, e1, fun r1 H1 x st1 sr1 rx => ?_⟩
  dsimp only at e2
  split at e2
  · cases e2
    cases rx
    exact ⟨_, rfl, q r1 H1 st1 sr1⟩
  · cases e2
def eSl (m : ME) (a b : MO) : ME := fun sl S => (m sl S).bind fun p => (a sl p.2).bind fun l => (b sl l.2).bind fun h => (fSl h.2 l.1 h.1 p.1).map fun v => (v, h.2)
def rSlG (g : Gx) : V → Option Int → Option Int → Hp → VK → Prop := fun x lo hi H Q => ∃ z r S a v, SR (g.at z) r H S ∧ RV (g.at z) r H a x ∧ fSl S lo hi a = some v ∧
  ∀ r' H' hv, Step r H r' H' → SR (g.at z) r' H' S → RV (g.at z) r' H' v hv → Q hv H'
theorem o_sl (hK : g.K = X.K) : L2.SlR X (rSlG g) := by
  intro pins s st H x v vl vu lo hi sl Q I rx hs pl pu h
  obtain ⟨z, r, S, a, w, sr, ra, e, q⟩ := h
  have newL : ∀ (xs : List Val) (vs : List V), xs.length ≤ sizeLine → RVs (g.at z) r H xs vs → ∀ p, H p = none → (∀ r' H' hv, Step r H r' H' → SR (g.at z) r' H' S → RV (g.at z) r' H' (.lst (cutG xs lo hi)) hv → Q hv H') → Q (.ref p) (upd H p (.lst (cutV vs lo hi))) :=
    fun xs vs hz rv p hp q => q r _ (.ref p) (Step.new1 hp) (sr.beside hp) (RV.newL sr hp (Nat.le_trans (cutG_le _ _ _) hz) (rv.cut lo hi))
  unfold fSl at e
  split at e
  · cases e
    cases ra with
    | tup h1 h2 h3 =>
      have h1' := h1
      rw [show (g.at z).K = X.K from hK] at h1'
      refine sl_tupA pins s st H _ v vl vu lo hi sl Q I rx hs pl pu ⟨_, _, rfl, h1', fun hw => ?_, fun hw p hp => ?_⟩
      · rw [← h3.length] at hw
        rw [cutG_all hw] at q
        exact q r H _ (.refl r H) sr (.tup h1 h2 h3)
      · exact q r _ (.ref p) (Step.new1 hp) (sr.beside hp) (RV.newT sr hp (Nat.le_trans (cutG_le _ _ _) h2) (h3.cut lo hi))
  · cases e
    cases ra with
    | scr h1 h2 h3 h4 =>
      exact sl_list pins s st H _ v vl vu lo hi sl Q I rx hs pl pu ⟨_, _, rfl, .inl (.inr ⟨_, h1⟩), fun p hp => newL _ _ h3 h4 p hp q⟩
  · split at e
    · rename_i hz
      cases e
      cases ra
      exact sl_str pins s st H _ v vl vu lo hi sl Q I rx hs pl pu ⟨_, rfl, hz, q r H _ (.refl r H) sr (.str _)⟩
    · cases e
  · simp only [Option.map_eq_some_iff] at e
    obtain ⟨xs, e1, rfl⟩ := e
    obtain ⟨p, vs, rfl, hp, hz, hs'⟩ := lstOf_at sr ra e1
    exact sl_list pins s st H _ v vl vu lo hi sl Q I rx hs pl pu ⟨_, _, rfl, .inl (.inl hp), fun p hp => newL _ _ hz hs' p hp q⟩
theorem d_sl {e : Expr} {lo hi : Option Expr} {m : ME} {a b : MO} {p2 : Pos} (hK : g.K = X.K) (he : PE X e (tD g m)) (hl : PO X lo (tDo g a)) (hh : PO X hi (tDo g b)) : PE X (.Subscript e (.Slice lo hi none p2) pos) (tD g (eSl m a b)) := by
  refine PE.weak (pe_slice (o_sl hK) he hl hh) fun st H Q h => ?_
  obtain ⟨z, r, S, sl, v, S', R, e, q⟩ := h
  simp only [eSl, Option.bind_eq_some_iff, Option.map_eq_some_iff] at e
  obtain ⟨⟨x, S1⟩, e1, ⟨l, S2⟩, e2, ⟨u, S3⟩, e3, w, e4, e5⟩ := e
  cases e5
  refine ⟨z, r, S, sl, x, S1, R, e1, fun r1 H1 hx st1 sr1 rx => ⟨z, r1, S1, sl, l, S2, R.step st1 sr1, e2, fun r2 H2 st2 sr2 => ?_⟩⟩
  refine ⟨z, r2, S2, sl, u, S3, (R.step st1 sr1).step st2 sr2, e3, fun r3 H3 st3 sr3 => ?_⟩
  exact ⟨z, r3, S3, x, v, sr3, (rx.mono st2 sr1.own).mono st3 sr2.own, e4, fun r4 H4 hv st4 sr4 rv => q r4 H4 hv (((st1.trans st2).trans st3).trans st4) sr4 rv⟩

/-! ### comprehensions, as values -/
/-- a list that was made becomes one of the store's -/
theorem RVs.adopt {z r : List Addr} {H : Hp} {D : Addr} {ys : List V} (hD : H D = some (.lst ys)) {x : List Val} {v : List V} (h : RVs (g.at (D :: z)) r H x v) : RVs (g.at z) (r ++ [D]) H x v := by
  have nin : ∀ a, a ∉ r → a ≠ D → a ∉ r ++ [D] := fun a h1 h2 h => by
    rcases List.mem_append.mp h
          with q | q
    · exact h1 q
    · exact h2 (by simpa using q)
  exact RVs.rec (g := g.at (D :: z)) (r := r) (H := H) (motive_1 := fun x v _ => RV (g.at z) (r ++ [D]) H x v) (motive_2 := fun x v _ => RVs (g.at z) (r ++ [D]) H x v)
    .non .bl .int .str .ty (fun h => .fn h) (fun h hl _ ih => .tup h hl ih) (fun {a _ _} h hn hz' hl _ ih => .lst h (nin a hn fun e => hz' (by rw [e]; exact List.mem_cons_self)) (fun q => hz' (List.mem_cons_of_mem _ q)) hl ih)
    (fun {a ob _ _} h hn hl _ ih => .scr (o := ob) h (nin a hn fun e => by rw [e, hD] at h; cases h) hl ih) (fun {n a} h => .ref (by
      have hl : n < r.length := (List.getElem?_eq_some_iff.mp h).1
      rw [List.getElem?_append_left hl]; exact h)) (fun h hd hl _ ih => .ptp h hd hl ih) .nil (fun _ _ a b => .cons a b) h
theorem RO.adopt {z r : List Addr} {H : Hp} {D : Addr} {ys : List V} (hD : H D = some (.lst ys)) {a : Addr} {x : SO} {v : HO} (h : RO (g.at (D :: z)) r H a x v) : RO (g.at z) (r ++ [D]) H a x v := by
  cases h with
  | lst hl h => exact .lst hl (h.adopt hD)
  | dK h1 hl h2 => exact .dK h1 hl (h2.adopt hD)
  | dN h1 hl h0 h2 => exact .dN h1 hl (h0.adopt hD) (h2.adopt hD)
  | lkK h => cases h with | dK h1 hl h2 => exact .lkK (.dK h1 hl (h2.adopt hD))
  | lkN h1 hl h0 h2 => exact .lkN h1 hl (h0.adopt hD) (h2.adopt hD)
theorem SR.adopt {z r r0 : List Addr} {H H0 : Hp} {S : Sto} {D : Addr} {xs : List Val} {ys : List V} (sr : SR (g.at (D :: z)) r H S) (hD : H D = some (.lst ys)) (hl : xs.length ≤ sizeLine) (rv : RVs (g.at (D :: z)) r H xs ys) (h0 : H0 D = none) (s : Step r0 H0 r H) (hz : D ∉ z) :
    SR (g.at z) (r ++ [D]) H (S ++ [.lst xs]) ∧ Step r0 H0 (r ++ [D]) H := by
  have hn : D ∉ r := sr.zr D List.mem_cons_self
  refine ⟨⟨by simp [sr.len], ?_, fun p hp => sr.zat p (List.mem_cons_of_mem _ hp), fun p hp q => ?_, fun i so a h1 h2 => ?_⟩, ⟨s.ext, ?_, fun b hb => ?_, s.frz⟩⟩
  · rw [List.nodup_append]
    exact ⟨sr.nd, by simp, fun a ha b hb e => by
      have : b = D := by simpa using hb
      rw [e, this] at ha
      exact hn ha⟩
  · rcases List.mem_append.mp q
          with q | q
    · exact sr.zr p (List.mem_cons_of_mem _ hp) q
    · have e : p = D := by simpa using q
      rw [e] at hp
      exact hz hp
  · by_cases hi : i < S.length
    · rw [List.getElem?_append_left hi] at h1
      rw [List.getElem?_append_left (by rw [sr.len]; exact hi)] at h2
      obtain ⟨u, hu, ro⟩ := sr.at_ i so a h1 h2
      exact ⟨u, hu, ro.adopt hD⟩
    · rw [List.getElem?_append_right (by omega)] at h1
      rw [List.getElem?_append_right (by rw [sr.len]; omega)] at h2
      have hi' : i - S.length = 0 := by
        have := (List.getElem?_eq_some_iff.mp h1).1
        simp at this
        omega
      rw [hi'] at h1
      rw [sr.len, hi'] at h2
      simp at h1 h2
      subst h1 h2
      exact ⟨_, hD, .lst hl (rv.adopt hD)⟩
  · obtain ⟨t, rfl⟩ := s.pre
    exact ⟨t ++ [D], by simp⟩
  · rcases List.mem_append.mp hb with q | q
    · exact s.new b q
    · right
      have e : b = D := by simpa using q
      rw [e]; exact h0
theorem d_lc {elt tg iter : Expr} {ifs : List Expr} {scope : Scope} {own : List (Str × Nat)} {it : MI} {t : Tn} {tt : MT} {m : ME} (hK : g.K = X.K) (hc : X.calm = true) (hN : X.N.Nodup) (hi : PI X tg iter (iD g it)) (ok : BlkOk X.N X.env.scope scope own) (hm : ∀ i ∈ t.all, i ∈ own.map (·.2))
    (hg : ∀ (s : Shared) (H : Hp) (C : Addr) (cl : List (Str × Addr)) (fp : List Addr), PG (X.blk s H scope (compEnvC scope cl C X.env) fp) tg (t.t X.K)) (ht : ∀ (s : Shared) (H : Hp) (C : Addr) (cl : List (Str × Addr)) (fp : List Addr), PTs (X.blk s H scope (compEnvC scope cl C X.env) fp) ifs (tDt g tt))
    (he : ∀ (s : Shared) (H : Hp) (C : Addr) (cl : List (Str × Addr)) (fp : List Addr), PE (X.blk s H scope (compEnvC scope cl C X.env) fp) elt (tD g m)) (hs : ∀ x, foldedSetIterable iter X.env x = pure x := by intro _; rfl) :
    PE X (.ListComp elt [⟨tg, iter, ifs, 0⟩] scope pos) (tD g (eLc t it tt m (own.map (·.2)))) := by
  refine PE.weak (pe_lc hc hN hi ok hg ht he hs) fun st H Q h => ?_
  obtain ⟨z, r, S, sl, v, S', R, e, q⟩ := h
  have e' : ((it sl S).bind fun p => lcX t tt m p.1 (wipeS sl (own.map (·.2))) p.1.l p.2) = (match v with | .lst xs => some (xs, S') | _ => none) ∧ ∃ xs, v = .lst xs := by
    simp only [eLc, Option.bind_eq_some_iff] at e
    obtain ⟨p, e1, w, e2, e3⟩ := e
    cases e3
    exact ⟨by simp [e1, e2], _, rfl⟩
  obtain ⟨e', xs, rfl⟩ := e'
  refine lc_read hK hm R e' fun r' H' D ys st' sr' hD hnr hnz hn hl rv _ => ?_
  exact q r' H' (.ref D) st' sr' (.lst hD hnr hnz hl (RVs.fewz (g := g.at (D :: z)) (fun p hp => List.mem_cons_of_mem _ hp) rv))
theorem d_lcM {elt tg iter : Expr} {ifs : List Expr} {scope : Scope} {own : List (Str × Nat)} {it : MI} {t : Tn} {tt : MT} {m : ME} (hK : g.K = X.K) (hc : X.calm = true) (hN : X.N.Nodup) (hi : PI X tg iter (iD g it)) (ok : BlkOk X.N X.env.scope scope own) (hm : ∀ i ∈ t.all, i ∈ own.map (·.2))
    (hg : ∀ (s : Shared) (H : Hp) (C : Addr) (cl : List (Str × Addr)) (fp : List Addr), PG (X.blk s H scope (compEnvC scope cl C X.env) fp) tg (t.t X.K)) (ht : ∀ (s : Shared) (H : Hp) (C : Addr) (cl : List (Str × Addr)) (fp : List Addr), PTs (X.blk s H scope (compEnvC scope cl C X.env) fp) ifs (tDt g tt))
    (he : ∀ (s : Shared) (H : Hp) (C : Addr) (cl : List (Str × Addr)) (fp : List Addr), PE (X.blk s H scope (compEnvC scope cl C X.env) fp) elt (tD g m)) (hs : ∀ x, foldedSetIterable iter X.env x = pure x := by intro _; rfl) :
    PE X (.ListComp elt [⟨tg, iter, ifs, 0⟩] scope pos) (tD g (eLcM t it tt m (own.map (·.2)))) := by
  refine PE.weak (pe_lc hc hN hi ok hg ht he hs) fun st H Q h => ?_
  obtain ⟨z, r, S, sl, v, S', R, e, q⟩ := h
  simp only [eLcM, Option.bind_eq_some_iff] at e
  obtain ⟨p, e1, w, e2, e3⟩ := e
  have e' : ((it sl S).bind fun p => lcX t tt m p.1 (wipeS sl (own.map (·.2))) p.1.l p.2) = some (w.1, w.2) := by simp [e1, e2]
  cases e3
  refine lc_read hK hm R e' fun r' H' D ys st' sr' hD hnr hnz hn hl rv srz => ?_
  obtain ⟨sr2, st2⟩ := SR.adopt (g := g) srz hD hl rv hn st' hnz
  refine q _ _ (.ref D) st2 sr2 (.ref ?_)
  rw [← sr'.len, List.getElem?_append_right (Nat.le_refl _)]
  simp
end
end Mp
namespace Mp
open PySem PySem.Spec
      PyProof.Rows L2

/-! ### what a set asks of its members -/
/-- asked in s, the answer is one of these, and nothing changes -/
def Asks (P : Program) (w : World) (m : Sem Bool) (ok : Bool → Prop) (s : Shared) : Prop := ∀ (A : Around) (E : Value → Shared → Prop) (Q : Bool → Shared → Prop), (∀ b, ok b → Q b s) → wpAny (model P w) A m Q E s
section
variable {P : Program} {w : World}
theorem cls_leaf (n : Nat) {v : Value} (h : ∀ a, v ≠ .ref a) : ofAClassStatement n v = pure false := by
  cases v <;> first | (cases n <;> rfl) | exact absurd rfl (h _)
theorem cls_step {n m : Nat} {s : Shared} {a : Addr} {o : Obj} {its : Array Value} (e1 : s.heap.get? a = some o) (e2 : o.cls = .type "tuple") (e3 : o.data = .seq its m) (all : ∀ v ∈ its.toList, Asks P w (ofAClassStatement n v) (· = false) s) : Asks P w (ofAClassStatement (n + 1) (.ref a)) (· = false) s := by
  intro A E Q q
  have ty : s.TypeIs (.ref a) "tuple" := ⟨o, e1, e2⟩
  unfold ofAClassStatement
  refine wpAny_bind (wpAny_typeOf ty ?_)
  have k : (("tuple" : String) == "tuple") = true := by decide
  dsimp only
  simp only [k, if_true, Bool.not_true, Bool.false_eq_true, if_false]
  try refine wpAny_bind
        (wpAny_pure ?_)
  try simp only [Bool.not_true,
        Bool.false_eq_true, if_false]
  refine wpAny_bind (wpAny_seqItems e1 e3 ?_)
  dsimp only
  refine wpAny_bind (m := forIn its _ _) ?_
  rw [← Array.forIn_toList]
  refine wpAny_forIn_list _ (fun rest z s' => (z.1 = none ∧ s' = s) ∧ ∀ v ∈ rest, Asks P w (ofAClassStatement n v) (· = false) s) _ (fun v rest z s' hz => ?_) (fun z s' hz => ?_) _ _ ⟨⟨rfl, rfl⟩, all⟩
  · obtain ⟨⟨z1, rfl⟩, z2⟩ := hz
    refine wpAny_bind (z2 v List.mem_cons_self A E _ fun b hb => ?_)
    subst hb
    simp only
          [Bool.false_eq_true, if_false]
    exact wpAny_pure ⟨⟨rfl, rfl⟩, fun u hu => z2 u (List.mem_cons_of_mem _ hu)⟩
  · obtain ⟨z1, z2⟩ := z
    obtain ⟨⟨y1, rfl⟩, _⟩ := hz
    have y1 : z1 = none := y1
    subst y1
    exact wpAny_pure (q false rfl)
mutual
theorem cls_key : ∀ (k : NestedKey) (v : Value) (n : Nat) (s : Shared), NestedIs s.heap k v → k.depth ≤ n → Asks P w (ofAClassStatement n v) (· = false) s
  | .none, _, n, s, x, _ => by cases x; rw [Asks, cls_leaf n (by intro _ z; cases z)]; exact fun A E Q q => wpAny_pure (q _ rfl)
  | .num i, _, n, s, x, _ => by cases x <;> (rw [Asks, cls_leaf n (by intro _ z; cases z)]; exact fun A E Q q => wpAny_pure (q _ rfl))
  | .text y, _, n, s, x, _ => by cases x; rw [Asks, cls_leaf n (by intro _ z; cases z)]; exact fun A E Q q => wpAny_pure (q _ rfl)
  | .tup ks, _, 0, s, x, hn => by simp [NestedKey.depth] at hn
  | .tup ks, _, n + 1, s, x, hn => by
    cases x with
    | tup e1 e2 e3 hk => exact cls_step e1 e2 e3 (cls_keys ks _ n s hk (by simp only [NestedKey.depth] at hn; omega))
theorem cls_keys : ∀ (ks : List NestedKey) (vs : List Value) (n : Nat) (s : Shared), NestedAll s.heap ks vs → NestedKey.depthAll ks ≤ n → ∀ v ∈ vs, Asks P w (ofAClassStatement n v) (· = false) s
  | [], _, n, s, x, _, v, hv
        => by cases x; cases hv
  | k :: ks, _, n, s,
        x, hn, v, hv => by
    cases x with
    | cons x1 x2 =>
      simp only
            [NestedKey.depthAll] at hn
      rcases List.mem_cons.mp hv
            with rfl | hv
      · exact cls_key k _ n s x1 (by omega)
      · exact cls_keys ks _ n s x2 (by omega) v hv
end
theorem byv_step {n m : Nat} {s : Shared} {a : Addr} {o : Obj} {its : Array Value} (e1 : s.heap.get? a = some o) (e2 : o.cls = .type "tuple") (e3 : o.data = .seq its m) (all : ∀ v ∈ its.toList, Asks P w (hashByValue n v) (fun _ => True) s) : Asks P w (hashByValue (n + 1) (.ref a)) (fun _ => True) s := by
  intro A E Q q
  have ty : s.TypeIs (.ref a) "tuple" := ⟨o, e1, e2⟩
  unfold hashByValue
  refine wpAny_bind (wpAny_specialOf ty F.slot_tuple_hash.lookup ?_)
  refine wpAny_bind (m := seqItems? (.ref a)) (wpAny_seqItems e1 e3 ?_)
  refine wpAny_bind (m := forIn its _ _) ?_
  rw [← Array.forIn_toList]
  refine wpAny_forIn_list _ (fun rest z s' => s' = s ∧ ∀ v ∈ rest, Asks P w (hashByValue n v) (fun _ => True) s) _ (fun v rest z s' hz => ?_) (fun z s' hz => ?_) _ _ ⟨rfl, all⟩
  · obtain ⟨rfl, z2⟩ := hz
    refine wpAny_bind (z2 v List.mem_cons_self A E _ fun b _ => ?_)
    cases b with
    | true =>
      simp only [Bool.not_true,
            Bool.false_eq_true, if_false]
      exact wpAny_pure ⟨rfl, fun u hu => z2 u (List.mem_cons_of_mem _ hu)⟩
    | false =>
      simp only
            [Bool.not_false, if_true]
      refine wpAny_pure ?_
      exact wpAny_pure (q false True.intro)
  · obtain ⟨z1, z2⟩ := z
    obtain ⟨rfl, _⟩ := hz
    cases z1 with
    | none => exact wpAny_pure (q true True.intro)
    | some b => exact wpAny_pure (q b True.intro)
mutual
theorem byv_key : ∀ (k : NestedKey) (v : Value) (n : Nat) (s : Shared), NestedIs s.heap k v → k.depth ≤ n → Asks P w (hashByValue n v) (fun _ => True) s
  | .none, _, n, s, x, _ => by cases x; cases n <;> exact fun A E Q q => wpAny_pure (q _ True.intro)
  | .num i, _, n, s, x, _ => by cases x <;> cases n <;> exact fun A E Q q => wpAny_pure (q _ True.intro)
  | .text y, _, n, s, x, _ => by cases x; cases n <;> exact fun A E Q q => wpAny_pure (q _ True.intro)
  | .tup ks, _, 0, s, x, hn => by simp [NestedKey.depth] at hn
  | .tup ks, _, n + 1, s, x, hn => by
    cases x with
    | tup e1 e2 e3 hk => exact byv_step e1 e2 e3 (byv_keys ks _ n s hk (by simp only [NestedKey.depth] at hn; omega))
theorem byv_keys : ∀ (ks : List NestedKey) (vs : List Value) (n : Nat) (s : Shared), NestedAll s.heap ks vs → NestedKey.depthAll ks ≤ n → ∀ v ∈ vs, Asks P w (hashByValue n v) (fun _ => True) s
  | [], _, n, s, x, _, v, hv
        => by cases x; cases hv
  | k :: ks, _, n, s,
        x, hn, v, hv => by
    cases x with
    | cons x1 x2 =>
      simp only
            [NestedKey.depthAll] at hn
      rcases List.mem_cons.mp hv
            with rfl | hv
      · exact byv_key k _ n s x1 (by omega)
      · exact byv_keys ks _ n s x2 (by omega) v hv
end
/-- the member k is the tuple at a -/
abbrev Mem1 (P : Program) (w : World) (h : Heap) (k : NestedKey) (a : Addr) : Prop := (nestedKind P w).is h k a
theorem Mem1.kept {h h' : Heap} {k : NestedKey} {a : Addr} (x : Mem1 P w h k a) (hk : ∀ b o vs n, h.get? b = some o → o.data = .seq vs n → h'.get? b = some o) : Mem1 P w h' k a := ⟨NestedIs.at hk k _ x.1, x.2⟩
theorem Mem1.all {h h' : Heap} {k : NestedKey} {a : Addr} (x : Mem1 P w h k a) (hk : ∀ b o, h.get? b = some o → h'.get? b = some o) : Mem1 P w h' k a := x.kept fun b o _ _ e _ => hk b o e
/-- a set's object changes, the member doesn't -/
theorem Mem1.but {h h' : Heap} {k : NestedKey} {a b : Addr} {o : Obj} {es : Array (Int × Value)} {ep : Nat} {t : SetTable} (x : Mem1 P w h k b) (e1 : h.get? a = some o) (e2 : o.data = .set es ep t) (sb : Heap.SameBut a h h') : Mem1 P w h' k b := x.kept fun c oc vs n hc hd => by
  refine (sb.2 c fun z => ?_).trans hc
  rw [z, e1] at hc
  cases hc
  rw [e2] at hd
  cases hd
/-- the search shows nothing -/
theorem quiet_search {s : Shared} {k : NestedKey} {a : Addr} (x : Mem1 P w s.heap k a) {ys : List Value} (hy : ∀ y ∈ ys, ∃ k' c, y = Value.ref c ∧ Mem1 P w s.heap k' c) : Asks P w (searchCouldBeSeen (.ref a) ys) (· = false) s := by
  intro A E Q q
  unfold searchCouldBeSeen
  refine wpAny_bind ?_
  refine wpAny_forIn_list _ (fun rest z s' => (z.1 = none ∧ s' = s) ∧ ∀ y ∈ rest, ∃ k' c, y = Value.ref c ∧ Mem1 P w s.heap k' c) _ (fun v rest z s' hz => ?_) (fun z s' hz => ?_) _ _ ⟨⟨rfl, rfl⟩, hy⟩
  · obtain ⟨⟨_, rfl⟩, z2⟩ := hz
    obtain ⟨k', c, rfl, hc⟩ := z2 v List.mem_cons_self
    dsimp only
    by_cases very : (a == c || (carriedByValue (.ref a) && carriedByValue (.ref c))) = true
    · refine wp_if_pos very ?_
      exact wpAny_pure ⟨⟨rfl, rfl⟩, fun u hu => z2 u (List.mem_cons_of_mem _ hu)⟩
    · refine wp_if_neg very ?_
      refine wpAny_bind ((nestedKind P w).quiet x ?_)
      simp only [Bool.not_true,
            Bool.false_eq_true, if_false]
      refine wpAny_bind ((nestedKind P w).quiet hc ?_)
      simp only [Bool.not_true,
            Bool.false_eq_true, if_false]
      refine wpAny_bind (cls_key k _ 8 _ x.1 x.2 A E _ fun b1 hb1 => ?_)
      subst hb1
      simp only
            [Bool.false_eq_true, if_false]
      refine wpAny_bind (cls_key k' _ 8 _ hc.1 hc.2 A E _ fun b2 hb2 => ?_)
      subst hb2
      simp only
            [Bool.false_eq_true, if_false]
      exact wpAny_pure ⟨⟨rfl, rfl⟩, fun u hu => z2 u (List.mem_cons_of_mem _ hu)⟩
  · obtain ⟨z1, z2⟩ := z
    obtain ⟨⟨y1, rfl⟩, _⟩ := hz
    have y1 : z1 = none := y1
    subst y1
    exact wpAny_pure (q false rfl)
end
end Mp
namespace Mp
open PySem PySem.Spec
      PyProof.Rows L2

/-! ### a set of nested tuples, by its table -/
abbrev Row := Addr × NestedKey
abbrev nh (w : World) (p : Row) : Int := p.2.hash w
def rowsN (w : World) (L : List Row) : List (Int × Value) := L.map fun p => (nh w p, Value.ref p.1)
structure SetN (P : Program) (w : World) (h : Heap) (a : Addr) (L : List Row) (es : Array (Int × Value)) (ep : Nat) (t : SetTable) : Prop where
  ob : ∃ o, h.get? a = some o
        ∧ o.ExactSet ∧ o.data = .set es ep t
  rows : es.toList = rowsN w L
  tab : TabOk t (L.map (nh w))
  nd : (L.map (·.2)).Nodup
  mem : ∀ p ∈ L, Mem1 P w h p.2 p.1
  led : w.params.followText "set-order"
        = true ∨ t.led = true
  room : L.length
        * 5 < t.mask * 3
  few : L.length < 64
theorem rowsN_length (w : World) (L : List Row) : (rowsN w L).length = L.length := by unfold rowsN; simp
theorem size_rows {w : World} {L : List Row} {es : Array (Int × Value)} (h : es.toList = rowsN w L) : es.size = L.length := by
  rw [← rowsN_length w L, ← h, Array.length_toList]
theorem fits_rows {t : SetTable} {n : Nat} (h1 : t.place.size = n) (h2 : t.dummies = #[]) (h3 : n ≤ t.mask) : t.fits n = true := by
  unfold SetTable.fits
        SetTable.fill
  rw [h2]
  simp [h1, h3]
theorem row_at {w : World} {L : List Row} {es : Array (Int × Value)} (h : es.toList = rowsN w L) {i : Nat} {p : Row} (e : L[i]? = some p) : es[i]? = some (nh w p, Value.ref p.1) := by
  rw [← Array.getElem?_toList, h]
  simp [rowsN, e]

section
variable {P : Program} {w : World} {A : Around} {E : Value → Shared → Prop} {s : Shared} {a : Addr} {L : List Row} {es : Array (Int × Value)} {ep : Nat} {t : SetTable}
theorem SetN.size (R : SetN P w s.heap a L es ep t) : es.size = L.length := size_rows R.rows
theorem SetN.pl (R : SetN P w s.heap a L es ep t) : t.place.toList.length = L.length := by
  have := R.tab.sz
  simpa using this
theorem SetN.fits (R : SetN P w s.heap a L es ep t) : t.fits es.size = true := by
  have h1 := R.tab.sz
  have h2 := R.room
  rw [R.size]
  exact fits_rows (by simpa using h1) R.tab.dm (by omega)
theorem odd_mask {t : SetTable} (h : MaskOk t.mask) : ¬ t.gaveWay = true := by
  unfold SetTable.gaveWay
  rcases h with e | e | e <;> rw [e] <;> decide

theorem way_shift (m : Nat) (h : Int) (c q : Nat) : (nth m (nth m (runAt m (SetTable.bits h % (m + 1)) (SetTable.bits h)) c) q).j = way m h (c + q) := by
  rw [← nth_add]
theorem nth_plain (m : Nat) : ∀ (n : Nat) (p : SetTable.Probe), p.dummy = none → (nth m p n).dummy = none
  | 0, _, h => h
  | n + 1, p, h => nth_plain m n (adv m p) (by unfold adv; split <;> exact h)

/-- from the c-th step on -/
theorem look_from (R : SetN P w s.heap a L es ep t) {x : Addr} {k : NestedKey} (hx : Mem1 P w s.heap k x) (hu : A.units + 8 < cLine) {K : Nat} (hKf : K < 10 * SetTable.turns t.mask)
    (hK : way t.mask (k.hash w) K ∉ t.place.toList) (hKb : ∀ c, c < K → way t.mask (k.hash w) c ∈ t.place.toList) {Q : SetFound → Shared → Prop}
    (yes : k ∈ L.map (·.2) → Q (.there none) s) (no : k ∉ L.map (·.2) → Q (.free (way t.mask (k.hash w) K) false) s) :
    ∀ (f c : Nat) (stand : Option SetTable.Probe), stand.getD (t.probeStart (k.hash w)) = nth t.mask (runAt t.mask (SetTable.bits (k.hash w) % (t.mask + 1)) (SetTable.bits (k.hash w))) c → c ≤ K → K - c < f →
      (∀ (i : Nat) (p : Row), L[i]? = some p → p.2 = k → ∃ c', c ≤ c' ∧ c' < K ∧ t.place.toList[i]? = some (way t.mask (k.hash w) c')) →
      wpAny (model P w) A (setSearchFrom a (.ref x) (k.hash w) true f stand) Q E s := by
  intro f
  induction f with
  | zero => intro c _ _ _ h; omega
  | succ f ih =>
    intro c stand hst hc hf hre
    obtain ⟨o, e1, e2, e3⟩ := R.ob
    have same : t.sameMemory t.moves t.mask = some true := by unfold SetTable.sameMemory; simp
    have hashAt : ∀ (i : Nat) (p : Row), L[i]? = some p → ((es[i]?.map (·.1)).getD 0) = nh w p := fun i p hp => by rw [row_at R.rows hp]; rfl
    rw [setSearchFrom_succ]
    refine wpAny_bind (wpAny_setState_of e1 e3 R.fits ?_)
    dsimp only
    refine wp_if_neg (odd_mask R.tab.mok) ?_
    try refine wpAny_bind
          (wpAny_pure ?_)
    rcases go_spec t R.tab.ris R.tab.dm (fun i => (es[i]?.map (·.1)).getD 0) (k.hash w) (10 * SetTable.turns t.mask) (K - c) (nth t.mask (runAt t.mask (SetTable.bits (k.hash w) % (t.mask + 1)) (SetTable.bits (k.hash w))) c)
      (nth_plain _ _ _ rfl) (by omega) (fun q hq => by rw [way_shift]; exact hKb _ (by omega)) (by rw [way_shift, show c + (K - c) = K by omega]; exact hK) with ⟨q, i, hq, hi, hh, hno, hpr⟩ | ⟨hno, hpr⟩
    · have hpr' : t.probe (fun i => (es[i]?.map (·.1)).getD 0) (k.hash w) (stand.getD (t.probeStart (k.hash w))) = some (.candidate (way t.mask (k.hash w) (c + q)) i (nth t.mask (runAt t.mask (SetTable.bits (k.hash w) % (t.mask + 1)) (SetTable.bits (k.hash w))) (c + (q + 1)))) := by
        rw [hst, ← way_shift, nth_add]
        exact hpr
      rw [hpr']
      dsimp only
      rw [way_shift] at hi
      have hil : i < L.length := by
        rw [← R.pl]
        exact (List.getElem?_eq_some_iff.mp hi).1
      obtain ⟨p, hp⟩ : ∃ p, L[i]? = some p := ⟨_, List.getElem?_eq_getElem hil⟩
      have pm : p ∈ L := List.mem_of_getElem? hp
      have hsl : t.slot (way t.mask (k.hash w) (c + q)) = .live i := slot_live R.tab.ris hi
      have rest : wpAny (model P w) A (searchRest a (.ref x) (k.hash w) true f es t (way t.mask (k.hash w) (c + q)) i (nth t.mask (runAt t.mask (SetTable.bits (k.hash w) % (t.mask + 1)) (SetTable.bits (k.hash w))) (c + (q + 1)))) Q E s := by
        unfold searchRest
        rw [row_at R.rows hp]
        dsimp only
        refine wpAny_bind (wpAny_holding ((nestedKind P w).eqBool hu (R.mem p pm) hx ?_))
        refine wpAny_bind (wpAny_setState_of e1 e3 R.fits ?_)
        dsimp only
        by_cases hkk : p.2 = k
        · refine wp_if_pos (by simp [hkk]) (wpAny_pure (yes ?_))
          rw [← hkk]
          exact List.mem_map_of_mem pm
        · refine wp_if_neg
                (by simp [hkk]) ?_
          try refine wpAny_bind
                (wpAny_pure ?_)
          rw [same]
          dsimp only
          simp only [if_true, hsl, row_at R.rows hp]
          refine wpAny_bind (wpAny_isSame_ref_self
                (wpAny_bind (wpAny_pure ?_)))
          simp only [if_true]
          refine wp_if_neg (by simp [hkk]) (ih (c + (q + 1)) _ rfl (by omega) (by omega) fun i0 p0 h0 hk0 => ?_)
          obtain ⟨c', a1, a2, a3⟩
                := hre i0 p0 h0 hk0
          refine ⟨c', ?_, a2, a3⟩
          rcases Nat.lt_trichotomy c' (c + q) with z | z | z
          · exact absurd ((hashAt i0 p0 h0).trans (congrArg (NestedKey.hash w) hk0)) (hno (c' - c) i0 (by omega) (by rw [way_shift, show c + (c' - c) = c' by omega]; exact a3))
          · rw [z] at a3
            have s0 := slot_live
                  R.tab.ris a3
            rw [hsl] at s0
            cases s0
            rw [hp] at h0
            cases h0
            exact absurd hk0 hkk
          · omega
      by_cases hl : t.led = true
      · refine wp_if_neg
              (by simp [hl]) ?_
        try refine wpAny_bind
              (wpAny_pure ?_)
        exact rest
      · refine wp_if_pos
              (by simp [hl]) ?_
        refine wpAny_bind (quiet_search hx (fun y hy => ?_) A E _ fun b hb => ?_)
        · obtain ⟨e, he, rfl⟩ := List.mem_map.mp hy
          have he2 : e ∈ es.toList := by
            have : e ∈ es ∧ e.1 = k.hash w := by simpa using he
            simpa using this.1
          rw [R.rows] at he2
          obtain ⟨p2, hp2, rfl⟩ := List.mem_map.mp he2
          exact ⟨p2.2, p2.1, rfl, R.mem p2 hp2⟩
        · subst hb
          refine wp_if_neg (by decide) ?_
          try refine wpAny_bind
                (wpAny_pure ?_)
          exact rest
    · have hpr' : t.probe (fun i => (es[i]?.map (·.1)).getD 0) (k.hash w) (stand.getD (t.probeStart (k.hash w))) = some (.empty (way t.mask (k.hash w) K) none) := by
        have ew : way t.mask (k.hash w) K = (nth t.mask (nth t.mask (runAt t.mask (SetTable.bits (k.hash w) % (t.mask + 1)) (SetTable.bits (k.hash w))) c) (K - c)).j := by rw [way_shift, show c + (K - c) = K by omega]
        rw [hst, ew]
        exact hpr
      rw [hpr']
      dsimp only
      refine wpAny_pure (no fun hm => ?_)
      obtain ⟨p0, h0, hk0⟩
            := List.mem_map.mp hm
      obtain ⟨i0, hi0⟩ := List.getElem?_of_mem h0
      obtain ⟨c', a1, a2, a3⟩ := hre i0 p0 hi0 hk0
      exact hno (c' - c) i0 (by omega) (by rw [way_shift, show c + (c' - c) = c' by omega]; exact a3) ((hashAt i0 p0 hi0).trans (congrArg (NestedKey.hash w) hk0))
theorem look_at (R : SetN P w s.heap a L es ep t) {x : Addr} {k : NestedKey} (hx : Mem1 P w s.heap k x) (hu : A.units + 8 < cLine) {Q : SetFound → Shared → Prop} (yes : k ∈ L.map (·.2) → Q (.there none) s)
    (no : ∀ K, k ∉ L.map (·.2) → way t.mask (k.hash w) K ∉ t.place.toList → (∀ c, c < K → way t.mask (k.hash w) c ∈ t.place.toList) → Q (.free (way t.mask (k.hash w) K) false) s) :
    wpAny (model P w) A (setSearch a (.ref x) (k.hash w) true) Q E s := by
  have hroom := R.room
  obtain ⟨K, hKf, hK, hKb⟩ := R.tab.first (by rw [List.length_map]; omega) (k.hash w)
  have small : K < 99999 := by
    have : SetTable.turns t.mask ≤ 142 := by
      unfold SetTable.turns
      rcases R.tab.mok
            with e | e | e <;> omega
    omega
  unfold setSearch
  refine look_from R hx hu hKf hK hKb yes (fun n => no K n hK hKb) _ 0 none rfl (Nat.zero_le _) (by omega) fun i p hp hk => ?_
  have hil : i <
        t.place.toList.length := by
    rw [R.pl]
    exact (List.getElem?_eq_some_iff.mp hp).1
  obtain ⟨c, hc, e⟩ := R.tab.before hK (i := i) (by rw [List.getElem?_map, hp, ← hk]; rfl) (List.getElem?_eq_getElem hil)
  exact ⟨c, Nat.zero_le _, hc, by rw [e, List.getElem?_eq_getElem hil]⟩
end
end Mp
namespace Mp
open PySem PySem.Spec
      PyProof.Rows L2

theorem fm_take {α : Type} (L : List α) : (List.range L.length).filterMap (fun i => L[i]?) = L := by
  induction L with
  | nil => rfl
  | cons x L ih =>
    rw [List.length_cons, List.range_succ_eq_map, List.filterMap_cons, List.filterMap_map]
    exact congrArg (x :: ·) ih
section
variable {P : Program} {w : World} {A : Around} {E : Value → Shared → Prop} {s : Shared} {a : Addr} {L : List Row} {es : Array (Int × Value)} {ep : Nat} {t : SetTable}
/-- the rows in another order -/
theorem rows_order {order : Array Nat} (hr : es.toList = rowsN w L) (hp : order.toList.Perm (List.range L.length)) :
    ∃ L2, (order.filterMap (es[·]?)).toList = rowsN w L2 ∧ L2.Perm L ∧ L2.map (nh w) = order.toList.map fun i => (es.map (·.1)).getD i 0 := by
  have key : ∀ l : List Nat, (∀ i ∈ l, i < L.length) → l.filterMap (fun i => es[i]?) = rowsN w (l.filterMap fun i => L[i]?) ∧ (l.filterMap fun i => L[i]?).map (nh w) = l.map fun i => (es.map (·.1)).getD i 0 := by
    intro l
    induction l with
    | nil => exact fun _ => ⟨rfl, rfl⟩
    | cons i l ih =>
      intro hl
      obtain ⟨x1, x2⟩ := ih fun j hj => hl j (List.mem_cons_of_mem _ hj)
      have hi := List.getElem?_eq_getElem (hl i List.mem_cons_self)
      have he := row_at hr hi
      rw [List.filterMap_cons_some he, List.filterMap_cons_some hi, x1]
      refine ⟨rfl, ?_⟩
      rw [List.map_cons, List.map_cons, x2, Array.getD_eq_getD_getElem?, Array.getElem?_map, he]
      rfl
  obtain ⟨x1, x2⟩ := key order.toList fun i hi => List.mem_range.mp (hp.mem_iff.mp hi)
  refine ⟨_, by rw [Array.toList_filterMap]; exact x1, ?_, x2⟩
  have := hp.filterMap fun i => L[i]?
  rwa [fm_take] at this
/-- laid anew -/
theorem again_at {o : Obj} (e1 : s.heap.get? a = some o) (e2 : o.ExactSet) (e3 : o.data = .set es ep t) (hr : es.toList = rowsN w L) (hz : t.place.size = L.length) (hd : t.dummies = #[]) (hm : L.length ≤ t.mask)
    (nd : (L.map (·.2)).Nodup) (mem : ∀ p ∈ L, Mem1 P w s.heap p.2 p.1) (ld : w.params.followText "set-order" = true ∨ t.led = true) (few : L.length < 64) {n M : Nat}
    (n1 : SetTable.sizeAbove n - 1 = M) (n2 : MaskOk M) (n3 : SetTable.sizeAbove n ≤ 128) (n4 : L.length * 5 < M * 3) {Q : Unit → Shared → Prop}
    (q : ∀ h' L' es' ep' t', Heap.SameBut a s.heap h' → SetN P w h' a L' es' ep' t' → L'.Perm L → Q () { s with heap := h' }) : wpAny (model P w) A (setRelay a n) Q E s := by
  have hs := size_rows hr
  obtain ⟨t', order, r1, r2, r3, r4, r5, r6, r7⟩ := relaid_ok t (hs := es.map (·.1)) (wanted := n) n1 n2 (by rw [Array.size_map, hs]; omega)
  rw [Array.size_map, hs] at r2
  obtain ⟨L2, o1, o2, o3⟩ := rows_order hr r2
  rw [← o3] at r3
  have hs2 : (order.filterMap (es[·]?)).size = es.size := by rw [size_rows o1, hs, o2.length_eq]
  rw [setRelay_eq]
  refine wpAny_bind (wpAny_setState_of e1 e3 (by rw [hs]; exact fits_rows hz hd hm) ?_)
  dsimp only
  refine wp_if_neg
        (by rw [sizeLine_eq]; omega) ?_
  try refine wpAny_bind
        (wpAny_pure ?_)
  rw [r1]
  dsimp only
  refine wpAny_bind (wp_if_neg (by rw [hs2]; simp) ?_)
  try refine wpAny_bind
        (wpAny_pure ?_)
  refine wpAny_pure ?_
  dsimp only
  have sb : Heap.SameBut a s.heap (s.heap.update a (Obj.putSet
        (order.filterMap (es[·]?)) t')) := Heap.SameBut.update ..
  refine wpAny_storeSet_of e1 e3 (q _ L2 _ (ep + 1) t' sb ⟨⟨_, store_at e1 e3, ⟨e2.1, e2.2.1, e2.2.2⟩, rfl⟩, o1, r3, (o2.map (·.2)).nodup_iff.mpr nd, fun p hp => (mem p (o2.mem_iff.mp hp)).but e1 e3 sb, by rw [r5]; exact ld, by rw [o2.length_eq, r4]; exact n4, by rw [o2.length_eq]; exact few⟩ o2) (by rw [hs2, hs, sizeLine_eq]; omega)

theorem tab_plain {t : SetTable} {hs : List Int} (T : TabOk t hs) (b : Bool) : TabOk { t with plain := b } hs := ⟨T.ris, T.dm, T.sz, T.mok, T.bd, T.reach⟩
/-- one more member -/
theorem put_at (R : SetN P w s.heap a L es ep t) {x : Addr} {k : NestedKey} (hx : Mem1 P w s.heap k x) (hu : A.units + 8 < cLine) (hfew : k ∉ L.map (·.2) → L.length + 1 < 64) {Q : Bool → Shared → Prop}
    (q : ∀ b h' L' es' ep' t', Heap.SameBut a s.heap h' → SetN P w h' a L' es' ep' t' → (k ∈ L.map (·.2) → L' = L) → (k ∉ L.map (·.2) → L'.Perm ((x, k) :: L)) → Q b { s with heap := h' }) :
    wpAny (model P w) A (setAddHashed a (.ref x) (k.hash w)) Q E s := by
  obtain ⟨o, e1, e2, e3⟩ := R.ob
  have hs := R.size
  have hroom := R.room
  unfold setAddHashed
  refine wpAny_holding ?_
  show wpAny _ _ (setAddHashedIn a (.ref x) (k.hash w) (99999 + 1)) _ _ _
  rw [setAddHashedIn_succ]
  refine wpAny_bind (wpAny_setState_of e1 e3 R.fits ?_)
  dsimp only
  refine wp_if_neg
        (by simp [byScan, Value.scannable]) ?_
  try refine wpAny_bind
        (wpAny_pure ?_)
  refine wpAny_bind (look_at R hx hu (fun hm => ?_) fun K hm hK hb => ?_)
  · exact wpAny_pure (q false s.heap L es ep t (Heap.SameBut.refl a s.heap) R (fun _ => rfl) fun z => absurd hm z)
  · dsimp only
    refine wpAny_bind (wpAny_setState_of e1 e3 R.fits ?_)
    dsimp only
    obtain ⟨p1, p2, p3, p4, p5, p6, p7, p8, p9⟩ := R.tab.put hK hb
    have hfew := hfew hm
    generalize hpt : t.put (way t.mask (k.hash w) K) = pt at p1 p3 p4 p5 p6 p7 p8 p9 ⊢
    obtain ⟨t1, at_⟩ := pt
    dsimp only at p1 p3 p4 p5 p6 p7 p8 p9 ⊢
    subst p1
    have pm := put_perm L (SetTable.below t.place (way t.mask (k.hash w) K)) (x, k)
    have hin : (SetTable.insertAt es (SetTable.below t.place (way t.mask (k.hash w) K)) (k.hash w, Value.ref x)).toList = rowsN w (L.take (SetTable.below t.place (way t.mask (k.hash w) K)) ++ (x, k) :: L.drop (SetTable.below t.place (way t.mask (k.hash w) K))) := by
      rw [SetTable.toList_insertAt, R.rows]
      simp [rowsN]
    have hhs : (L.map (nh w)).take (SetTable.below t.place (way t.mask (k.hash w) K)) ++ k.hash w :: (L.map (nh w)).drop (SetTable.below t.place (way t.mask (k.hash w) K)) = (L.take (SetTable.below t.place (way t.mask (k.hash w) K)) ++ (x, k) :: L.drop (SetTable.below t.place (way t.mask (k.hash w) K))).map (nh w) := by simp
    rw [hhs] at p3
    generalize SetTable.insertAt es (SetTable.below t.place (way t.mask (k.hash w) K)) (k.hash w, Value.ref x) = es1 at hin ⊢
    generalize L.take (SetTable.below t.place (way t.mask (k.hash w) K)) ++ (x, k) :: L.drop (SetTable.below t.place (way t.mask (k.hash w) K)) = L1 at pm p3 hin
    have hlen : L1.length = L.length + 1 := pm.length_eq
    have hs1 : es1.size = L.length + 1 := by rw [size_rows hin, hlen]
    have nd1 : (L1.map (·.2)).Nodup := (pm.map (·.2)).nodup_iff.mpr (List.nodup_cons.mpr ⟨hm, R.nd⟩)
    have go : ∀ tb : SetTable, TabOk tb (L1.map (nh w)) → tb.mask = t.mask → tb.led = t.led → tb.fill = L.length + 1 →
        wpAny (model P w) A (do storeSet a es1 tb; if (!false && tb.tooFull) = true then do { setRelay a (SetTable.grown (es.size + 1)); pure true } else pure true) Q E s := fun tb T b1 b2 b3 => by
      have sb : Heap.SameBut a s.heap (s.heap.update a (Obj.putSet es1 tb)) := Heap.SameBut.update ..
      have o1 := store_at (es' := es1) (t' := tb) e1 e3
      refine wpAny_bind (wpAny_storeSet_of e1 e3 ?_ (by rw [hs1, sizeLine_eq]; omega))
      generalize s.heap.update a (Obj.putSet es1 tb) = h1 at sb o1 ⊢
      have mem1 : ∀ p ∈ L1, Mem1 P w h1 p.2 p.1 := fun p hp => by
        rcases List.mem_cons.mp (pm.mem_iff.mp hp) with rfl | hp
        · exact hx.but e1 e3 sb
        · exact (R.mem p hp).but e1 e3 sb
      have ld1 : w.params.followText "set-order" = true ∨ tb.led = true := by rw [b2]; exact R.led
      by_cases full : tb.tooFull = true
      · refine wp_if_pos (by simp [full]) ?_
        have hf : t.mask * 3 ≤ (L.length + 1) * 5 := by
          have h := full
          unfold SetTable.tooFull at h
          rw [decide_eq_true_eq, b3, b1] at h
          exact h
        have sz1 : tb.place.size = L1.length := by
          have := T.sz
          simpa using this
        have two : (t.mask = 7 ∧ L.length = 4) ∨ (t.mask = 31 ∧ L.length = 18) := by rcases R.tab.mok with e | e | e <;> omega
        refine wpAny_bind ?_
        rw [hs]
        rcases two with ⟨m1, m2⟩ | ⟨m1, m2⟩
        · exact again_at (s := { s with heap := h1 }) (M := 31) o1 ⟨e2.1, e2.2.1, e2.2.2⟩ rfl hin sz1 T.dm (by omega) nd1 mem1 ld1 (by omega) (by rw [m2, size_20]) (.inr (.inl rfl)) (by rw [m2, size_20]; decide) (by omega) fun h2 L2 es2 ep2 t2 sb2 R2 pm2 => wpAny_pure (q true h2 L2 es2 ep2 t2 (sb.trans sb2) R2 (fun z => absurd z hm) fun _ => pm2.trans pm)
        · exact again_at (s := { s with heap := h1 }) (M := 127) o1 ⟨e2.1, e2.2.1, e2.2.2⟩ rfl hin sz1 T.dm (by omega) nd1 mem1 ld1 (by omega) (by rw [m2, size_76]) (.inr (.inr rfl)) (by rw [m2, size_76]; decide) (by omega) fun h2 L2 es2 ep2 t2 sb2 R2 pm2 => wpAny_pure (q true h2 L2 es2 ep2 t2 (sb.trans sb2) R2 (fun z => absurd z hm) fun _ => pm2.trans pm)
      · refine wp_if_neg (by simp [full]) ?_
        have hf : (L.length + 1) * 5 < t.mask * 3 := by
          have h := full
          unfold SetTable.tooFull at h
          rw [decide_eq_true_eq, b3, b1] at h
          omega
        exact wpAny_pure (q true h1 L1 es1 (ep + 1) tb sb ⟨⟨_, o1, ⟨e2.1, e2.2.1, e2.2.2⟩, rfl⟩, hin, T, nd1, mem1, ld1, by rw [hlen, b1]; exact hf, by rw [hlen]; exact hfew⟩ (fun z => absurd z hm) fun _ => pm)
    rw [List.length_map] at p9
    have both : ∀ b : Bool, wpAny (model P w) A (do storeSet a es1 (if b = true then t1 else { t1 with plain := false }); if (!false && (if b = true then t1 else { t1 with plain := false }).tooFull) = true then do { setRelay a (SetTable.grown (es.size + 1)); pure true } else pure true) Q E s := fun b => by
      cases b with
      | true => exact go t1 p3 p4 p5 p9
      | false => exact go { t1 with plain := false } (tab_plain p3 false) p4 p5 p9
    by_cases pl : t1.plain = true
    · refine wp_if_pos pl (wpAny_bind (byv_key k _ 8 s hx.1 hx.2 A E _ fun b _ => both b))
    · refine wp_if_neg pl (wpAny_bind (wpAny_pure (both true)))
end
end Mp
namespace Mp
open PySem PySem.Spec
      PyProof.Rows L2

/-! ### set(list) -/
structure Had (ks : List Row) (i : Nat) (L : List Row) : Prop where
  sub : ∀ p ∈ L, p ∈ ks.take i
  all : ∀ p ∈ ks.take
        i, p.2 ∈ L.map (·.2)
theorem take_one {α : Type} {l : List α} {i : Nat} {x : α} (h : l[i]? = some x) : l.take (i + 1) = l.take i ++ [x] := by rw [List.take_succ, h]; rfl
theorem Had.same {ks L : List Row} {i : Nat} {x : Row} (g : Had ks i L) (h : ks[i]? = some x) (hm : x.2 ∈ L.map (·.2)) : Had ks (i + 1) L := by
  constructor
  · exact fun p hp => by rw [take_one h]; exact List.mem_append_left _ (g.sub p hp)
  · intro p hp
    rw [take_one h, List.mem_append, List.mem_singleton] at hp
    rcases hp with hp | rfl
    · exact g.all p hp
    · exact hm
theorem Had.more {ks L L' : List Row} {i : Nat} {x : Row} (g : Had ks i L) (h : ks[i]? = some x) (pm : L'.Perm (x :: L)) : Had ks (i + 1) L' := by
  constructor
  · intro p hp
    rw [take_one h, List.mem_append, List.mem_singleton]
    rcases List.mem_cons.mp (pm.mem_iff.mp hp) with rfl | hp
    · exact .inr rfl
    · exact .inl (g.sub p hp)
  · intro p hp
    rw [(pm.map (·.2)).mem_iff, List.map_cons, List.mem_cons]
    rw [take_one h, List.mem_append, List.mem_singleton] at hp
    rcases hp with hp | rfl
    · exact .inr (g.all p hp)
    · exact .inl rfl
/-- the members are fewer than 64 -/
def Few (ks : List Row) : Prop := ∀ L : List Row, (L.map (·.2)).Nodup → (∀ p ∈ L, p ∈ ks) → L.length < 64
section
variable {P : Program} {w : World} {A : Around}
      {E : Value → Shared → Prop} {s : Shared}
theorem SetN.kept {h h' : Heap} {a : Addr} {L : List Row} {es : Array (Int × Value)} {ep : Nat} {t : SetTable} (R : SetN P w h a L es ep t) (k1 : ∀ o, h.get? a = some o → h'.get? a = some o) (k2 : ∀ p ∈ L, Mem1 P w h' p.2 p.1) : SetN P w h' a L es ep t := by
  obtain ⟨o, e, r⟩ := R.ob
  exact { R with ob := ⟨o, k1 o e, r⟩, mem := k2 }
abbrev freshSet (w : World) : Obj := { cls := .type "set", dict := none, data := .set #[] 0 (.fresh 0 0 (!w.params.followText "set-order")) }
theorem setN_fresh {h : Heap} {a : Addr} (e : h.get? a = some (freshSet w)) : SetN P w h a [] #[] 0 (.fresh 0 0 (!w.params.followText "set-order")) := by
  refine ⟨⟨_, e, ⟨rfl, rfl, rfl⟩, rfl⟩, rfl, ⟨List.Pairwise.nil, rfl, rfl, .inl rfl, fun x hx => (by cases hx), fun i h j hi => (by simp at hi)⟩, List.nodup_nil, fun p hp => (by cases hp), ?_, ?_, ?_⟩
  · by_cases hf : w.params.followText "set-order" = true
    · exact .inl hf
    · exact .inr (by show (!w.params.followText "set-order") = true; simp [hf])
  · exact (by decide : 0 * 5 < 7 * 3)
  · exact (by decide : 0 < 64)
theorem loop_at {I : Addr} {fp wr : List Addr} {G : Array GenState → Array GenState → Prop} {n : Nat} {Pv : Nat → Value → Prop} {St : Nat → Shared → Prop} {R : Result → Shared → Prop}
    (W : WalksS P w A.in1 I fp wr G n Pv St) {D : Addr} (hD : D ∉ fp) {ks : List Row} (hn : n = ks.length) (few : Few ks) (hval : ∀ i v, Pv i v → ∃ p, ks[i]? = some p ∧ v = .ref p.1)
    {h0 : Heap} (hk : ∀ p ∈ ks, Mem1 P w h0 p.2 p.1) (hD0 : h0.get? D = none) (hw0 : ∀ b ∈ wr, h0.get? b = none) (hu : A.in1.units + 8 < cLine) :
    ∀ (j i : Nat) (s : Shared), n - i = j → i ≤ n → St i s → (∀ b o, h0.get? b = some o → s.heap.get? b = some o) → (∃ L es ep t, SetN P w s.heap D L es ep t ∧ Had ks i L) →
      (∀ s' L es ep t, Moved (D :: wr) G s s' → SetN P w s'.heap D L es ep t → Had ks n L → (∀ b o, h0.get? b = some o → s'.heap.get? b = some o) → R (.ok (.ret .none)) s') →
      codeAny (model P w) A (.builtin "set.update.loop" ⟨[.ref D, .ref I], []⟩) R s := by
  have dw : D ∉ wr := fun z => hD (W.sub _ z)
  have keep : ∀ {s s' : Shared}, Moved wr G s s' → (∀ b o, h0.get? b = some o → s.heap.get? b = some o) → ∀ b o, h0.get? b = some o → s'.heap.get? b = some o := fun m k b o e => m.heap b o (fun z => by rw [hw0 b z] at e; cases e) (k b o e)
  have subs : ∀ b ∈ wr, b ∈ D :: wr := fun b hb => List.mem_cons_of_mem _ hb
  have memL : ∀ {L : List Row} {i : Nat}, Had ks i L → ∀ p ∈ L, p ∈ ks := fun g p hp => List.mem_of_mem_take (g.sub p hp)
  intro j
  induction j with
  | zero =>
    intro i s hj hi hst kp hL hR
    obtain ⟨L, es, ep, t, hS, g⟩ := hL
    obtain rfl : i = n := by omega
    refine codeAny_builtin
          F.entry_set_update_loop ?_
    rw [Around.under_plainId
          F.plain_set_update_loop _]
    refine wpAny_bind (m := pyNext (.ref I)) (W.done s _ _ hst fun s' m => ?_)
    have kp' := keep m kp
    refine wpAny_pure (hR s' L es ep t (m.mono subs) (hS.kept (fun o e => m.heap D o dw e) fun p hp => (hk p (memL g p hp)).all kp') g kp')
  | succ j ih =>
    intro i s hj hi hst kp hL hR
    obtain ⟨L, es, ep, t, hS, g⟩ := hL
    have lt : i < n := by omega
    refine codeAny_builtin
          F.entry_set_update_loop ?_
    rw [Around.under_plainId
          F.plain_set_update_loop _]
    refine wpAny_bind (m := pyNext (.ref I)) (W.item i s _ _ lt hst fun v s' hP hst' m => ?_)
    obtain ⟨p, hp, rfl⟩
          := hval i v hP
    have kp' := keep m kp
    have hS' : SetN P w s'.heap D L es ep t := hS.kept (fun o e => m.heap D o dw e) fun x hx => (hk x (memL g x hx)).all kp'
    have px : p ∈ ks := List.mem_of_getElem? hp
    have hx : Mem1 P w s'.heap p.2 p.1 := (hk p px).all kp'
    refine wpAny_bind (m := holding [Value.ref p.1] (setAdd D (.ref p.1))) (wpAny_holding ?_)
    unfold setAdd
    refine wpAny_holding (wpAny_bind ((nestedKind P w).pyHash hu hx ?_))
    refine put_at (s := { s' with toks := s'.toks + (nestedKind P w).draws p.2 }) hS' hx hu (fun hn => few ((p.1, p.2) :: L) (by rw [List.map_cons]; exact List.nodup_cons.mpr ⟨hn, hS'.nd⟩) fun x hx' => by
      rcases List.mem_cons.mp hx' with rfl | hx'
      · exact px
      · exact memL g x hx') fun b h' L' es' ep' t' sb R' c1 c2 => ?_
    have g' : Had ks (i + 1) L' := by
      by_cases c : p.2 ∈ L.map (·.2)
      · rw [c1 c]; exact
              g.same hp c
      · exact g.more hp (c2 c)
    have kp2 : ∀ b o, h0.get? b = some o → h'.get? b = some o := fun b o e => (sb.2 b (fun z => by rw [z, hD0] at e; cases e)).trans (kp' b o e)
    refine wpAny_pure ⟨plainId_quiet F.plain_set_update_loop _, ih (i + 1) _ (by omega) lt (W.frame _ s' _ _ hst' (Nat.le_add_right _ _) fun b hb o e => ?_) kp2 ⟨L', es', ep', t', R', g'⟩ fun s2 L2 es2 ep2 t2 m2 R2 g2 kp3 => ?_⟩
    · rw [sb.2 b fun z => hD (z ▸ hb)]; exact e
    · refine hR s2 L2 es2 ep2 t2 (Moved.trans W.gtrans ((m.mono subs).then_heap (Nat.le_add_right _ _) fun b o hb e => ?_) m2) R2 g2 kp3
      rw [sb.2 b fun z => hb (z ▸ List.mem_cons_self)]; exact e
end
end Mp
namespace Mp
open PySem PySem.Spec PySem.Calls PyProof.Rows L2
section
variable {P : Program} {w : World} {A : Around}
      {E : Value → Shared → Prop} {s : Shared}
set_option maxHeartbeats 3200000
  in
/-- T(x) for T the type set: what its init does -/
theorem set_shell {x : Value} {Z : Shared → Prop} {Q : Value → Shared → Prop} (init : wpAny (model P w) A.in1.in1 (Builtin.«set.__init__» ⟨[.ref s.heap.objs.size, x], []⟩) (fun f s2 => f = .done (.ret .none) ∧ Z s2) E { s with heap := s.heap.push (freshSet w) })
    (q : ∀ s2, Z s2 → Q (.ref s.heap.objs.size) s2) : wpAny (model P w) A (call (.type "set") [x]) Q E s := by
  obtain ⟨c, tl, hmro⟩
        := F.called_set.mro
  have made := F.called_set.made
  have sub := F.called_set.sub
  refine wpAny_call
        (codeAny_of_tree ?_)
  show wpAny _ _ (callAny
        (.type "set") _) _ _ _
  refine wpAny_pure ⟨Code.quiet_builtin _
        (by decide +kernel), codeAny_builtin F.entry_type_call ?_⟩
  rw [Around.under_plain (weight_type_call_type "set" [x] []) rfl]
  have c1 := F.called_set.notType
  have c2 := F.called_set.canCreate
  have c3 := F.typeCall_set_1 x
  repeat any_goals first | assumption | wp_step
  refine codeAny_mono (code_set_led1 x (E := E) (Q₁ := fun v s1 => v = .ref s.heap.objs.size ∧ s1 = { s with heap := s.heap.push (freshSet w) }) ⟨rfl, rfl⟩) fun r s1 hr => ?_
  cases r with
  | error e => exact hr
  | ok fl =>
    cases fl with
    | ret v =>
      obtain ⟨rfl, rfl⟩ := hr
      have hD : (s.heap.push (freshSet w)).get? s.heap.objs.size = some (freshSet w) := Heap.get?_push_size _ rfl
      have ty : Shared.TypeIs { s with heap := s.heap.push (freshSet w) } (.ref s.heap.objs.size) "set" := ⟨_, hD, rfl⟩
      have i1 := F.called_set.init.lookup
      have i2 := F.called_set.init.bind (.ref s.heap.objs.size)
      repeat any_goals first | assumption | wp_step
      refine codeAny_mono (codeAny_call_builtin (R := wants (fun v s2 => v = .none ∧ Z s2) E) F.called_set.init.plain F.entry_set_init (check_set_init_1 ty ?_)) fun r2 s2 hr2 => ?_
      · exact wpAny_mono init (fun f s2 z => by obtain ⟨rfl, z⟩ := z; exact ⟨rfl, z⟩) fun _ _ z => z
      · cases r2 with
        | error e => exact hr2
        | ok fl2 =>
          cases fl2 with
          | ret v =>
            obtain ⟨rfl, z⟩ := hr2
            repeat any_goals first | assumption | wp_step
            exact q _ z
          | _ => exact hr2.elim
    | _ => exact hr.elim
set_option maxHeartbeats 1600000
  in
/-- set(list), of nested tuples -/
theorem set_of_list {l : Addr} {items : Array Value} {ks : List Row} {Q : Value → Shared → Prop} (hh : A.handled = none) (hl : s.heap.IsList l items) (hit : items.toList = ks.map fun p => Value.ref p.1)
    (hk : ∀ p ∈ ks, Mem1 P w s.heap p.2 p.1) (few : Few ks) (hu : A.units + 12 < cLine)
    (q : ∀ (h' : Heap) (tk : Nat) L es ep t, SetN P w h' s.heap.objs.size L es ep t → Had ks ks.length L → (∀ b o, s.heap.get? b = some o → h'.get? b = some o) → Q (.ref s.heap.objs.size) { s with heap := h', toks := tk }) :
    wpAny (model P w) A (call
          (.type "set") [.ref l]) Q E s := by
  refine set_shell (Z := fun s2 => ∃ h' tk L es ep t, s2 = { s with heap := h', toks := tk } ∧ SetN P w h' s.heap.objs.size L es ep t ∧ Had ks ks.length L ∧ (∀ b o, s.heap.get? b = some o → h'.get? b = some o)) ?_ fun s2 ⟨h', tk, L, es, ep, t, e, R, g, k⟩ => by
    subst e
    exact q _ _ _ _ _ _ R g k
  have isz : items.size = ks.length := by rw [← Array.length_toList, hit, List.length_map]
  have none_at : ∀ b, s.heap.objs.size ≤ b → s.heap.get? b = none := fun b hb => by
    cases e : s.heap.get? b with
    | none => rfl
    | some o => exact absurd (Heap.lt_size e) (Nat.not_lt.mpr hb)
  have hD : (s.heap.push (freshSet w)).get? s.heap.objs.size = some (freshSet w) := Heap.get?_push_size _ rfl
  have ty : Shared.TypeIs { s with heap := s.heap.push (freshSet w) } (.ref s.heap.objs.size) "set" := ⟨_, hD, rfl⟩
  obtain ⟨ol, l1, l2, nl, l3⟩ := hl
  obtain ⟨oc, od, dt, sl⟩ := ol
  simp only at l2 l3
  subst l2 l3
  have l4 : (s.heap.push (freshSet w)).get? l = some { cls := .type "list", dict := od, data := .seq items nl, slots := sl } := Heap.get?_push_of_some _ l1
  have s1 := F.sub_list_set
  have s2 := F.sub_list_frozenset
  have s3 : (Value.type "list" == Value.type "dict") = false := by decide
  have l5 : (s.heap.push (freshSet w)).IsList l items := ⟨_, l4, rfl, nl, rfl⟩
  unfold Builtin.«set.__init__»
        noKeywords Builtin.Frozenset.updateFrom
  generalize hIter : pyIter = iter0
  wp_walk
  subst hIter
  refine wpAny_pyIter_list l5 (wpAny_bind (wpAny_runValue ?_))
  have ll : l < s.heap.objs.size := Heap.lt_size l1
  have z1 : (s.heap.push (freshSet w)).objs.size = s.heap.objs.size + 1 := Heap.size_push ..
  have ne : l ≠ (s.heap.push (freshSet w)).objs.size := by rw [z1]; exact Nat.ne_of_lt (Nat.lt_succ_of_lt ll)
  have nD : s.heap.objs.size ∉ [(s.heap.push (freshSet w)).objs.size, l] := by
    rw [z1]
    simp only [List.mem_cons, List.not_mem_nil, or_false, not_or]
    exact ⟨Nat.ne_of_lt (Nat.lt_succ_self _), Nat.ne_of_gt ll⟩
  refine loop_at ((Walks.list (by simp [hh]) _ l ne items).toS) nD isz few (fun i v hv => ?_) hk (none_at _ (Nat.le_refl _)) (fun b hb => none_at b (by rw [List.mem_singleton.mp hb, z1]; exact Nat.le_succ _)) (by have e : A.in1.in1.in1.units ≤ A.units + 3 := (by simp [Around.in1]); omega) (items.size - 0) 0 _ (by omega) (Nat.zero_le _)
    ⟨⟨_, Heap.get?_push_size _ rfl, rfl, rfl⟩, l5.push _⟩ (fun b o e => Heap.get?_push_of_some _ (Heap.get?_push_of_some _ e)) ⟨[], #[], 0, _, setN_fresh (Heap.get?_push_of_some _ hD), ⟨fun p hp => (by cases hp), fun p hp => (by simp at hp)⟩⟩ fun s' L es ep t m R g k => ?_
  · have e : items.toList[i]? = some v := by rw [Array.getElem?_toList]; exact hv
    rw [hit, List.getElem?_map, Option.map_eq_some_iff] at e
    obtain ⟨p, e1, e2⟩ := e
    exact ⟨p, e1, e2.symm⟩
  · obtain ⟨h', g',
          d', tk', os'⟩ := s'
    obtain rfl : g' = s.gens := m.gens
    obtain rfl : d' = s.drawn := m.drawn
    obtain rfl : os' = s.os := m.os
    rw [isz] at g
    refine wpAny_pure ?_
    exact wpAny_pure ⟨rfl, h', tk', L, es, ep, t, rfl, R, g, k⟩
set_option maxHeartbeats 1600000
  in
/-- set(tuple), of nested tuples -/
theorem set_of_tuple {l : Addr} {items : Array Value} {ks : List Row} {Q : Value → Shared → Prop} (hh : A.handled = none) (hl : s.heap.IsTuple l items) (hit : items.toList = ks.map fun p => Value.ref p.1)
    (hk : ∀ p ∈ ks, Mem1 P w s.heap p.2 p.1) (few : Few ks) (hu : A.units + 12 < cLine)
    (q : ∀ (h' : Heap) (tk : Nat) L es ep t, SetN P w h' s.heap.objs.size L es ep t → Had ks ks.length L → (∀ b o, s.heap.get? b = some o → h'.get? b = some o) → Q (.ref s.heap.objs.size) { s with heap := h', toks := tk }) :
    wpAny (model P w) A (call
          (.type "set") [.ref l]) Q E s := by
  refine set_shell (Z := fun s2 => ∃ h' tk L es ep t, s2 = { s with heap := h', toks := tk } ∧ SetN P w h' s.heap.objs.size L es ep t ∧ Had ks ks.length L ∧ (∀ b o, s.heap.get? b = some o → h'.get? b = some o)) ?_ fun s2 ⟨h', tk, L, es, ep, t, e, R, g, k⟩ => by
    subst e
    exact q _ _ _ _ _ _ R g k
  have isz : items.size = ks.length := by rw [← Array.length_toList, hit, List.length_map]
  have none_at : ∀ b, s.heap.objs.size ≤ b → s.heap.get? b = none := fun b hb => by
    cases e : s.heap.get? b with
    | none => rfl
    | some o => exact absurd (Heap.lt_size e) (Nat.not_lt.mpr hb)
  have hD : (s.heap.push (freshSet w)).get? s.heap.objs.size = some (freshSet w) := Heap.get?_push_size _ rfl
  have ty : Shared.TypeIs { s with heap := s.heap.push (freshSet w) } (.ref s.heap.objs.size) "set" := ⟨_, hD, rfl⟩
  obtain ⟨ol, l1, l2, nl, l3⟩ := hl
  obtain ⟨oc, od, dt, sl⟩ := ol
  simp only at l2 l3
  subst l2 l3
  have l4 : (s.heap.push (freshSet w)).get? l = some { cls := .type "tuple", dict := od, data := .seq items nl, slots := sl } := Heap.get?_push_of_some _ l1
  have s1 := F.sub_tuple_set
  have s2 := F.sub_tuple_frozenset
  have s3 : (Value.type "tuple" == Value.type "dict") = false := by decide
  have l5 : (s.heap.push (freshSet w)).IsTuple l items := ⟨_, l4, rfl, nl, rfl⟩
  unfold Builtin.«set.__init__»
        noKeywords Builtin.Frozenset.updateFrom
  generalize hIter : pyIter = iter0
  wp_walk
  subst hIter
  refine wpAny_pyIter_tuple l5 (wpAny_bind (wpAny_runValue ?_))
  have ll : l < s.heap.objs.size := Heap.lt_size l1
  have z1 : (s.heap.push (freshSet w)).objs.size = s.heap.objs.size + 1 := Heap.size_push ..
  have ne : l ≠ (s.heap.push (freshSet w)).objs.size := by rw [z1]; exact Nat.ne_of_lt (Nat.lt_succ_of_lt ll)
  have nD : s.heap.objs.size ∉ [(s.heap.push (freshSet w)).objs.size, l] := by
    rw [z1]
    simp only [List.mem_cons, List.not_mem_nil, or_false, not_or]
    exact ⟨Nat.ne_of_lt (Nat.lt_succ_self _), Nat.ne_of_gt ll⟩
  refine loop_at ((Walks.tuple (by simp [hh]) _ l ne items).toS) nD isz few (fun i v hv => ?_) hk (none_at _ (Nat.le_refl _)) (fun b hb => none_at b (by rw [List.mem_singleton.mp hb, z1]; exact Nat.le_succ _)) (by have e : A.in1.in1.in1.units ≤ A.units + 3 := (by simp [Around.in1]); omega) (items.size - 0) 0 _ (by omega) (Nat.zero_le _)
    ⟨⟨_, Heap.get?_push_size _ rfl, rfl, rfl⟩, l5.push _⟩ (fun b o e => Heap.get?_push_of_some _ (Heap.get?_push_of_some _ e)) ⟨[], #[], 0, _, setN_fresh (Heap.get?_push_of_some _ hD), ⟨fun p hp => (by cases hp), fun p hp => (by simp at hp)⟩⟩ fun s' L es ep t m R g k => ?_
  · have e : items.toList[i]? = some v := by rw [Array.getElem?_toList]; exact hv
    rw [hit, List.getElem?_map, Option.map_eq_some_iff] at e
    obtain ⟨p, e1, e2⟩ := e
    exact ⟨p, e1, e2.symm⟩
  · obtain ⟨h', g',
          d', tk', os'⟩ := s'
    obtain rfl : g' = s.gens := m.gens
    obtain rfl : d' = s.drawn := m.drawn
    obtain rfl : os' = s.os := m.os
    rw [isz] at g
    refine wpAny_pure ?_
    exact wpAny_pure ⟨rfl, h', tk', L, es, ep, t, rfl, R, g, k⟩
end
end Mp
namespace Mt
open PySem PySem.SeqAt PyProof.Rows PySem.W

/-! ### sorting tuples of which some are empty -/
section
variable {prog : Program}
      {w : World} {A : Around} {E : Value → Shared → Prop} {s : Shared}
theorem call_tuple_lt {Q : Value → Shared → Prop} {l b : Addr} {items items2 : Array Value} {e r : Nat → Bool} (hl : s.heap.IsTuple l items) (hb : s.heap.IsTuple b items2)
    (he : ∀ j (h1 : j < items.size) (h2 : j < items2.size), EqAt A.in1 s items[j] items2[j] (e j)) (hr : ∀ j
          (h1 : j < items.size) (h2 : j < items2.size), e j = false → RcLt A.in1 s items[j] items2[j] (r j))
    (h : Q (.bool (firstLt e r (decide (items.size < items2.size)) (List.range (min items.size items2.size)))) s) : wpAny (model prog w) A (call (.builtin "tuple.__lt__") [.ref l, .ref b]) Q E s := by
  obtain ⟨⟨cls, dd, data, sl⟩,
        ho, hc, n, hd⟩ := id hl
  obtain ⟨⟨cls2, dd2, data2, sl2⟩,
        ho2, hc2, n2, hd2⟩ := id hb
  simp only at hc hd hc2 hd2
  subst hc hd hc2 hd2
  exact call_meets F.slot_tuple_lt ⟨_, ho, rfl⟩ F.entry_tuple_lt (F.args_tuple_lt_2 _ _) (tuple_ltAt l b items items2 n n2 dd dd2 sl sl2 e r) ⟨ho, ho2, he, hr, h⟩
/-- one tuple against another, whatever their lengths -/
theorem oneLt_tups {f : Bool} {xs ys : List PyData} {a b : Value} {as bs : List Addr} {Q : Bool → Shared → Prop} (ra : Reads s.heap a (.tuple xs) as) (rb : Reads s.heap b (.tuple ys) bs) (h : alike (.tuple xs) (.tuple ys) = true)
    (hu : A.units + min (PyData.tuple xs).depth (PyData.tuple ys).depth < cLine) (hq : Q (dataLt (.tuple xs) (.tuple ys)) s) : wpAny (model prog w) A (oneLt' f a b) Q E s := by
  cases f with
  | false => exact oneLt_alike (fun z => by cases z) ra rb h (by simp) hu hq
  | true =>
    have hal : alikeAll xs ys
          = true := by simpa [alike] using h
    cases ra with
    | @tuple l o vs n _
          as₁ h1 h2 h3 h4 =>
      cases rb with
      | @tuple l' o' vs' n'
            _ bs₁ k1 k2 k3 k4 =>
        have n1 : vs.size = xs.length :=
              by simpa using ReadsAll.length _ _ _ h4
        have n2 : vs'.size = ys.length :=
              by simpa using ReadsAll.length _ _ _ k4
        rw [dataLt_tuple, ← firstLt_toks xs ys hal, ← n1, ← n2] at hq
        rw [oneLt'_eq]
        simp only [if_true]
        refine wpAny_bind (wpAny_cRoomFor
              (room_here hu) ?_)
        refine wpAny_bind (wpAny_callSpecialIfBound?_slot (T := "tuple") ⟨_, h1, h2⟩ F.slot_tuple_lt (call_tuple_lt (e := pairEq xs ys) (r := fun j => dataLt (xs.getD j .none) (ys.getD j .none)) ⟨_, h1, h2, _, h3⟩ ⟨_, k1, k2, _, k3⟩ (fun j j1 j2 => ?_) (fun j j1 j2 hj => ?_) ?_))
        · have := eqAt_alikeAll xs ys A.in1 s vs.toList vs'.toList _ _ h4 k4 hal
                (room_in hu) j (by simpa using j1) (by simpa using j2)
          simpa using this
        · have := rcLt_alikeAll xs ys A.in1 s vs.toList vs'.toList _ _ h4 k4 hal
                (room_in hu) j (by simpa using j1) (by simpa using j2) hj
          simpa using this
        · exact wpAny_truthy_bool hq
theorem firsts_mixed : ∀ {vs : List Value} {ds : List PyData}, EachIs (fun v d => ∃ as, Reads s.heap v d as) vs ds → (∀ d, d ∈ ds → ∃ xs, d = .tuple xs) →
    ∃ fs : List (Option Value), (∀ (A : Around) (E : Value → Shared → Prop) (Q : List (Option Value) → Shared → Prop), Q fs s → wpAny (model prog w) A (vs.mapM firstOfTuple') Q E s) ∧ (.tuple [] ∈ ds → fs.all (·.isSome) = false)
  | _, _, .nil, _ => ⟨[], fun A E Q h => by rw [List.mapM_nil]; exact wpAny_pure h, fun h => by simp at h⟩
  | _, _, .cons (b := d)
        ⟨as, r⟩ t, ht => by
    obtain ⟨fs, h1, h2⟩ := firsts_mixed t fun d hd => ht d (List.mem_cons_of_mem _ hd)
    obtain ⟨ys, rfl⟩ := ht d List.mem_cons_self
    cases r with
    | @tuple a o xs n
          _ _ ho hc hd hr =>
      refine ⟨xs[0]? :: fs, fun A E Q h => ?_, fun hm => ?_⟩
      · rw [List.mapM_cons]
        refine wpAny_bind ?_
        rw [kas_first_eq]
        refine wpAny_bind (Looks.here (show Looks (model prog w) s.heap (typeOf (.ref a)) o.cls from (Looks.ld ho).andThen .now) ?_)
        rw [hc, if_neg
              (by first | decide | simp)]
        refine wpAny_bind
              (listItems_at ho hd (wpAny_pure ?_))
        exact wpAny_bind (h1 A E _ (wpAny_pure h))
      · rw [List.all_cons]
        rcases List.mem_cons.mp hm
              with e | hm
        · cases e
          have : xs.size = 0 := by simpa using ReadsAll.length _ _ _ hr
          have e0 : xs[0]? = none := Array.getElem?_eq_none (by omega)
          rw [e0]
          rfl
        · rw [h2 hm, Bool.and_false]
theorem kind_mixed {vs : List Value} {ds : List PyData} (e : EachIs (fun v d => ∃ as, Reads s.heap v d as) vs ds) (ht : ∀ d, d ∈ ds → ∃ xs, d = .tuple xs) (hne : .tuple [] ∈ ds) :
    ∃ kd : SortKind, (kd = general' ∨ kd = oneType') ∧ ∀ (A : Around) (E : Value → Shared → Prop) {Q : SortKind → Shared → Prop}, Q kd s → wpAny (model prog w) A (keyKind' vs.toArray) Q E s := by
  obtain ⟨fs, h1, h2⟩ := firsts_mixed (prog := prog) (w := w) e ht
  have hall : (fs.toArray.all fun x => x.isSome) = false := by rw [List.all_toArray]; exact h2 hne
  have hT : ∀ v ∈ vs, Looks (model prog w) s.heap (typeOf v) (.type "tuple") := fun v hv => by
    obtain ⟨d, hd, as,
          r⟩ := e.left v hv
    obtain ⟨xs, rfl⟩ := ht d hd
    exact looks_reads r
  have hv : 0 < vs.length := by
    cases e with
    | nil => simp at hne
    | cons _ _ => simp
  by_cases hf : (fs.toArray[0]?.bind id).isSome = true
  · refine ⟨general', .inl rfl, fun A E Q h => ?_⟩
    rw [keyKind'_eq, List.mapM_toArray,
          map_eq_pure_bind]
    refine wpAny_bind (wpAny_bind (h1 A E _ (wpAny_pure ?_)))
    rw [if_neg (by rw [hall]; simp), if_pos hf]
    exact wpAny_pure h
  · refine ⟨oneType', .inr rfl, fun A E Q h => ?_⟩
    rw [keyKind'_eq, List.mapM_toArray,
          map_eq_pure_bind]
    refine wpAny_bind (wpAny_bind (h1 A E _ (wpAny_pure ?_)))
    rw [if_neg (by rw [hall]; simp), if_neg hf]
    rw [oneTypeOnly'_eq,
          List.mapM_toArray, map_eq_pure_bind]
    refine wpAny_bind (wpAny_bind (wpAny_bind (kas_mapM (r := Value.type "tuple") _ (fun v hv Q' hq => (hT v hv).here hq) (wpAny_pure ?_))))
    have hall2 : ((List.map (fun _ => Value.type "tuple") vs).toArray.all fun x => x == Value.type "tuple") = true := by
      simp only [List.all_toArray,
            List.all_map, List.all_eq_true]
      intro _ _
      simp
    have h0 : (List.map (fun _ => Value.type "tuple") vs).toArray[0]? = some (Value.type "tuple") := by
      cases vs with
      | nil => simp at hv
      | cons _ _ => simp
    rw [h0]
    simp only [hall2, if_true]
    exact wpAny_pure
          (wpAny_pure h)
/-- tuples of any lengths, alike -/
theorem SortsAt_tups {vs : List Value} {ds : List PyData} (e : EachIs (fun v d => ∃ as, Reads s.heap v d as) vs ds) (hal : AllAlike ds) (ht : ∀ d, d ∈ ds → ∃ xs, d = .tuple xs) (hu : ∀ d, d ∈ ds → A.units + d.depth < cLine) : SortsAt prog w A s (dataKind s.heap ds) vs := by
  by_cases hne : PyData.tuple [] ∈ ds
  · refine ⟨fun v hv => ?_, ?_⟩
    · obtain ⟨d, hd, as,
            r⟩ := e.left v hv
      exact
            ⟨_, dataKind_some hal hd r⟩
    · obtain ⟨kd, hk, hq⟩ := kind_mixed (prog := prog) (w := w) e ht hne
      refine ⟨kd, ?_, fun _ E Q h => hq A E h⟩
      intro E x y a b Q ha hb h
      obtain ⟨d, as, hd, ra,
            rfl⟩ := dataKind_inv ha
      obtain ⟨d', as', hd', rb,
            rfl⟩ := dataKind_inv hb
      have hdd := hal d hd d' hd'
      have hroom : A.units + min d.depth d'.depth < cLine := Nat.lt_of_le_of_lt (Nat.add_le_add_left (Nat.min_le_left _ _) _) (hu d hd)
      obtain ⟨xs, rfl⟩ := ht d hd
      obtain ⟨ys, rfl⟩ := ht d' hd'
      rcases hk with rfl | rfl
      · exact oneLt_tups (f := false) ra rb hdd hroom h
      · exact oneLt_tups (f := true) ra rb hdd hroom h
  · refine SortsAt.data e hal (.inl fun d hd => ?_) hu
    obtain ⟨xs, rfl⟩ := ht d hd
    cases xs with
    | nil => exact absurd hd hne
    | cons x r => exact
          ⟨x, r, rfl⟩
/-- all tuples, or none a tuple or None -/
def Sort2 (ds : List PyData) : Prop := (∀ d, d ∈ ds → ∃ xs, d = .tuple xs) ∨ ∀ d, d ∈ ds → d ≠ .none ∧ ∀ xs, d ≠ .tuple xs
theorem SortsAt_two {vs : List Value} {ds : List PyData} (e : EachIs (fun v d => ∃ as, Reads s.heap v d as) vs ds) (hal : AllAlike ds) (hk : Sort2 ds) (hu : ∀ d, d ∈ ds → A.units + d.depth < cLine) : SortsAt prog w A s (dataKind s.heap ds) vs :=
  hk.elim (fun h => SortsAt_tups e hal h hu) fun h => SortsAt.data e hal (.inr h) hu
variable {β : Type} {vs : List Value} {bs : List β} {enc : β → PyData} {R : Value → β → Prop}
theorem sort_data2 {a : Addr} {n : Nat} {Q : Value → Shared → Prop} (ho : s.heap.get? a = some (seqObj "list" vs.toArray n)) (e : EachIs R vs bs) (er : EachIs (fun v b => ∃ as, Reads s.heap v (enc b) as ∧ a ∉ as) vs bs)
    (hal : AllAlike (bs.map enc)) (hk : Sort2 (bs.map enc)) (hL : bs.length ≤ sizeLine) (hu : ∀ b, b ∈ bs → A.units + 1 + (enc b).depth < cLine)
    (h : ∀ out, out.length = bs.length → EachIs R out (bs.mergeSort (dataLe false enc)) → Q .none { s with heap := sortedHeap s.heap a vs (List.toArray out) }) : wpAny (model prog w) A (call (.builtin "list.sort") [.ref a]) Q E s := by
  have er' : EachIs (fun v b => ∃ as, Reads (sortingHeap s.heap a vs) v (enc b) as) vs bs := each_keepBut (h' := sortingHeap
        s.heap a vs) (fun _ _ hb q => sortingHeap_old hb q) (fun o q => by rw [ho] at q; rw [← Option.some.inj q]) hal er
  have S := SortsAt_two (prog := prog) (w := w) (A := A.in1) (s := { s with heap := sortingHeap s.heap a vs }) (each_map (R := fun v d => ∃ as, Reads (sortingHeap s.heap a vs) v d as) enc er') hal hk (bound_map hu)
  refine wpAny_call_entry slot_list_sort ⟨_, ho, rfl⟩ entry_list_sort (list_sort_vals (κ := dataKind (sortingHeap s.heap a vs) (bs.map enc)) ho S (by rw [e.length]; exact hL) ⟨.none, rfl, ?_⟩) (args_list_sort _)
  exact h _
        (by rw [sortVals_length false rfl]; exact e.length) (sortVals_data false e er' hal)
theorem sorted_data2 {l : Addr} {Q : Value → Shared → Prop} (hl : s.heap.IsList l vs.toArray) (e : EachIs R vs bs) (er : EachIs (fun v b => ∃ as, Reads s.heap v (enc b) as) vs bs)
    (hal : AllAlike (bs.map enc)) (hk : Sort2 (bs.map enc)) (hL : bs.length ≤ sizeLine) (hu : ∀ b, b ∈ bs → A.units + 2 + (enc b).depth < cLine)
    (h : ∀ out, out.length = bs.length → EachIs R out (bs.mergeSort (dataLe false enc)) → Q (.ref (s.heap.objs.size + 1)) { s with heap := sortedAll s.heap vs (List.toArray out) }) : wpAny (model prog w) A (call (.builtin "sorted") [.ref l]) Q E s := by
  have er' : EachIs (fun v b => ∃ as, Reads (sortingHeap (copyHeap s.heap vs) (s.heap.objs.size + 1) vs) v
        (enc b) as) vs bs := er.mono fun _ _ ⟨as, r⟩ => ⟨as, PyProof.Rows.Reads.keeps (fun _ _ => sorting_copy_old) r⟩
  have S := SortsAt_two (prog := prog) (w := w) (A := A.in1.in1) (s := { s with heap := sortingHeap (copyHeap s.heap vs) (s.heap.objs.size + 1) vs }) (each_map (R := fun v d => ∃ as, Reads (sortingHeap (copyHeap s.heap vs) (s.heap.objs.size + 1) vs) v d as) enc er') hal hk (bound_map hu)
  exact sorted_vals hl S (by rw [e.length]; exact hL) (h _ (by rw [sortVals_length false rfl]; exact e.length) (sortVals_data false e er' hal))
end
end Mt
namespace Mp
open PySem PySem.Spec PySem.Calls PyProof.Rows L2

/-! ### the order of keys; sorted(set) -/
def keyLe (a b : NestedKey) : Bool := PySem.W.dataLe false NestedKey.data a b
def rowLe (a b : Row) : Bool := keyLe a.2 b.2
theorem refs_each {R : Value → Row → Prop} : ∀ {L : List Row}, (∀ p ∈ L, R (.ref p.1) p) → PySem.W.EachIs R (L.map fun p => Value.ref p.1) L
  | [], _ => .nil
  | p :: L, m => .cons (m p List.mem_cons_self) (refs_each fun q hq => m q (List.mem_cons_of_mem _ hq))
theorem each_refs : ∀ {vs : List Value} {L : List Row}, PySem.W.EachIs (fun v (p : Row) => v = Value.ref p.1) vs L → vs = L.map fun p => Value.ref p.1
  | _, _, .nil => rfl
  | _, _, .cons h t => by rw [h, each_refs t]; rfl
theorem rows_of_refs {L : List Row} : ∀ {vs : List Value}, (∀ v ∈ vs, ∃ q ∈ L, v = Value.ref q.1) → ∃ L1 : List Row, vs = L1.map (fun q => Value.ref q.1) ∧ ∀ q ∈ L1, q ∈ L
  | [], _ => ⟨[], rfl, fun q hq => (by cases hq)⟩
  | v :: vs, h => by
    obtain ⟨q, hq, e⟩ := h v List.mem_cons_self
    obtain ⟨L1, e1, e2⟩ := rows_of_refs fun u hu => h u (List.mem_cons_of_mem _ hu)
    refine ⟨q :: L1, by rw [e, e1]; rfl, fun r hr => ?_⟩
    rcases List.mem_cons.mp hr
          with rfl | hr
    · exact hq
    · exact e2 r hr
section
variable {P : Program} {w : World} {A : Around} {E : Value → Shared → Prop} {s : Shared} {a : Addr} {L : List Row} {es : Array (Int × Value)} {ep : Nat} {t : SetTable}
theorem SetN.refs_perm (R : SetN P w s.heap a L es ep t) {L1 : List Row} (sub : ∀ q ∈ L1, q ∈ L) (pm : (L1.map fun q => Value.ref q.1).Perm (L.map fun q => Value.ref q.1)) : L1.Perm L := by
  have inj : ∀ q ∈ L, ∀ r ∈ L, q.1 = r.1 → q = r := fun q hq r hr e => by
    have x := R.mem q hq
    rw [e] at x
    exact Prod.ext e ((nestedKind P w).inj x (R.mem r hr))
  have nL : L.Nodup := List.Pairwise.of_map (·.2) (fun _ _ h e => h (congrArg Prod.snd e)) R.nd
  have nr : (L.map fun q => Value.ref q.1).Nodup := by
    refine List.pairwise_map.mpr (List.Pairwise.imp_of_mem (fun {q r} hq hr h e => ?_) nL)
    injection e with e
    exact h (inj q hq r hr e)
  have n1 : L1.Nodup := List.Pairwise.of_map (fun q : Row => Value.ref q.1) (fun _ _ h e => h (congrArg (fun q : Row => Value.ref q.1) e)) (pm.nodup_iff.mpr nr)
  refine (List.perm_ext_iff_of_nodup n1 nL).mpr fun q => ⟨sub q, fun hq => ?_⟩
  have hm : Value.ref q.1 ∈ L1.map fun q => Value.ref q.1 := pm.mem_iff.mpr (List.mem_map_of_mem (f := fun q : Row => Value.ref q.1) hq)
  obtain ⟨r, hr, e⟩ :=
        List.mem_map.mp hm
  injection e with e
  rw [← inj r (sub r hr) q hq e]
  exact hr
/-- sorted(set) -/
theorem sorted_of_set {Q : Value → Shared → Prop} (R : SetN P w s.heap a L es ep t) (hh : A.handled = none) (rd : ∀ p ∈ L, Reads s.heap (.ref p.1) p.2.data []) (hu : A.units + 20 < cLine)
    (al : PySem.W.AllAlike (L.map fun p => p.2.data)) (so : Mt.Sort2 (L.map fun p => p.2.data)) (dp : ∀ p ∈ L, p.2.data.depth ≤ 16)
    (q : ∀ s' l (out : Array Value) (c : Nat) (L1 : List Row), (∀ b o, s.heap.get? b = some o → s'.heap.get? b = some o) → s'.gens = s.gens → s'.os = s.os → s.heap.objs.size ≤ l →
      s'.heap.get? l = some (seqObj "list" out c) → L1.Perm L → out.toList = (L1.mergeSort rowLe).map (fun p => Value.ref p.1) → Q (.ref l) s') :
    wpAny (model P w) A (call
          (.builtin "sorted") [.ref a]) Q E s := by
  obtain ⟨o, e1, e2, e3⟩ := R.ob
  have hsz := R.size
  have few := R.few
  refine Calls.call_function_entry kind_sorted
        plain_sorted entry_sorted (args_sorted1 _) ?_
  unfold Builtin.«sorted»
  refine wpAny_bind
        (m := checkCount "sorted" 1 1 _) (wpAny_pure ?_)
  refine wpAny_bind (collect_set (A := A.in1) hh ⟨o, e1, e2.1, e3⟩ R.fits (by unfold scanBound; omega) R.tab.ris R.led fun s1 vs k1 z1 g1 o1 pm => ?_)
  have er : es.toList.map (·.2) = L.map fun q => Value.ref q.1 := by
    rw [R.rows]
    simp [rowsN]
  rw [er] at pm
  obtain ⟨L1, rfl, sub⟩ := rows_of_refs (L := L) (vs := vs) fun v hv => by
    obtain ⟨r, hr, e⟩ := List.mem_map.mp (pm.mem_iff.mp hv)
    exact ⟨r, hr, e.symm⟩
  have pL := R.refs_perm sub pm
  have len : L1.length = L.length := pL.length_eq
  refine wpAny_bind (wpAny_newList ?_ (by rw [sizeLine_eq]; simp; omega))
  have hl : (s1.heap.push (seqObj "list" (L1.map fun q => Value.ref q.1).toArray 0)).get? s1.heap.objs.size = some (seqObj "list" (L1.map fun q => Value.ref q.1).toArray 0) := Heap.get?_push_size _ rfl
  have mp : (L1.map fun p => p.2.data).Perm (L.map fun p => p.2.data) := pL.map _
  have rd1 : ∀ p ∈ L1, ∃ as, Reads (s1.heap.push (seqObj "list" (L1.map fun q => Value.ref q.1).toArray 0)) (.ref p.1) p.2.data as ∧ s1.heap.objs.size ∉ as := fun p hp =>
    ⟨[], PyProof.Rows.Reads.keeps (fun b u e => Heap.get?_push_of_some _ (k1 b u e)) (rd p (sub p hp)), by simp⟩
  refine wpAny_bind (wpAny_holding (Mt.sort_data2 (s := { s1 with heap := s1.heap.push (seqObj "list" (L1.map fun q => Value.ref q.1).toArray 0) }) (bs := L1) (enc := fun p => p.2.data) (R := fun v p => v = Value.ref p.1) hl (refs_each fun p _ => rfl) (refs_each rd1)
    (fun d hd d' hd' => al d (mp.mem_iff.mp hd) d' (mp.mem_iff.mp hd')) (so.elim (fun h => .inl fun d hd => h d (mp.mem_iff.mp hd)) (fun h => .inr fun d hd => h d (mp.mem_iff.mp hd))) (by rw [sizeLine_eq]; omega)
    (fun p hp => by have := dp p (sub p hp); show A.units + 1 + 1 + p.2.data.depth < cLine; omega) fun out a1 a2 => ?_))
  obtain ⟨c, hc⟩ := sortedHeap_at (vs := L1.map fun q => Value.ref q.1) (out := out.toArray) hl
  have eo := each_refs a2
  refine wpAny_pure ⟨_, rfl, q _ s1.heap.objs.size out.toArray c L1 (fun b u e => ?_) g1 o1 z1 hc pL eo⟩
  have q1 := k1 b u e
  have hlt := Heap.lt_size q1
  show (sortedHeap (s1.heap.push (seqObj "list" _ 0)) s1.heap.objs.size _ out.toArray).get? b = some u
  rw [sortedHeap_old (Nat.ne_of_lt hlt) (by rw [size_push']; exact Nat.lt_succ_of_lt hlt), Heap.get?_push_of_some _ q1]
end
end Mp
namespace Mp
open PySem PySem.Spec
      PyProof.Rows L2

/-! ### values as keys -/
mutual
def toK : Val → Option NestedKey
  | .non => some .none
  | .int i => some (.num i)
  | .str x => some (.text x)
  | .tup xs => (toKs xs).map .tup
  | _ => none
def toKs : List Val → Option (List NestedKey)
  | [] => some []
  | x :: xs => (toK x).bind fun k => (toKs xs).map fun ks => k :: ks
end
mutual
theorem ofK_toK : ∀ {x : Val} {k : NestedKey}, toK x = some k → ofK k = x
  | .non, _, e => by cases e; rfl
  | .int _, _, e => by cases e; rfl
  | .str _, _, e => by cases e; rfl
  | .tup xs, _, e => by
    simp only [toK, Option.map_eq_some_iff] at e
    obtain ⟨ks, e1, rfl⟩ := e
    rw [ofK, ofKs_toKs e1]
  | .bl _, _, e => by cases e
  | .ty _, _, e => by cases e
  | .fn _, _, e => by cases e
  | .lst _, _, e => by cases e
  | .scr _, _, e => by cases e
  | .ref _, _, e => by cases e
  | .ptp _, _, e => by cases e
theorem ofKs_toKs : ∀ {x : List Val} {k : List NestedKey}, toKs x = some k → ofKs k = x
  | [], _, e => by cases e; rfl
  | x :: xs, _, e => by
    simp only [toKs, Option.bind_eq_some_iff, Option.map_eq_some_iff] at e
    obtain ⟨k, e1, ks, e2, rfl⟩ := e
    rw [ofKs, ofK_toK e1, ofKs_toKs e2]
end
mutual
theorem toK_ofK : ∀ k : NestedKey, toK (ofK k) = some k
  | .none => rfl
  | .num _ => rfl
  | .text _ => rfl
  | .tup ks => by rw [ofK, toK, toKs_ofKs ks]; rfl
theorem toKs_ofKs : ∀ k : List NestedKey, toKs (ofKs k) = some k
  | [] => rfl
  | k :: ks => by rw [ofKs, toKs, toK_ofK k, toKs_ofKs ks]; rfl
end
theorem ofKs_map (ks : List NestedKey) : ofKs ks = ks.map ofK := by
  induction ks with
  | nil => rfl
  | cons k ks ih => rw [ofKs, ih]; rfl
section
variable {X : Cx} {g : Gx} {pos : Pos} {pins : List (Addr × Obj)} {st : L2.St} {H : Hp} {s : Shared} {r : List Addr}
mutual
/-- the key stands in the machine -/
theorem RV.key (hK : g.K = X.K) (I : Inv X pins st H s) : ∀ {x : Val} {v : V} {u : Value} {k : NestedKey}, RV g r H x v → RelV v u → toK x = some k → NestedIs s.heap k u ∧ Reads s.heap u k.data []
  | _, _, _, _, .non, rv, e => by cases e; cases rv; exact ⟨.none, .none⟩
  | _, _, _, _, .int i, rv, e => by cases e; obtain ⟨t, rfl⟩ := rv; exact ⟨.int i t, .int i t⟩
  | _, _, _, _, .str x, rv, e => by cases e; obtain ⟨t, rfl⟩ := rv; exact ⟨.text x t, .str x t⟩
  | _, _, _, _, .tup h1 h2 h3, rv, e => by
    simp only [toK, Option.map_eq_some_iff] at e
    obtain ⟨ks, e1, rfl⟩ := e
    cases rv
    rw [hK] at h1
    obtain ⟨its, ri, ⟨o, o1, o2, n, o3⟩, _⟩ := I.tuple h1
    obtain ⟨a1, a2⟩ := RVs.key hK I h3 ri e1
    exact ⟨.tup o1 o2 o3 (by simpa using a1), .tuple o1 o2 o3 (by simpa using a2)⟩
  | _, _, _, _, .bl _, _, e => by cases e
  | _, _, _, _, .ty _, _, e => by cases e
  | _, _, _, _, .fn _, _, e => by cases e
  | _, _, _, _, .lst .., _, e => by cases e
  | _, _, _, _, .scr .., _, e => by cases e
  | _, _, _, _, .ref _, _, e => by cases e
  | _, _, _, _, .ptp .., _, e => by cases e
theorem RVs.key (hK : g.K = X.K) (I : Inv X pins st H s) : ∀ {x : List Val} {v : List V} {u : List Value} {k : List NestedKey}, RVs g r H x v → Vals v u → toKs x = some k → NestedAll s.heap k u ∧ ReadsAll s.heap u (NestedKey.datas k) []
  | _, _, _, _, .nil, rv, e => by cases e; cases rv; exact ⟨.nil, .nil⟩
  | _, _, _, _, .cons h hs, rv, e => by
    simp only [toKs, Option.bind_eq_some_iff, Option.map_eq_some_iff] at e
    obtain ⟨k, e1, ks, e2, rfl⟩ := e
    cases rv with
    | cons r1 r2 =>
      obtain ⟨a1, a2⟩ := RV.key hK I h r1 e1
      obtain ⟨b1, b2⟩ := RVs.key hK I hs r2 e2
      exact ⟨.cons a1 b1, .cons (as := []) (bs := []) a2 b2⟩
end
end

/-! ### a set in the abstract heap -/
def SetN0 (P : Program) (w : World) (h : Heap) (a : Addr) (L : List Row) : Prop := ∃ (es : Array (Int × Value)) (ep : Nat) (t : SetTable), (∃ o, h.get? a = some o ∧ o.ExactSet ∧ o.data = .set es ep t) ∧ es.toList = rowsN w L ∧ TabOk t (L.map (nh w)) ∧ (L.map (·.2)).Nodup ∧
  (w.params.followText "set-order" = true ∨ t.led
        = true) ∧ L.length * 5 < t.mask * 3 ∧ L.length < 64
def SetHO (P : Program) (w : World) (a : Addr) (L : List Row) : HO := .ext fun h => SetN0 P w h a L
theorem SetN.bare {P : Program} {w : World} {h : Heap} {a : Addr} {L : List Row} {es : Array (Int × Value)} {ep : Nat} {t : SetTable} (R : SetN P w h a L es ep t) : SetN0 P w h a L := ⟨es, ep, t, R.ob, R.rows, R.tab, R.nd, R.led, R.room, R.few⟩
theorem SetN0.full {P : Program} {w : World} {h : Heap} {a : Addr} {L : List Row} (R : SetN0 P w h a L) (m : ∀ p ∈ L, Mem1 P w h p.2 p.1) : ∃ es ep t, SetN P w h a L es ep t := by
  obtain ⟨es, ep, t, h1, h2, h3, h4, h5, h6, h7⟩ := R
  exact ⟨es, ep, t, h1, h2, h3, h4, m, h5, h6, h7⟩
theorem SetN0.ok {P : Program} {w : World} {H : Hp} {h : Heap} {a : Addr} {L : List Row} (R : SetN0 P w h a L) : ObjOk P w H h a (SetHO P w a L) := by
  refine ⟨R, ?_, fun h1 h2 p k => ?_⟩
  · obtain ⟨_, _, _, ⟨o, e, _⟩, _⟩ := R
    exact ⟨o, e⟩
  · obtain ⟨es, ep, t, ⟨o, e, x⟩, y⟩ := p
    exact ⟨es, ep, t, ⟨o, k o e, x⟩, y⟩
/-- the members' keys -/
def keyOk (k : NestedKey) : Bool := decide (k.depth ≤ 8) && (match k with | .tup _ => true | _ => false)
def fewKeys (ks : List NestedKey) : Bool := decide (ks.eraseDups.length < 64)
end Mp
namespace Mp
open PySem PySem.Spec
      PyProof.Rows L2

/-! ### the members of a list of keys, each once, in order -/
def uniq : List NestedKey → List NestedKey
  | [] => []
  | k :: ks => if k ∈ uniq ks then uniq ks else k :: uniq ks
theorem mem_uniq {k : NestedKey} : ∀ {ks : List NestedKey}, k ∈ uniq ks ↔ k ∈ ks
  | [] => Iff.rfl
  | x :: ks => by
    unfold uniq
    split
    · rename_i h
      rw [List.mem_cons, mem_uniq]
      constructor
      · exact .inr
      · rintro (rfl | h')
        · exact mem_uniq.mp h
        · exact h'
    · rw [List.mem_cons, List.mem_cons, mem_uniq]
theorem nodup_uniq : ∀ ks : List NestedKey, (uniq ks).Nodup
  | [] => List.nodup_nil
  | x :: ks => by
    unfold uniq
    split
    · exact nodup_uniq ks
    · rename_i h
      exact List.nodup_cons.mpr ⟨h, nodup_uniq ks⟩
mutual
theorem eqv_keys : ∀ a b : NestedKey, PyData.eqv a.data b.data = true → a = b
  | .none, .none, _ => rfl
  | .num i, .num j, h => by simp [NestedKey.data, PyData.eqv] at h; rw [h]
  | .text i, .text j, h => by simp [NestedKey.data, PyData.eqv] at h; rw [h]
  | .tup a, .tup b, h => by rw [eqv_keyss a b (by simpa [NestedKey.data, PyData.eqv] using h)]
  | .none, .num _, h => by simp [NestedKey.data, PyData.eqv] at h
  | .none, .text _, h => by simp [NestedKey.data, PyData.eqv] at h
  | .none, .tup _, h => by simp [NestedKey.data, PyData.eqv] at h
  | .num _, .none, h => by simp [NestedKey.data, PyData.eqv] at h
  | .num _, .text _, h => by simp [NestedKey.data, PyData.eqv] at h
  | .num _, .tup _, h => by simp [NestedKey.data, PyData.eqv] at h
  | .text _, .none, h => by simp [NestedKey.data, PyData.eqv] at h
  | .text _, .num _, h => by simp [NestedKey.data, PyData.eqv] at h
  | .text _, .tup _, h => by simp [NestedKey.data, PyData.eqv] at h
  | .tup _, .none, h => by simp [NestedKey.data, PyData.eqv] at h
  | .tup _, .num _, h => by simp [NestedKey.data, PyData.eqv] at h
  | .tup _, .text _, h => by simp [NestedKey.data, PyData.eqv] at h
theorem eqv_keyss : ∀ a b : List NestedKey, PyData.eqvAll (NestedKey.datas a) (NestedKey.datas b) = true → a = b
  | [], [], _ => rfl
  | [], _ :: _, h => by simp [NestedKey.datas, PyData.eqvAll] at h
  | _ :: _, [], h => by simp [NestedKey.datas, PyData.eqvAll] at h
  | a :: as, b :: bs, h => by
    simp only [NestedKey.datas, PyData.eqvAll, Bool.and_eq_true] at h
    rw [eqv_keys a b h.1, eqv_keyss as bs h.2]
end
def alikeKeys (ks : List NestedKey) : Bool := ks.all fun a => ks.all fun b => PySem.W.alike a.data b.data
theorem alikeKeys_at {ks : List NestedKey} (h : alikeKeys ks = true) {a b : NestedKey} (ha : a ∈ ks) (hb : b ∈ ks) : PySem.W.alike a.data b.data = true := by
  unfold alikeKeys at h
  rw [List.all_eq_true] at h
  have := h a ha
  rw [List.all_eq_true] at this
  exact this b hb
theorem keyLe_total : PySem.W.TotalLe keyLe := PySem.W.sortLe_total (listOrd itemOrd) false fun k : NestedKey => PySem.W.keyToks k.data
theorem keyLe_anti {a b : NestedKey} (h : PySem.W.alike a.data b.data = true) (h1 : keyLe a b = true) (h2 : keyLe b a = true) : a = b := by
  refine eqv_keys a b ?_
  cases hq : PyData.eqv a.data b.data with
  | true => rfl
  | false =>
    exfalso
    have x1 : PyProof.Rows.lexLt itemOrd (PySem.W.keyToks b.data) (PySem.W.keyToks a.data) = false := by simpa [keyLe, PySem.W.dataLe, PySem.W.sortLe] using h1
    have x2 : PyProof.Rows.lexLt itemOrd (PySem.W.keyToks a.data) (PySem.W.keyToks b.data) = false := by simpa [keyLe, PySem.W.dataLe, PySem.W.sortLe] using h2
    have e : PySem.W.keyToks a.data = PySem.W.keyToks b.data := (listOrd itemOrd).total _ _ x2 x1
    have f := (PySem.W.toks_eqv a.data b.data h).2 hq [] [Sum.inl 0]
    rw [x2, e, PySem.W.lex_pre] at f
    exact absurd f (by decide)
def sortKeys (ks : List NestedKey) : List NestedKey := (uniq ks).mergeSort keyLe
theorem sortKeys_perm (ks : List NestedKey) : (sortKeys ks).Perm (uniq ks) := List.mergeSort_perm _ _
theorem sortKeys_of {ks l : List NestedKey} (al : alikeKeys ks = true) (nd : l.Nodup) (m : ∀ k, k ∈ l ↔ k ∈ ks) : l.mergeSort keyLe = sortKeys ks := by
  have pm : l.Perm (uniq ks) := (List.perm_ext_iff_of_nodup nd (nodup_uniq ks)).mpr fun k => by rw [m, mem_uniq]
  have p2 : (l.mergeSort keyLe).Perm (sortKeys ks) := (List.mergeSort_perm _ _).trans (pm.trans (sortKeys_perm ks).symm)
  have sorted : ∀ l : List NestedKey, (l.mergeSort keyLe).Pairwise fun a b => keyLe a b = true := fun l => List.pairwise_mergeSort keyLe_total.trans (fun a b => by rw [Bool.or_eq_true]; exact keyLe_total.total a b) l
  refine p2.eq_of_pairwise (fun a b ha hb h1 h2 => keyLe_anti (alikeKeys_at al ?_ ?_) h1 h2) (sorted l) (sorted _)
  · exact (m a).mp ((List.mergeSort_perm _ _).mem_iff.mp ha)
  · exact mem_uniq.mp ((sortKeys_perm ks).mem_iff.mp hb)
def sortableKeys (ks : List NestedKey) : Bool := (ks.all fun k => match k with | .tup _ => true | _ => false) || (ks.all fun k => match k with | .num _ => true | .text _ => true | _ => false)
theorem sortableKeys_ok {ks : List NestedKey} (h : sortableKeys ks = true) : Mt.Sort2 (ks.map NestedKey.data) := by
  unfold sortableKeys at h
  rw [Bool.or_eq_true, List.all_eq_true, List.all_eq_true] at h
  rcases h with h | h
  · refine .inl fun d hd => ?_
    obtain ⟨k, hk, rfl⟩ := List.mem_map.mp hd
    have := h k hk
    split at this
    · exact ⟨_, by rw [NestedKey.data]⟩
    · cases this
  · refine .inr fun d hd => ?_
    obtain ⟨k, hk, rfl⟩ := List.mem_map.mp hd
    have := h k hk
    split at this
    · exact ⟨by simp [NestedKey.data], by simp [NestedKey.data]⟩
    · exact ⟨by simp [NestedKey.data], by simp [NestedKey.data]⟩
    · cases this
mutual
theorem data_depth : ∀ k : NestedKey, k.data.depth = k.depth
  | .none => rfl
  | .num _ => by simp [NestedKey.data, PyData.depth, NestedKey.depth]
  | .text _ => by simp [NestedKey.data, PyData.depth, NestedKey.depth]
  | .tup ks => by simp [NestedKey.data, PyData.depth, NestedKey.depth, datas_depth ks]
theorem datas_depth : ∀ ks : List NestedKey, PyData.depthAll (NestedKey.datas ks) = NestedKey.depthAll ks
  | [] => by simp [NestedKey.datas, PyData.depthAll, NestedKey.depthAll]
  | k :: ks => by simp [NestedKey.datas, PyData.depthAll, NestedKey.depthAll, data_depth k, datas_depth ks]
end
end Mp
namespace Mp
open PySem PySem.Spec
      PyProof.Rows L2

/-! ### built-in functions that change nothing -/
abbrev FN := Sto → List Val → Option Val
def eFn (f : FN) (ms : MEs) : ME := fun sl S => (ms sl S).bind fun p => (f p.2 p.1).bind fun v => some (v, p.2)
def rGn (g : Gx) (f : FN) : List V → Hp → VK → Prop := fun vs H Q => ∃ z r S xs v, SR (g.at z) r H S ∧ RVs (g.at z) r H xs vs ∧ f S xs = some v ∧ ∀ r' H' hv, Step r H r' H' → SR (g.at z) r' H' S → RV (g.at z) r' H' v hv → Q hv H'
section
variable {X : Cx} {g : Gx} {pos : Pos}
theorem fn_read {f : FN} {ms : MEs} {st : L2.St} {H : Hp} {Q : VK} (h : tD g (eFn f ms) st H Q) : tCB (rGn g f) (tDs g ms) st H Q := by
  obtain ⟨z, r, S, sl, v, S', R, e, q⟩ := h
  simp only [eFn, Option.bind_eq_some_iff] at e
  obtain ⟨⟨xs, S1⟩, e1, w, e2, e3⟩ := e
  cases e3
  exact ⟨z, r, S, sl, xs, S1, R, e1, fun r1 H1 vs s1 sr1 rx => ⟨z, r1, S1, xs, _, sr1, rx, e2, fun r2 H2 hv s2 sr2 rv => q r2 H2 hv (s1.trans s2) sr2 rv⟩⟩
theorem d_blt {x : Str} {p : Pos} {id : String} {f : FN} {e : Expr} {es : List Expr} {ms : MEs} (hc : CallR X (.builtin id) (rGn g f)) (hg : Gl X x) (hm : X.mg x = none) (hv : bootBuiltins x = some (.builtin id)) (ha : PA X (e :: es) (tDs g ms)) (hn : x ≠ "__name__" := by decide) (hdb : (x == ("__debug__" : Str)) = false := by decide)
    (he : starEach (e :: es) X.env = (false, eval e X.env) :: starEach es X.env := by rfl) (hpl : (backTo pos (starEach es X.env)).any (·.1) = false := by rfl) : PE X (.Call (.Name x p) (e :: es) [] pos) (tD g (eFn f ms)) :=
  PE.weak (pe_callB hc hg hm hv ha hn hdb he hpl) fun _ _ _ h => fn_read h
theorem d_typ {x : Str} {p : Pos} {T : String} {f : FN} {e : Expr} {es : List Expr} {ms : MEs} (hc : CallR X (.type T) (rGn g f)) (hg : Gl X x) (hm : X.mg x = none) (hv : bootBuiltins x = some (.type T)) (ha : PA X (e :: es) (tDs g ms)) (hn : x ≠ "__name__" := by decide) (hdb : (x == ("__debug__" : Str)) = false := by decide)
    (he : starEach (e :: es) X.env = (false, eval e X.env) :: starEach es X.env := by rfl) (hpl : (backTo pos (starEach es X.env)).any (·.1) = false := by rfl) : PE X (.Call (.Name x p) (e :: es) [] pos) (tD g (eFn f ms)) :=
  PE.weak (pe_callTy hc hg hm hv ha hn hdb he hpl) fun _ _ _ h => fn_read h

/-! len -/
def fLen : FN := fun S xs => match xs with
  | [.str x] => if x.length ≤ sizeLine then some (.int x.length) else none
  | [.tup xs] => some (.int xs.length)
  | [.ptp xs] => some (.int xs.length)
  | [.lst xs] => some (.int xs.length)
  | [.scr xs] => some (.int xs.length)
  | [.ref n] => match S[n]? with
    | some (.lst xs) => some (.int xs.length)
    | some (.dK kvs) => some (.int kvs.length)
    | _ => none
  | _ => none
theorem c_len (hK : g.K = X.K) : CallR X (.builtin "len") (rGn g fLen) := by
  intro pins s st H vs us Q I rs h
  obtain ⟨z, r, S, xs, v, sr, rx, e, q⟩ := h
  have fin : ∀ hv, RV (g.at z) r H v hv → Q hv H := fun hv rv => q r H hv (.refl r H) sr rv
  unfold fLen at e
  split at e
  · split at e
    · rename_i hx
      cases e
      cases rx with
      | cons a b =>
        cases a
        cases b
        exact call_len pins s st H _ us Q I rs ⟨_, _, rfl, ⟨hx, rfl⟩, fin _ (.int _)⟩
    · cases e
  · cases e
    cases rx with
    | cons a b =>
      cases b
      cases a with
      | tup h1 h2 h3 =>
        rw [show (g.at z).K = X.K from hK] at h1
        exact call_len pins s st H _ us Q I rs ⟨_, _, rfl, .inr ⟨_, h1, h3.length⟩, fin _ (.int _)⟩
  · cases e
    cases rx with
    | cons a b =>
      cases b
      cases a with
      | ptp h0 h1 h2 h3 => exact call_len pins s st H _ us Q I rs ⟨_, _, rfl, .inr ⟨_, .inl (.inr ⟨_, h0⟩), h3.length⟩, fin _ (.int _)⟩
  · cases e
    cases rx with
    | cons a b =>
      cases b
      cases a with
      | lst h1 h2 h3 h4 h5 => exact call_len pins s st H _ us Q I rs ⟨_, _, rfl, .inl ⟨_, .inl (.inl h1), h5.length⟩, fin _ (.int _)⟩
  · cases e
    cases rx with
    | cons a b =>
      cases b
      cases a with
      | scr h1 h2 h3 h4 => exact call_len pins s st H _ us Q I rs ⟨_, _, rfl, .inl ⟨_, .inl (.inr ⟨_, h1⟩), h4.length⟩, fin _ (.int _)⟩
  · cases rx with
    | cons a b =>
      cases b
      cases a with
      | ref ha =>
        split at e
        · rename_i hx
          cases e
          obtain ⟨u, hu, ro⟩ := sr.at_ _ _ _ hx ha
          cases ro with
          | lst hl hs => exact call_len pins s st H _ us Q I rs ⟨_, _, rfl, .inl ⟨_, .inl (.inl hu), hs.length⟩, fin _ (.int _)⟩
        · rename_i hx
          cases e
          obtain ⟨u, hu, ro⟩ := sr.at_ _ _ _ hx ha
          cases ro with
          | dK h1 hl hs =>
            obtain ⟨w, rfl, rw'⟩ := vals1 rs
            cases rw'
            have hz := hs.length
            simp only [List.length_map] at hz
            refine d_len I (.inl hu) fun t s' I' => ⟨.int _, H, I', ⟨t, rfl⟩, ?_⟩
            rw [← hz]
            exact fin _ (.int _)
        · cases e
  · cases e

/-! tuple, list -/
def seqOf (S : Sto) : Val → Option (List Val)
  | .tup xs => some xs
  | .ptp xs => some xs
  | .scr xs => some xs
  | a => lstOf S a
def fTupOf : FN := fun S xs => match xs with
  | [.ptp ys] => some (.ptp ys)
  | [x] => (seqOf S x).map .tup
  | _ => none
def fLstOf : FN := fun S xs => match xs with
  | [x] => (seqOf S x).map .lst
  | _ => none
theorem seqOf_at {r : List Addr} {H : Hp} {S : Sto} {a : Val} {x : V} {xs : List Val} (sr : SR g r H S) (h : RV g r H a x) (e : seqOf S a = some xs) : ∃ p vs, x = .ref p ∧ (SqL g.K H p vs ∨ (SqT g.K H p vs ∧ (a = .tup xs ∨ a = .ptp xs))) ∧ xs.length ≤ sizeLine ∧ RVs g r H xs vs := by
  unfold seqOf at e
  split at e
  · cases e
    cases h with
    | tup h1 h2 h3 => exact ⟨_, _, rfl, .inr ⟨h1, .inl rfl⟩, h2, h3⟩
  · cases e
    cases h with
    | ptp h0 h1 h2 h3 => exact ⟨_, _, rfl, .inr ⟨.inl (.inr ⟨_, h0⟩), .inr rfl⟩, h2, h3⟩
  · cases e
    cases h with
    | scr h1 h2 h3 h4 => exact ⟨_, _, rfl, .inl (.inl (.inr ⟨_, h1⟩)), h3, h4⟩
  · obtain ⟨p, vs, rfl, hp, hz, hs⟩ := lstOf_at sr h e
    exact ⟨p, vs, rfl, .inl (.inl (.inl hp)), hz, hs⟩
theorem c_tuple (hK : g.K = X.K) : CallR X (.type "tuple") (rGn g fTupOf) := by
  intro pins s st H vs us Q I rs h
  obtain ⟨z, r, S, xs, v, sr, rx, e, q⟩ := h
  unfold fTupOf at e
  split at e
  · cases e
    cases rx with
    | cons a b =>
      cases b
      obtain ⟨p, ws, rfl, hp, hz, hs⟩ := tupOf_at a rfl
      rw [show (g.at z).K = X.K from hK] at hp
      exact call_tuple_of pins s st H _ us Q I rs ⟨p, ws, rfl, .inr ⟨hp, q r H _ (.refl r H) sr a⟩⟩
  · rename_i np
    simp only [Option.map_eq_some_iff] at e
    obtain ⟨ys, e1, rfl⟩ := e
    cases rx with
    | cons a b =>
      cases b
      obtain ⟨p, ws, rfl, hp, hz, hs⟩ := seqOf_at sr a e1
      rw [show (g.at z).K = X.K from hK] at hp
      rcases hp with hp | ⟨hp, rfl | rfl⟩
      · exact call_tuple_of pins s st H _ us Q I rs ⟨p, ws, rfl, .inl ⟨hp, fun l hl => q r _ (.ref l) (Step.new1 hl) (sr.beside hl) (RV.newT sr hl hz hs)⟩⟩
      · exact call_tuple_of pins s st H _ us Q I rs ⟨p, ws, rfl, .inr ⟨hp, q r H _ (.refl r H) sr a⟩⟩
      · exact absurd rfl (np ys)
  · cases e
theorem c_list (hK : g.K = X.K) : CallR X (.type "list") (rGn g fLstOf) := by
  intro pins s st H vs us Q I rs h
  obtain ⟨z, r, S, xs, v, sr, rx, e, q⟩ := h
  unfold fLstOf at e
  split at e
  · simp only [Option.map_eq_some_iff] at e
    obtain ⟨ys, e1, rfl⟩ := e
    cases rx with
    | cons a b =>
      cases b
      obtain ⟨p, ws, rfl, hp, hz, hs⟩ := seqOf_at sr a e1
      rw [show (g.at z).K = X.K from hK] at hp
      exact call_list_of pins s st H _ us Q I rs ⟨p, ws, rfl, hp.imp (fun h => h) (fun h => h.1), fun l hl => q r _ (.ref l) (Step.new1 hl) (sr.beside hl) (RV.newL sr hl hz hs)⟩
  · cases e

/-! all, any -/
def toB : List Val → Option (List Bool)
  | [] => some []
  | .bl b :: xs => (toB xs).map fun bs => b :: bs
  | _ => none
theorem toB_at {r : List Addr} {H : Hp} : ∀ {xs : List Val} {vs : List V} {bs : List Bool}, RVs g r H xs vs → toB xs = some bs → vs = bs.map V.bl
  | _, _, _, .nil, e => by cases e; rfl
  | _, _, _, .cons (.bl b) t, e => by
    simp only [toB, Option.map_eq_some_iff] at e
    obtain ⟨bs, e1, rfl⟩ := e
    rw [toB_at t e1]; rfl
  | _, _, _, .cons .non _, e => by cases e
  | _, _, _, .cons (.int _) _, e => by cases e
  | _, _, _, .cons (.str _) _, e => by cases e
  | _, _, _, .cons (.ty _) _, e => by cases e
  | _, _, _, .cons (.fn _) _, e => by cases e
  | _, _, _, .cons (.tup ..) _, e => by cases e
  | _, _, _, .cons (.lst ..) _, e => by cases e
  | _, _, _, .cons (.scr ..) _, e => by cases e
  | _, _, _, .cons (.ref _) _, e => by cases e
  | _, _, _, .cons (.ptp ..) _, e => by cases e
def fQuant (al : Bool) : FN := fun S xs => match xs with
  | [x] => (lstOf S x).bind fun ys => (toB ys).map fun bs => .bl (if al then bs.all id else bs.any id)
  | _ => none
theorem c_all (hc : X.calm = true) : CallR X (.builtin "all") (rGn g (fQuant true)) := by
  intro pins s st H vs us Q I rs h
  obtain ⟨z, r, S, xs, v, sr, rx, e, q⟩ := h
  unfold fQuant at e
  split at e
  · simp only [Option.map_eq_some_iff, Option.bind_eq_some_iff] at e
    obtain ⟨ys, e1, bs, e2, rfl⟩ := e
    cases rx with
    | cons a b =>
      cases b
      obtain ⟨p, ws, rfl, hp, hz, hs⟩ := lstOf_at sr a e1
      rw [toB_at hs e2] at hp
      exact cr_all hc pins s st H _ us Q I rs ⟨p, bs, rfl, .inl (.inl hp), q r H _ (.refl r H) sr (.bl _)⟩
  · cases e
theorem c_any (hc : X.calm = true) : CallR X (.builtin "any") (rGn g (fQuant false)) := by
  intro pins s st H vs us Q I rs h
  obtain ⟨z, r, S, xs, v, sr, rx, e, q⟩ := h
  unfold fQuant at e
  split at e
  · simp only [Option.map_eq_some_iff, Option.bind_eq_some_iff] at e
    obtain ⟨ys, e1, bs, e2, rfl⟩ := e
    cases rx with
    | cons a b =>
      cases b
      obtain ⟨p, ws, rfl, hp, hz, hs⟩ := lstOf_at sr a e1
      rw [toB_at hs e2] at hp
      exact cr_any hc pins s st H _ us Q I rs ⟨p, bs, rfl, .inl (.inl hp), q r H _ (.refl r H) sr (.bl _)⟩
  · cases e

/-! isinstance, str -/
def kindOf (S : Sto) : Val → Option String
  | .non => some "NoneType"
  | .bl _ => some "bool"
  | .int _ => some "int"
  | .str _ => some "str"
  | .tup _ => some "tuple"
  | .ptp _ => some "tuple"
  | .lst _ => some "list"
  | .scr _ => some "list"
  | .ref n => match S[n]? with
    | some (.lst _)
          => some "list"
    | some (.dK _) => some "dict"
    | _ => none
  | _ => none
theorem kind_at {r : List Addr} {H : Hp} {S : Sto} {a : Val} {x : V} {k : String} (sr : SR g r H S) (h : RV g r H a x) (e : kindOf S a = some k) : TyX g.K H x (.type k) := by
  cases h with
  | non => cases e; exact .base .non
  | bl b => cases e; exact .base (.bl b)
  | int b => cases e; exact .base (.int b)
  | str b => cases e; exact .base (.str b)
  | ty b => cases e
  | fn b => cases e
  | tup h1 h2 h3 =>
    cases e
    rcases h1 with (h | ⟨o, h⟩) | ⟨o, its, n, h, hc, _⟩
    · exact .base (.tup h)
    · exact .fTuple h
    · exact .kTuple h hc
  | ptp h1 => cases e; exact .fTuple h1
  | lst h1 => cases e; exact .base (.lst h1)
  | scr h1 => cases e; exact .base (.frz h1)
  | ref ha =>
    simp only [kindOf] at e
    split at e
    · rename_i hx
      cases e
      obtain ⟨u, hu, ro⟩ := sr.at_ _ _ _ hx ha
      cases ro with
      | lst => exact .base (.lst hu)
    · rename_i hx
      cases e
      obtain ⟨u, hu, ro⟩ := sr.at_ _ _ _ hx ha
      cases ro with
      | dK => exact .base (.dK hu)
    · cases e
def fIsi : FN := fun S xs => match xs with
  | [x, .ty t] => (kindOf S x).bind fun k => (kitB k t).map .bl
  | _ => none
theorem c_isi (hK : g.K = X.K) : CallR X (.builtin "isinstance") (rGn g fIsi) := by
  intro pins s st H vs us Q I rs h
  obtain ⟨z, r, S, xs, v, sr, rx, e, q⟩ := h
  unfold fIsi at e
  split at e
  · simp only [Option.map_eq_some_iff, Option.bind_eq_some_iff] at e
    obtain ⟨k, e1, b, e2, rfl⟩ := e
    cases rx with
    | cons a t =>
      cases t with
      | cons c t =>
        cases t
        cases c
        have ty := kind_at sr a e1
        rw [show (g.at z).K = X.K from hK] at ty
        exact call_isi pins s st H _ us Q I rs ⟨_, _, _, _, b, rfl, .ty _, ty, kit_ty e2, q r H _ (.refl r H) sr (.bl b)⟩
  · cases e
def fStrI : FN := fun _ xs => match xs with
  | [.int i] => if i.natAbs.log2 < 1920 then some (.str (toString i)) else none
  | _ => none
theorem c_strI : CallR X (.type "str") (rGn g fStrI) := by
  intro pins s st H vs us Q I rs h
  obtain ⟨z, r, S, xs, v, sr, rx, e, q⟩ := h
  unfold fStrI at e
  split at e
  · split at e
    · rename_i hz
      cases e
      cases rx with
      | cons a t =>
        cases t
        cases a
        exact call_str_int pins s st H _ us Q I rs ⟨_, rfl, hz, q r H _ (.refl r H) sr (.str _)⟩
    · cases e
  · cases e
end
end Mp
namespace Mp
open PySem PySem.Spec
      PyProof.Rows L2

/-! ### sorted(list), set(..), sorted(set(..)), len(set(..)) of keys -/
theorem refs_of {g : Gx} {r : List Addr} {H : Hp} : ∀ {xs : List Val} {vs : List V} {ks : List NestedKey}, RVs g r H xs vs → toKs xs = some ks → ks.all keyOk = true → ∃ L : List Row, vs = L.map (fun p => V.ref p.1) ∧ L.map (·.2) = ks ∧ ∀ p ∈ L, RV g r H (ofK p.2) (.ref p.1)
  | _, _, _, .nil, e, _ => by cases e; exact ⟨[], rfl, rfl, fun p hp => (by cases hp)⟩
  | x :: xs, v :: vs, _, .cons h t, e, ok => by
    simp only [toKs, Option.bind_eq_some_iff, Option.map_eq_some_iff] at e
    obtain ⟨k, e1, ks, e2, rfl⟩ := e
    simp only [List.all_cons, Bool.and_eq_true] at ok
    obtain ⟨L, rfl, l2, l3⟩ := refs_of t e2 ok.2
    have ok1 := ok.1
    unfold keyOk at ok1
    rw [Bool.and_eq_true] at ok1
    have hx := ofK_toK e1
    cases h with
    | @tup a _ ws h1 h2 h3 =>
      refine ⟨(a, k) :: L, rfl, by rw [List.map_cons, l2], fun p hp => ?_⟩
      rcases List.mem_cons.mp hp
            with rfl | hp
      · show RV g r H (ofK k) (.ref a)
        rw [hx]; exact .tup h1 h2 h3
      · exact l3 p hp
    | non => cases e1; exact absurd ok1.2 (by simp)
    | int => cases e1; exact absurd ok1.2 (by simp)
    | str => cases e1; exact absurd ok1.2 (by simp)
    | bl => cases e1
    | ty => cases e1
    | fn => cases e1
    | lst => cases e1
    | scr => cases e1
    | ref => cases e1
    | ptp => cases e1
theorem keyOk_depth {k : NestedKey} (h : keyOk k = true) : k.depth ≤ 8 := by
  unfold keyOk at h
  simp at h
  exact h.1
/-- what a list of such keys asks so that it can be sorted -/
def sortOk (ks : List NestedKey) : Bool := alikeKeys ks && sortableKeys ks && ks.all fun k => decide (k.depth ≤ 8)
def setOk (ks : List NestedKey) : Bool := ks.all keyOk && decide ((uniq ks).length < 64)
def fSort : FN := fun S xs => match xs with
  | [x] => (seqOf S x).bind fun ys => (toKs ys).bind fun ks => if sortOk ks then some (.lst (ofKs (ks.mergeSort keyLe))) else none
  | _ => none
def fSortSet : FN := fun S xs => match xs with
  | [x] => (seqOf S x).bind fun ys => (toKs ys).bind fun ks => if sortOk ks && setOk ks then some (.lst (ofKs (sortKeys ks))) else none
  | _ => none
def fLenSet : FN := fun S xs => match xs with
  | [x] => (seqOf S x).bind fun ys => (toKs ys).bind fun ks => if setOk ks then some (.int (uniq ks).length) else none
  | _ => none
theorem few_of {ks : List NestedKey} {L : List Row} (h : L.map (·.2) = ks) (f : (uniq ks).length < 64) : Few L := fun L' nd sub => by
  have : (L'.map (·.2)).length ≤ (uniq ks).length := nd.length_le_of_subset fun k hk => by
    obtain ⟨p, hp, rfl⟩ := List.mem_map.mp hk
    rw [mem_uniq, ← h]
    exact List.mem_map_of_mem (sub p hp)
  rw [List.length_map] at this
  omega
theorem alike_rows {L : List Row} {ks : List NestedKey} (h : ∀ p ∈ L, p.2 ∈ ks) (al : alikeKeys ks = true) : PySem.W.AllAlike (L.map fun p => p.2.data) := fun d hd d' hd' => by
  obtain ⟨p, hp, rfl⟩ := List.mem_map.mp hd
  obtain ⟨p', hp', rfl⟩ := List.mem_map.mp hd'
  exact alikeKeys_at al (h p hp) (h p' hp')
theorem sortable_rows {L : List Row} {ks : List NestedKey} (h : ∀ p ∈ L, p.2 ∈ ks) (so : sortableKeys ks = true) : Mt.Sort2 (L.map fun p => p.2.data) := by
  have q := sortableKeys_ok so
  refine q.elim (fun q => .inl fun d hd => ?_) (fun q => .inr fun d hd => ?_)
  · obtain ⟨p, hp, rfl⟩ := List.mem_map.mp hd
    exact q _ (List.mem_map_of_mem (h p hp))
  · obtain ⟨p, hp, rfl⟩ := List.mem_map.mp hd
    exact q _ (List.mem_map_of_mem (h p hp))
theorem rows_rvs {g : Gx} {r : List Addr} {H : Hp} : ∀ {L : List Row}, (∀ p ∈ L, RV g r H (ofK p.2) (.ref p.1)) → RVs g r H (ofKs (L.map (·.2))) (L.map fun p => V.ref p.1)
  | [], _ => .nil
  | p :: L, h => .cons (h p List.mem_cons_self) (rows_rvs fun q hq => h q (List.mem_cons_of_mem _ hq))
theorem refs_vals : ∀ {L : List Row} {us : List Value}, Vals (L.map fun p => V.ref p.1) us → us = L.map fun p => Value.ref p.1
  | [], _, .nil => rfl
  | _ :: _, _, .cons a t => by cases a; rw [refs_vals t]; rfl
theorem vals_refs : ∀ (L : List Row), Vals (L.map fun p => V.ref p.1) (L.map fun p => Value.ref p.1)
  | [] => .nil
  | p :: L => .cons rfl (vals_refs L)
section
variable {X : Cx} {g : Gx} {pos : Pos}
/-- set(x), x's items tuples: a new set -/
def rSetG (g : Gx) (P : Program) (w : World) : List V → Hp → VK → Prop := fun vs H Q => ∃ z r S x ys ks, SR (g.at z) r H S ∧ RVs (g.at z) r H [x] vs ∧ seqOf S x = some ys ∧ toKs ys = some ks ∧ setOk ks = true ∧
  ∀ D (L : List Row), H D = none → (L.map (·.2)).Nodup → (∀ k, k ∈ L.map (·.2) ↔ k ∈ ks) → (∀ p ∈ L, RV (g.at z) r H (ofK p.2) (.ref p.1)) → Q (.ref D) (upd H D (SetHO P w D L))
theorem c_set (hK : g.K = X.K) (hc : X.calm = true) (hu : X.A.units + 12 < cLine) : CallR X (.type "set") (rSetG g X.prog X.w) := by
  intro pins s st H vs us Q I rs h
  obtain ⟨z, r, S, x, ys, ks, sr, rx, e1, e2, ok, q⟩ := h
  unfold setOk at ok
  rw [Bool.and_eq_true, decide_eq_true_eq] at ok
  cases rx with
  | cons a b =>
    cases b
    obtain ⟨p, ws, rfl, hp, hz, hs⟩ := seqOf_at sr a e1
    obtain ⟨L, rfl, l2, l3⟩ := refs_of hs e2 ok.1
    rw [show (g.at z).K = X.K from hK] at hp
    obtain ⟨u, rfl, ru⟩ := vals1 rs
    cases ru
    have hn : H s.heap.objs.size
          = none := I.hok.fresh (Nat.le_refl _)
    have mem : ∀ p ∈ L, Mem1 X.prog X.w s.heap p.2 p.1 := fun p hp => by
      have hk : p.2 ∈ ks := by rw [← l2]; exact List.mem_map_of_mem hp
      have hd := keyOk_depth (List.all_eq_true.mp ok.1 p.2 hk)
      exact ⟨(RV.key (g := g.at z) hK I (l3 p hp) (show RelV (.ref p.1) (.ref p.1) from rfl) (toK_ofK p.2)).1, hd⟩
    have fin : ∀ (h' : Heap) (tk : Nat) L' es ep t, SetN X.prog X.w h' s.heap.objs.size L' es ep t → Had L L.length L' → (∀ b o, s.heap.get? b = some o → h'.get? b = some o) → EP X pins st Q (.ref s.heap.objs.size) { s with heap := h', toks := tk } := fun h' tk L' es ep t R hd k => by
      refine ⟨.ref s.heap.objs.size, _, I.laid (t' := tk) k (Nat.le_refl _) R.bare.ok, rfl, q _ L' hn R.nd (fun k => ⟨fun hk => ?_, fun hk => ?_⟩) fun p hp => l3 p (List.mem_of_mem_take (hd.sub p hp))⟩
      · obtain ⟨p, hp, rfl⟩ := List.mem_map.mp hk
        rw [← l2]
        exact List.mem_map_of_mem (List.mem_of_mem_take (hd.sub p hp))
      · rw [← l2] at hk
        obtain ⟨p, hp, rfl⟩ := List.mem_map.mp hk
        exact hd.all p (by rw [List.take_length]; exact hp)
    rcases hp with hp | ⟨hp, _⟩
    · obtain ⟨its, rv, pl, _⟩ := I.list hp
      exact set_of_list (I.ok.hd hc) pl.isList (by simpa using refs_vals rv) mem (few_of l2 ok.2) hu fin
    · obtain ⟨its, rv, pl, _⟩ := I.tuple hp
      exact set_of_tuple (I.ok.hd hc) pl (by simpa using refs_vals rv) mem (few_of l2 ok.2) hu fin
/-- sorted(set) -/
def rSortG (g : Gx) (P : Program) (w : World) : List V → Hp → VK → Prop := fun vs H Q => ∃ z r S D L ks, SR (g.at z) r H S ∧ vs = [.ref D] ∧ H D = some (SetHO P w D L) ∧ (L.map (·.2)).Nodup ∧ (∀ k, k ∈ L.map (·.2) ↔ k ∈ ks) ∧ (∀ p ∈ L, RV (g.at z) r H (ofK p.2) (.ref p.1)) ∧
  sortOk ks = true ∧ ∀ r' H' hv, Step r H r' H' → SR (g.at z) r' H' S → RV (g.at z) r' H' (.lst (ofKs (sortKeys ks))) hv → Q hv H'
theorem c_sortSet (hK : g.K = X.K) (hc : X.calm = true) (hu : X.A.units + 20 < cLine) : CallR X (.builtin "sorted") (rSortG g X.prog X.w) := by
  intro pins s st H vs us Q I rs h
  obtain ⟨z, r, S, D, L, ks, sr, rfl, hD, nd, mk, l3, ok, q⟩ := h
  unfold sortOk at ok
  simp only
        [Bool.and_eq_true] at ok
  obtain ⟨⟨al, so⟩, dp⟩ := ok
  obtain ⟨u, rfl, ru⟩ := vals1 rs
  cases ru
  have sub : ∀ p ∈ L, p.2 ∈ ks := fun p hp => (mk p.2).mp (List.mem_map_of_mem hp)
  have deep : ∀ p ∈ L, p.2.depth ≤ 8 := fun p hp => by
    have := List.all_eq_true.mp dp p.2 (sub p hp)
    simpa using this
  have both : ∀ p ∈ L, NestedIs s.heap p.2 (.ref p.1) ∧ Reads s.heap (.ref p.1) p.2.data [] := fun p hp => RV.key (g := g.at z) hK I (l3 p hp) (show RelV (.ref p.1) (.ref p.1) from rfl) (toK_ofK p.2)
  have R0 : SetN0 X.prog X.w s.heap D L := (I.hok D _ hD).1
  obtain ⟨es, ep, t, R⟩ := R0.full fun p hp => ⟨(both p hp).1, deep p hp⟩
  have few := R.few
  refine sorted_of_set R (I.ok.hd hc) (fun p hp => (both p hp).2) hu (alike_rows sub al) (sortable_rows sub so) (fun p hp => by rw [data_depth]; have := deep p hp; omega) fun s' l out c L1 k g1 o1 hl hg pm eo => ?_
  have hn : H l = none := I.hok.fresh hl
  have len : (L1.mergeSort rowLe).length = L.length := by rw [List.length_mergeSort, pm.length_eq]
  have vs' : Vals ((L1.mergeSort rowLe).map fun p => V.ref p.1) out.toList := by rw [eo]; exact vals_refs _
  have hz : ((L1.mergeSort rowLe).map fun p => V.ref p.1).length ≤ sizeLine := by rw [List.length_map, len, sizeLine_eq]; omega
  have J : Inv X pins st (upd H l (.lst ((L1.mergeSort rowLe).map fun p => V.ref p.1))) { s with heap := s'.heap, gens := s'.gens, drawn := s'.drawn, toks := s'.toks } :=
    I.call (ch := []) (Un.laid k hl hn) (I.hok.laid k hl ⟨hz, out.toList, c, vs', hg⟩) (by rw [g1]; exact I.bare) (fun _ z => nomatch z)
  have es' : s' = { s with heap := s'.heap, gens := s'.gens, drawn := s'.drawn, toks := s'.toks } := by
    obtain ⟨_, _, _, _, _⟩ := s'
    cases o1
    rfl
  rw [es']
  have keys : (L1.mergeSort rowLe).map (·.2) = sortKeys ks := by
    rw [List.map_mergeSort (r := rowLe) (s := keyLe) (f := fun p : Row => p.2) (l := L1) (fun a _ b _ => rfl)]
    refine sortKeys_of al ((pm.map (·.2)).nodup_iff.mpr nd) fun k => ?_
    rw [(pm.map (·.2)).mem_iff]
    exact mk k
  refine ⟨.ref l, _, J, rfl, q r _ (.ref l) (Step.new1 hn) (sr.beside hn) ?_⟩
  rw [← keys]
  refine RV.newL sr hn ?_ (rows_rvs fun p hp => l3 p (pm.mem_iff.mp ((List.mergeSort_perm _ _).mem_iff.mp hp)))
  rw [ofKs_map, List.length_map, List.length_map, len, sizeLine_eq]
  omega
/-- sorted(set(e)) as one word -/
theorem d_sortSet {e : Expr} {m : ME} {p p2 pos2 : Pos} (hK : g.K = X.K) (hc : X.calm = true) (hu : X.A.units + 20 < cLine) (hg : Gl X "sorted") (hm : X.mg "sorted" = none) (hg2 : Gl X "set") (hm2 : X.mg "set" = none) (he : PE X e (tD g m))
    (hs : starEach [e] X.env = (false, eval e X.env) :: starEach [] X.env := by rfl) (hs2 : starEach [.Call (.Name "set" p2) [e] [] pos2] X.env = (false, eval (.Call (.Name "set" p2) [e] [] pos2) X.env) :: starEach [] X.env := by rfl) :
    PE X (.Call (.Name "sorted" p) [.Call (.Name "set" p2) [e] [] pos2] [] pos) (tD g (eFn fSortSet (esCons m esNil))) := by
  refine PE.weak (pe_callB (c_sortSet hK hc hu) hg hm (by decide +kernel) (pa_cons (pe_callTy (c_set hK hc (by omega)) hg2 hm2 (by decide +kernel) (d_cons he d_nil hs) (he := hs)) pa_nil hs2) (he := hs2)) fun st H Q h => ?_
  obtain ⟨z, r, S, sl, v, S', R, e, q⟩ := h
  simp only [eFn, esCons, esNil, Option.bind_eq_some_iff] at e
  obtain ⟨⟨xs, S1⟩, ⟨⟨x, S2⟩, e1, ⟨ys, S3⟩, e2, e3⟩, w, e4, e5⟩ := e
  cases e2
  cases e3
  cases e5
  simp only [fSortSet, Option.bind_eq_some_iff] at e4
  obtain ⟨ys, f1, ks, f2, f3⟩ := e4
  split at f3
  · rename_i ok
    cases f3
    rw [Bool.and_eq_true] at ok
    refine ⟨z, r, S, sl, [x], _, R, by simp [esCons, esNil, e1], fun r1 H1 vs s1 sr1 rx => ⟨z, r1, _, x, ys, ks, sr1, rx, f1, f2, ok.2, fun D L hD nd mk l3 => ?_⟩⟩
    have st := Step.new1 (r := r1) (o := SetHO X.prog X.w D L) hD
    refine ⟨z, r1, _, D, L, ks, sr1.beside hD, rfl, upd_same, nd, mk, fun p hp => (l3 p hp).mono st sr1.own, ok.1, fun r2 H2 hv s2 sr2 rv => q r2 H2 hv ((s1.trans st).trans s2) sr2 rv⟩
  · cases f3
end
end Mp
namespace Mp
open PySem PySem.Spec PySem.Calls PyProof.Rows L2

/-! ### sets of texts -/
def txtOf (e : Int × Value) : Str := match e.2 with
  | .str x _ => x
  | _ => Str.empty
def TxtE (w : World) (e : Int × Value) : Prop := ∃ x t, e.2 = Value.str x t ∧ e.1 = hashStr w x
structure SetT (w : World) (h : Heap) (a : Addr) (T : List Str) (es : Array (Int × Value)) (ep : Nat) (t : SetTable) : Prop where
  ob : ∃ o, h.get? a = some o
        ∧ o.ExactSet ∧ o.data = .set es ep t
  rows : ∀ e ∈ es.toList, TxtE w e
  txt : es.toList.map txtOf = T
  nd : T.Nodup
  few : es.size < scanBound
  fits : t.fits es.size = true
  ris : Ris t.place.toList
  led : w.params.followText "set-order"
        = true ∨ t.led = true
section
variable {P : Program} {w : World} {A : Around} {E : Value → Shared → Prop} {s : Shared} {a : Addr} {T : List Str} {es : Array (Int × Value)} {ep : Nat} {t : SetTable}
theorem txt_elems {l : List (Int × Value)} (g : ∀ e ∈ l, TxtE w e) : ElemsOf (PySem.strKind P w) l := fun e he => by
  obtain ⟨x, tk, e1, e2⟩ := g e he
  rw [e1]
  exact ⟨⟨x, PySem.strKind_is P w x tk, e2⟩, rfl⟩
theorem txt_is {e : Int × Value} (g : TxtE w e) (x : Str) : (PySem.strKind P w).is x e.2 = true ↔ txtOf e = x := by
  obtain ⟨y, tk, e1, _⟩ := g
  unfold txtOf
  rw [e1]
  show (y == x) = true ↔ y = x
  exact beq_iff_eq
theorem SetT.kept {h h' : Heap} (R : SetT w h a T es ep t) (k : ∀ o, h.get? a = some o → h'.get? a = some o) : SetT w h' a T es ep t := by
  obtain ⟨o, e, r⟩ := R.ob
  exact { R with ob := ⟨o, k o e, r⟩ }
theorem setT_fresh {h : Heap} (e : h.get? a = some (freshSet w)) : SetT w h a [] #[] 0 (.fresh 0 0 (!w.params.followText "set-order")) := by
  refine ⟨⟨_, e, ⟨rfl, rfl, rfl⟩, rfl⟩, fun e he => (by simp at he), rfl, List.nodup_nil, by decide, by rfl, by show Ris []; exact List.Pairwise.nil, ?_⟩
  by_cases hf : w.params.followText "set-order" = true
  · exact .inl hf
  · exact .inr (by show (!w.params.followText "set-order") = true; simp [hf])
theorem txt_tail {gw : Bool → Sem Unit} (hg : ∀ (b : Bool) (s1 : Shared) (Q' : Unit → Shared → Prop), Q' () s1 → wpAny (model P w) A (gw b) Q' E s1) {o : Obj} (e1 : s.heap.get? a = some o) (e2 : o.ExactSet) (e3 : o.data = .set es ep t) {es1 : Array (Int × Value)} {tb : SetTable} {T1 : List Str}
    (rows : ∀ e ∈ es1.toList, TxtE w e) (txt : es1.toList.map txtOf = T1) (nd : T1.Nodup) (few : es1.size < scanBound) (fits : tb.fits es1.size = true) (ris : Ris tb.place.toList) (led : w.params.followText "set-order" = true ∨ tb.led = true) {was : Bool} {R : Option Bool → Shared → Prop}
    (q : ∀ h' T' es' ep' t', Heap.SameBut a s.heap h' → SetT w h' a T' es' ep' t' → T'.Perm T1 → R (some true) { s with heap := h' }) :
    wpAny (model P w) A (do
        storeSet a es1 tb
        if (!was && tb.tooFull) = true then do
            gw (relayAll tb es1 (SetTable.grown es1.size)).2.2
            storeSet a (relayAll tb es1 (SetTable.grown es1.size)).1 (relayAll tb es1 (SetTable.grown es1.size)).2.1
            pure (some true)
          else pure
                (some true)) R E s := by
  refine wpAny_bind (wpAny_storeSet_of e1 e3 ?_ (fits_of_scanBound few))
  have o1 := store_at (es' := es1) (t' := tb) e1 e3
  have sb := Heap.SameBut.update s.heap a (Obj.putSet es1 tb)
  by_cases full : (!was && tb.tooFull) = true
  · refine wp_if_pos full ?_
    have pm := relayAll_perm tb es1 (SetTable.grown es1.size)
    have f2 := relayAll_fits tb es1 (SetTable.grown es1.size)
    have r2 := relayAll_ris tb es1 (SetTable.grown es1.size)
    have l2 := relayAll_led tb es1 (SetTable.grown es1.size)
    generalize relayAll tb es1 (SetTable.grown es1.size) = Z at pm f2 r2 l2 ⊢
    obtain ⟨es2, t2, gave⟩ := Z
    dsimp only at pm f2 r2 l2 ⊢
    have z2 : es2.size < scanBound := by rw [← Array.length_toList, pm.length_eq, Array.length_toList]; exact few
    refine wpAny_bind (hg _ _ _ (wpAny_bind (wpAny_storeSet_of o1 rfl ?_ (fits_of_scanBound z2))))
    have o2 := store_at (es' := es2) (t' := t2) o1 rfl
    have pt : (es2.toList.map txtOf).Perm T1 := by rw [← txt]; exact pm.map _
    exact wpAny_pure (q _ _ es2 _ t2 (sb.trans (Heap.SameBut.update _ a _)) ⟨⟨_, o2, e2, rfl⟩, fun e he => rows e (pm.mem_iff.mp he), rfl, pt.nodup_iff.mpr nd, z2, f2, r2, by rw [l2]; exact led⟩ pt)
  · refine wp_if_neg full ?_
    exact wpAny_pure (q _ T1 es1 _ tb sb ⟨⟨_, o1, e2, rfl⟩, rows, txt, nd, few, fits, ris, led⟩ (List.Perm.refl _))
/-- one more text -/
theorem put_txt (R : SetT w s.heap a T es ep t) {x : Str} {tk : Tok} (room : es.size + 1 < scanBound) {Q : Bool → Shared → Prop}
    (q : ∀ b h' T' es' ep' t', Heap.SameBut a s.heap h' → SetT w h' a T' es' ep' t' → (x ∈ T → T' = T) → (x ∉ T → T'.Perm (x :: T)) → Q b { s with heap := h' }) :
    wpAny (model P w) A (setAddHashed a (.str x tk) (hashStr w x)) Q E s := by
  obtain ⟨o, e1, e2, e3⟩ := R.ob
  have hel : ElemsOf (PySem.strKind P w) es.toList := txt_elems R.rows
  have hkey : (PySem.strKind P w).is x (.str x tk) = true := PySem.strKind_is P w x tk
  unfold setAddHashed
        setAddHashedIn
  refine wpAny_holding (wpAny_bind (wpAny_setState_of e1 e3 R.fits ?_))
  dsimp only
  rw [byScan_of rfl R.few hel]
  simp only [↓reduceIte]
  unfold setAddByScan
  refine wpAny_bind (wpAny_bind (wpAny_rule (wpAny_bind (m := setScan a (.str x tk) ((PySem.strKind P w).hash x) true es) (wpAny_setScan_of hkey e1 e3 R.fits hel ?_))))
  cases hf : es.toList.findIdx? (fun e => (PySem.strKind P w).is x e.2) with
  | some j =>
    obtain ⟨hj, pj, _⟩ := List.findIdx?_eq_some_iff_getElem.mp hf
    have hx : x ∈ T := by
      rw [← R.txt, List.mem_map]
      exact ⟨_, List.getElem_mem hj, (txt_is (P := P) (R.rows _ (List.getElem_mem hj)) x).mp pj⟩
    refine wpAny_pure
          (wpAny_pure ?_)
    exact q false s.heap T es ep t (Heap.SameBut.refl a s.heap) R (fun _ => rfl) fun z => absurd hx z
  | none =>
    have hx : x ∉ T := fun z => by
      rw [← R.txt, List.mem_map] at z
      obtain ⟨e, he, ee⟩ := z
      have c := List.findIdx?_eq_none_iff.mp hf e he
      rw [(txt_is (P := P) (R.rows e he) x).mpr ee] at c
      cases c
    have quiet : ∀ (b : Bool) {s1 : Shared} {Q' : Unit → Shared → Prop}, Q' () s1 → wpAny (model P w) A (match b with | true => rule "set.scan.the-table-gave-way" | false => pure ()) Q' E s1 := fun b s1 Q' z => by
      cases b
      · exact wpAny_pure z
      · exact wpAny_rule z
    have pm := layNew_perm t es (hashStr w x) (.str x tk)
    have f1 := layNew_fits t es (hashStr w x) (.str x tk)
    have r1 := layNew_ris t es (hashStr w x) (.str x tk) R.ris
    have l1 := layNew_led t es (hashStr w x) (.str x tk)
    dsimp only
    change wpAny _ _ (do
      let (es, t, wasDummy, gave) := layNew t es (hashStr w x) (.str x tk)
      _) _ _ _
    generalize layNew t es (hashStr w x) (.str x tk) = Z at pm f1 r1 l1 ⊢
    obtain ⟨es1, t1, was, gave⟩ := Z
    dsimp only at pm f1 r1 l1 ⊢
    rw [Array.toList_push] at pm
    have pc : es1.toList.Perm ((hashStr w x, Value.str x tk) :: es.toList) := pm.trans (List.perm_append_singleton _ _)
    have pt : (es1.toList.map txtOf).Perm (x :: T) := by rw [← R.txt]; exact pc.map txtOf
    have rows : ∀ e ∈ es1.toList, TxtE w e := fun e he => by
      rcases List.mem_cons.mp (pc.mem_iff.mp he) with rfl | z
      · exact ⟨x, tk, rfl, rfl⟩
      · exact R.rows e z
    have few : es1.size < scanBound := by rw [← Array.length_toList, pc.length_eq, List.length_cons, Array.length_toList]; exact room
    have nd1 : (es1.toList.map txtOf).Nodup := pt.nodup_iff.mpr (List.nodup_cons.mpr ⟨hx, R.nd⟩)
    have led1 : w.params.followText "set-order" = true ∨ t1.led = true := by rw [l1]; exact R.led
    refine wpAny_bind (quiet _ ?_)
    by_cases pl : t1.plain = true
    · refine wp_if_pos pl (wpAny_bind ?_)
      rw [hashByValue_scannable 8 (x := .str x tk) rfl]
      refine wpAny_pure ?_
      refine txt_tail (T1 := es1.toList.map txtOf) ?_ e1 e2 e3 rows rfl nd1 few ?_ ?_ ?_ ?_
      · exact fun b s1 Q' z => quiet b z
      · split
        · exact f1
        · exact SetTable.fits_plain_off f1
      · split <;> exact r1
      · split <;> exact led1
      · exact fun h' T' es' ep' t' sb R' p => wpAny_pure (q true h' T' es' ep' t' sb R' (fun z => absurd z hx) fun _ => p.trans pt)
    · refine wp_if_neg pl (wpAny_bind (wpAny_pure ?_))
      simp only [↓reduceIte]
      refine txt_tail (T1 := es1.toList.map txtOf) ?_ e1 e2 e3 rows rfl nd1 few f1 r1 led1 ?_
      · exact fun b s1 Q' z => quiet b z
      · exact fun h' T' es' ep' t' sb R' p => wpAny_pure (q true h' T' es' ep' t' sb R' (fun z => absurd z hx) fun _ => p.trans pt)
end
end Mp
namespace Mp
open PySem PySem.Spec PySem.Calls PyProof.Rows L2
section
variable {P : Program} {w : World} {A : Around}
      {E : Value → Shared → Prop} {s : Shared}
theorem txt_loop {I : Addr} {fp wr : List Addr} {G : Array GenState → Array GenState → Prop} {n : Nat} {Pv : Nat → Value → Prop} {St : Nat → Shared → Prop} {R : Result → Shared → Prop}
    (W : WalksS P w A.in1 I fp wr G n Pv St) {D : Addr} (hD : D ∉ fp) {xs : List Str} (hn : n = xs.length) (few : xs.length + 1 < scanBound) (hval : ∀ i v, Pv i v → ∃ x tk, xs[i]? = some x ∧ v = .str x tk)
    {h0 : Heap} (hD0 : h0.get? D = none) (hw0 : ∀ b ∈ wr, h0.get? b = none) :
    ∀ (j i : Nat) (s : Shared), n - i = j → i ≤ n → St i s → (∀ b o, h0.get? b = some o → s.heap.get? b = some o) → (∃ T es ep t, SetT w s.heap D T es ep t ∧ (∀ x, x ∈ T ↔ x ∈ xs.take i) ∧ es.size ≤ i) →
      (∀ s' T es ep t, Moved (D :: wr) G s s' → SetT w s'.heap D T es ep t → (∀ x, x ∈ T ↔ x ∈ xs) → (∀ b o, h0.get? b = some o → s'.heap.get? b = some o) → R (.ok (.ret .none)) s') →
      codeAny (model P w) A (.builtin "set.update.loop" ⟨[.ref D, .ref I], []⟩) R s := by
  have dw : D ∉ wr := fun z => hD (W.sub _ z)
  have keep : ∀ {s s' : Shared}, Moved wr G s s' → (∀ b o, h0.get? b = some o → s.heap.get? b = some o) → ∀ b o, h0.get? b = some o → s'.heap.get? b = some o := fun m k b o e => m.heap b o (fun z => by rw [hw0 b z] at e; cases e) (k b o e)
  have subs : ∀ b ∈ wr, b ∈ D :: wr := fun b hb => List.mem_cons_of_mem _ hb
  intro j
  induction j with
  | zero =>
    intro i s hj hi hst kp hL hR
    obtain ⟨T, es, ep, t, hS, g, _⟩ := hL
    obtain rfl : i = n := by omega
    refine codeAny_builtin
          F.entry_set_update_loop ?_
    rw [Around.under_plainId
          F.plain_set_update_loop _]
    refine wpAny_bind (m := pyNext (.ref I)) (W.done s _ _ hst fun s' m => ?_)
    refine wpAny_pure (hR s' T es ep t (m.mono subs) (hS.kept fun o e => m.heap D o dw e) (fun x => ?_) (keep m kp))
    rw [g x, hn, List.take_length]
  | succ j ih =>
    intro i s hj hi hst kp hL hR
    obtain ⟨T, es, ep, t, hS, g, sz⟩ := hL
    have lt : i < n := by omega
    refine codeAny_builtin
          F.entry_set_update_loop ?_
    rw [Around.under_plainId
          F.plain_set_update_loop _]
    refine wpAny_bind (m := pyNext (.ref I)) (W.item i s _ _ lt hst fun v s' hP hst' m => ?_)
    obtain ⟨x, tk, hx, rfl⟩ := hval i v hP
    have kp' := keep m kp
    have hS' : SetT w s'.heap D T es ep t := hS.kept fun o e => m.heap D o dw e
    refine wpAny_bind (m := holding [Value.str x tk] (setAdd D (.str x tk))) (wpAny_holding ?_)
    unfold setAdd
    refine wpAny_holding (wpAny_bind (wpAny_pyHash_str ?_))
    refine put_txt (s := { s' with toks := s'.toks + 1 }) hS' (by omega) fun b h' T' es' ep' t' sb R' c1 c2 => ?_
    have sz' : es'.size ≤ i + 1 := by
      have a1 : es'.size = T'.length := by rw [← R'.txt, List.length_map, Array.length_toList]
      have a2 : es.size = T.length := by rw [← hS'.txt, List.length_map, Array.length_toList]
      by_cases c : x ∈ T
      · rw [a1, c1 c]; omega
      · rw [a1, (c2 c).length_eq, List.length_cons]; omega
    have g' : ∀ y, y ∈ T' ↔ y ∈ xs.take (i + 1) := fun y => by
      rw [take_one hx, List.mem_append, List.mem_singleton]
      by_cases c : x ∈ T
      · rw [c1 c, g y]
        constructor
        · exact .inl
        · rintro (z | rfl)
          · exact z
          · exact (g y).mp c
      · rw [(c2 c).mem_iff, List.mem_cons, g y]
        exact Or.comm
    have kp2 : ∀ b o, h0.get? b = some o → h'.get? b = some o := fun b o e => (sb.2 b (fun z => by rw [z, hD0] at e; cases e)).trans (kp' b o e)
    refine wpAny_pure ⟨plainId_quiet F.plain_set_update_loop _, ih (i + 1) _ (by omega) lt (W.frame _ s' _ _ hst' (Nat.le_add_right _ _) fun b hb o e => ?_) kp2 ⟨T', es', ep', t', R', g', sz'⟩ fun s2 T2 es2 ep2 t2 m2 R2 g2 kp3 => ?_⟩
    · rw [sb.2 b fun z => hD (z ▸ hb)]; exact e
    · refine hR s2 T2 es2 ep2 t2 (Moved.trans W.gtrans ((m.mono subs).then_heap (Nat.le_add_right _ _) fun b o hb e => ?_) m2) R2 g2 kp3
      rw [sb.2 b fun z => hb (z ▸ List.mem_cons_self)]; exact e
set_option maxHeartbeats 1600000
  in
/-- set(list), of texts -/
theorem set_of_txts {l : Addr} {items : Array Value} {xs : List Str} {Q : Value → Shared → Prop} (hh : A.handled = none) (hl : s.heap.IsList l items) (hit : ∀ (i : Nat) (v : Value), items[i]? = some v → ∃ (x : Str) (tk : Tok), xs[i]? = some x ∧ v = Value.str x tk) (isz : items.size = xs.length) (few : xs.length + 1 < scanBound)
    (q : ∀ (h' : Heap) (tk : Nat) T es ep t, SetT w h' s.heap.objs.size T es ep t → (∀ x, x ∈ T ↔ x ∈ xs) → (∀ b o, s.heap.get? b = some o → h'.get? b = some o) → Q (.ref s.heap.objs.size) { s with heap := h', toks := tk }) :
    wpAny (model P w) A (call
          (.type "set") [.ref l]) Q E s := by
  refine set_shell (Z := fun s2 => ∃ h' tk T es ep t, s2 = { s with heap := h', toks := tk } ∧ SetT w h' s.heap.objs.size T es ep t ∧ (∀ x, x ∈ T ↔ x ∈ xs) ∧ (∀ b o, s.heap.get? b = some o → h'.get? b = some o)) ?_ fun s2 ⟨h', tk, T, es, ep, t, e, R, g, k⟩ => by
    subst e
    exact q _ _ _ _ _ _ R g k
  have none_at : ∀ b, s.heap.objs.size ≤ b → s.heap.get? b = none := fun b hb => by
    cases e : s.heap.get? b with
    | none => rfl
    | some o => exact absurd (Heap.lt_size e) (Nat.not_lt.mpr hb)
  have hD : (s.heap.push (freshSet w)).get? s.heap.objs.size = some (freshSet w) := Heap.get?_push_size _ rfl
  have ty : Shared.TypeIs { s with heap := s.heap.push (freshSet w) } (.ref s.heap.objs.size) "set" := ⟨_, hD, rfl⟩
  obtain ⟨ol, l1, l2, nl, l3⟩ := hl
  obtain ⟨oc, od, dt, sl⟩ := ol
  simp only at l2 l3
  subst l2 l3
  have l4 : (s.heap.push (freshSet w)).get? l = some { cls := .type "list", dict := od, data := .seq items nl, slots := sl } := Heap.get?_push_of_some _ l1
  have s1 := F.sub_list_set
  have s2 := F.sub_list_frozenset
  have s3 : (Value.type "list" == Value.type "dict") = false := by decide
  have l5 : (s.heap.push (freshSet w)).IsList l items := ⟨_, l4, rfl, nl, rfl⟩
  unfold Builtin.«set.__init__»
        noKeywords Builtin.Frozenset.updateFrom
  generalize hIter : pyIter = iter0
  wp_walk
  subst hIter
  refine wpAny_pyIter_list l5 (wpAny_bind (wpAny_runValue ?_))
  have ll : l < s.heap.objs.size := Heap.lt_size l1
  have z1 : (s.heap.push (freshSet w)).objs.size = s.heap.objs.size + 1 := Heap.size_push ..
  have ne : l ≠ (s.heap.push (freshSet w)).objs.size := by rw [z1]; exact Nat.ne_of_lt (Nat.lt_succ_of_lt ll)
  have nD : s.heap.objs.size ∉ [(s.heap.push (freshSet w)).objs.size, l] := by
    rw [z1]
    simp only [List.mem_cons, List.not_mem_nil, or_false, not_or]
    exact ⟨Nat.ne_of_lt (Nat.lt_succ_self _), Nat.ne_of_gt ll⟩
  refine txt_loop (h0 := s.heap) ((Walks.list (by simp [hh]) _ l ne items).toS) nD isz few hit (none_at _ (Nat.le_refl _)) (fun b hb => none_at b (by rw [List.mem_singleton.mp hb, z1]; exact Nat.le_succ _)) (items.size - 0) 0 _ (by omega) (Nat.zero_le _)
    ⟨⟨_, Heap.get?_push_size _ rfl, rfl, rfl⟩, l5.push _⟩ (fun b o e => Heap.get?_push_of_some _ (Heap.get?_push_of_some _ e)) ⟨[], #[], 0, _, setT_fresh (Heap.get?_push_of_some _ hD), fun x => by simp, by simp⟩ fun s' T es ep t m R g k => ?_
  obtain ⟨h', g', d',
        tk', os'⟩ := s'
  obtain rfl : g' = s.gens := m.gens
  obtain rfl : d' = s.drawn := m.drawn
  obtain rfl : os' = s.os := m.os
  refine wpAny_pure ?_
  exact wpAny_pure ⟨rfl, h', tk', T, es, ep, t, rfl, R, g, k⟩

theorem txts_each : ∀ {vs : List Value} {ts : List Str}, PySem.W.EachIs (fun v x => ∃ tk, v = Value.str x tk) vs ts → Vals (ts.map V.str) vs
  | _, _, .nil => .nil
  | _, _, .cons ⟨tk, e⟩ t => .cons ⟨tk, e⟩ (txts_each t)
theorem each_txts : ∀ (vs : List Value), (∀ v ∈ vs, ∃ x tk, v = Value.str x tk) → PySem.W.EachIs (fun v x => ∃ tk, v = Value.str x tk) vs (vs.map fun v => txtOf (0, v))
  | [], _ => .nil
  | v :: vs, h => by
    refine .cons ?_ (each_txts vs fun u hu => h u (List.mem_cons_of_mem _ hu))
    obtain ⟨x, tk, rfl⟩ := h v List.mem_cons_self
    exact ⟨tk, rfl⟩
/-- sorted(set), of texts -/
theorem sorted_of_txts {a : Addr} {T : List Str} {es : Array (Int × Value)} {ep : Nat} {t : SetTable} {Q : Value → Shared → Prop} (R : SetT w s.heap a T es ep t) (hh : A.handled = none) (hu : A.units + 20 < cLine)
    (q : ∀ s' l (out : Array Value) (c : Nat) (T1 : List Str), (∀ b o, s.heap.get? b = some o → s'.heap.get? b = some o) → s'.gens = s.gens → s'.os = s.os → s.heap.objs.size ≤ l →
      s'.heap.get? l = some (seqObj "list" out c) → T1.Perm T → Vals ((T1.mergeSort fun x y => keyLe (.text x) (.text y)).map V.str) out.toList → Q (.ref l) s') :
    wpAny (model P w) A (call
          (.builtin "sorted") [.ref a]) Q E s := by
  obtain ⟨o, e1, e2, e3⟩ := R.ob
  have few := R.few
  refine Calls.call_function_entry kind_sorted
        plain_sorted entry_sorted (args_sorted1 _) ?_
  unfold Builtin.«sorted»
  refine wpAny_bind
        (m := checkCount "sorted" 1 1 _) (wpAny_pure ?_)
  refine wpAny_bind (collect_set (A := A.in1) hh ⟨o, e1, e2.1, e3⟩ R.fits few R.ris R.led fun s1 vs k1 z1 g1 o1 pm => ?_)
  have alls : ∀ v ∈ vs, ∃ x tk, v = Value.str x tk := fun v hv => by
    obtain ⟨e, he, rfl⟩ := List.mem_map.mp (pm.mem_iff.mp hv)
    obtain ⟨x, tk, e1, _⟩ := R.rows e he
    exact ⟨x, tk, e1⟩
  have len : vs.length = es.size := by rw [pm.length_eq, List.length_map, Array.length_toList]
  have pT : (vs.map fun v => txtOf (0, v)).Perm T := by
    have := pm.map fun v => txtOf (0, v)
    rw [List.map_map] at this
    rw [← R.txt]
    exact this
  have zl : vs.length ≤ sizeLine := by rw [len]; exact fits_of_scanBound few
  refine wpAny_bind (wpAny_newList ?_ zl)
  have hl : (s1.heap.push (seqObj "list" vs.toArray 0)).get? s1.heap.objs.size = some (seqObj "list" vs.toArray 0) := Heap.get?_push_size _ rfl
  have ea := each_txts vs alls
  refine wpAny_bind (wpAny_holding (PySem.W.list_sort_data (s := { s1 with heap := s1.heap.push (seqObj "list" vs.toArray 0) }) (bs := vs.map fun v => txtOf (0, v)) (enc := fun x => .str x) (R := fun v x => ∃ tk, v = Value.str x tk) hl ea
    (ea.mono fun v x ⟨tk, e⟩ => ⟨[], by rw [e]; exact .str x tk, by simp⟩) (PySem.W.AllAlike.of fun x y => by simp [PySem.W.alike]) (PySem.W.Sortable.others fun x => ⟨by simp, by simp⟩) (by rw [List.length_map]; exact zl)
    (fun x _ => by show A.units + 1 + 1 + (PyData.str x).depth < cLine; simp [PyData.depth]; omega) fun out a1 a2 => ?_))
  obtain ⟨c, hc⟩ := sortedHeap_at (vs := vs) (out := out.toArray) hl
  refine wpAny_pure ⟨_, rfl, q _ s1.heap.objs.size out.toArray c (vs.map fun v => txtOf (0, v)) (fun b u e => ?_) g1 o1 z1 hc pT (txts_each a2)⟩
  have q1 := k1 b u e
  have hlt := Heap.lt_size q1
  show (sortedHeap (s1.heap.push (seqObj "list" _ 0)) s1.heap.objs.size _ out.toArray).get? b = some u
  rw [sortedHeap_old (Nat.ne_of_lt hlt) (by rw [size_push']; exact Nat.lt_succ_of_lt hlt), Heap.get?_push_of_some _ q1]
end
end Mp
namespace Mp
open PySem PySem.Spec
      PyProof.Rows L2

def SetT0 (w : World) (h : Heap) (a : Addr) (T : List Str) : Prop := ∃ es ep t, SetT w h a T es ep t
def TxtHO (w : World) (a : Addr) (T : List Str) : HO := .ext fun h => SetT0 w h a T
theorem SetT.ok {P : Program} {w : World} {H : Hp} {h : Heap} {a : Addr} {T : List Str} {es : Array (Int × Value)} {ep : Nat} {t : SetTable} (R : SetT w h a T es ep t) : ObjOk P w H h a (TxtHO w a T) := by
  refine ⟨⟨es, ep, t, R⟩, ?_, fun h1 h2 p k => ?_⟩
  · obtain ⟨o, e, _⟩ := R.ob
    exact ⟨o, e⟩
  · obtain ⟨es, ep, t, R⟩ := p
    exact ⟨es, ep, t, R.kept k⟩
/-- texts -/
def toT : List Val → Option (List Str)
  | [] => some []
  | .str x :: xs => (toT xs).map fun ys => x :: ys
  | _ => none
theorem toT_at {g : Gx} {r : List Addr} {H : Hp} : ∀ {xs : List Val} {vs : List V} {ys : List Str}, RVs g r H xs vs → toT xs = some ys → vs = ys.map V.str
  | _, _, _, .nil, e => by cases e; rfl
  | _, _, _, .cons (.str b) t, e => by
    simp only [toT, Option.map_eq_some_iff] at e
    obtain ⟨ys, e1, rfl⟩ := e
    rw [toT_at t e1]; rfl
  | _, _, _, .cons .non _, e => by cases e
  | _, _, _, .cons (.int _) _, e => by cases e
  | _, _, _, .cons (.bl _) _, e => by cases e
  | _, _, _, .cons (.ty _) _, e => by cases e
  | _, _, _, .cons (.fn _) _, e => by cases e
  | _, _, _, .cons (.tup ..) _, e => by cases e
  | _, _, _, .cons (.lst ..) _, e => by cases e
  | _, _, _, .cons (.scr ..) _, e => by cases e
  | _, _, _, .cons (.ref _) _, e => by cases e
  | _, _, _, .cons (.ptp ..) _, e => by cases e
theorem str_items : ∀ {xs : List Str} {us : List Value}, Vals (xs.map V.str) us → us.length = xs.length ∧ ∀ (i : Nat) (v : Value), us[i]? = some v → ∃ (x : Str) (tk : Tok), xs[i]? = some x ∧ v = Value.str x tk
  | [], _, .nil => ⟨rfl, fun i v e => by simp at e⟩
  | x :: xs, _, .cons a t => by
    obtain ⟨l1, l2⟩ := str_items t
    obtain ⟨tk, rfl⟩ := a
    refine ⟨by simp [l1], fun i v e => ?_⟩
    cases i with
    | zero => simp at e; exact ⟨x, tk, rfl, e.symm⟩
    | succ i => exact l2 i v (by simpa using e)
theorem strs_rvs {g : Gx} {r : List Addr} {H : Hp} : ∀ (xs : List Str), RVs g r H (xs.map Val.str) (xs.map V.str)
  | [] => .nil
  | x :: xs => .cons (.str x) (strs_rvs xs)
def uniqT : List Str → List Str
  | [] => []
  | k :: ks => if k ∈ uniqT ks then uniqT ks else k :: uniqT ks
theorem mem_uniqT {k : Str} : ∀ {ks : List Str}, k ∈ uniqT ks ↔ k ∈ ks
  | [] => Iff.rfl
  | x :: ks => by
    unfold uniqT
    split
    · rename_i h
      rw [List.mem_cons, mem_uniqT]
      constructor
      · exact .inr
      · rintro (rfl | h')
        · exact mem_uniqT.mp h
        · exact h'
    · rw [List.mem_cons, List.mem_cons, mem_uniqT]
theorem nodup_uniqT : ∀ ks : List Str, (uniqT ks).Nodup
  | [] => List.nodup_nil
  | x :: ks => by
    unfold uniqT
    split
    · exact nodup_uniqT ks
    · rename_i h
      exact List.nodup_cons.mpr ⟨h, nodup_uniqT ks⟩
def txtLe (x y : Str) : Bool := keyLe (.text x) (.text y)
def sortTxt (xs : List Str) : List Str := (uniqT xs).mergeSort txtLe
theorem sortTxt_of {ks l : List Str} (nd : l.Nodup) (m : ∀ k, k ∈ l ↔ k ∈ ks) : l.mergeSort txtLe = sortTxt ks := by
  have pm : l.Perm (uniqT ks) := (List.perm_ext_iff_of_nodup nd (nodup_uniqT ks)).mpr fun k => by rw [m, mem_uniqT]
  have p2 : (l.mergeSort txtLe).Perm (sortTxt ks) := (List.mergeSort_perm _ _).trans (pm.trans (List.mergeSort_perm _ _).symm)
  have sorted : ∀ l : List Str, (l.mergeSort txtLe).Pairwise fun a b => txtLe a b = true := fun l => List.pairwise_mergeSort (fun a b c => keyLe_total.trans (.text a) (.text b) (.text c)) (fun a b => by rw [Bool.or_eq_true]; exact keyLe_total.total (.text a) (.text b)) l
  refine p2.eq_of_pairwise (fun a b ha hb h1 h2 => ?_) (sorted l) (sorted _)
  have := keyLe_anti (a := .text a) (b := .text b) (by simp [NestedKey.data, PySem.W.alike]) h1 h2
  injection this
def fSortTxt : FN := fun S xs => match xs with
  | [x] => (lstOf S x).bind fun ys => (toT ys).bind fun ks => if ks.length < 4000 then some (.lst ((sortTxt ks).map Val.str)) else none
  | _ => none
def fLenTxt : FN := fun S xs => match xs with
  | [x] => (lstOf S x).bind fun ys => (toT ys).bind fun ks => if ks.length < 4000 then some (.int (uniqT ks).length) else none
  | _ => none
section
variable {X : Cx} {g : Gx} {pos : Pos}
def rTxtG (g : Gx) (w : World) : List V → Hp → VK → Prop := fun vs H Q => ∃ z r S x ys ks, SR (g.at z) r H S ∧ RVs (g.at z) r H [x] vs ∧ lstOf S x = some ys ∧ toT ys = some ks ∧ ks.length < 4000 ∧
  ∀ D (T : List Str), H D = none → T.Nodup → (∀ k, k ∈ T ↔ k ∈ ks) → Q (.ref D) (upd H D (TxtHO w D T))
theorem c_txt (hc : X.calm = true) : CallR X (.type "set") (rTxtG g X.w) := by
  intro pins s st H vs us Q I rs h
  obtain ⟨z, r, S, x, ys, ks, sr, rx, e1, e2, hz, q⟩ := h
  cases rx with
  | cons a b =>
    cases b
    obtain ⟨p, ws, rfl, hp, _, hs⟩ := lstOf_at sr a e1
    have ew := toT_at hs e2
    subst ew
    obtain ⟨u, rfl, ru⟩ := vals1 rs
    cases ru
    have hn : H s.heap.objs.size
          = none := I.hok.fresh (Nat.le_refl _)
    obtain ⟨its, rv, pl, _⟩ := I.list (.inl (.inl hp))
    obtain ⟨l1, l2⟩ := str_items rv
    refine set_of_txts (P := X.prog) (w := X.w) (xs := ks) (I.ok.hd hc) pl.isList (fun i v e => l2 i v (by simpa using e)) (by simpa using l1) (by unfold scanBound; omega) fun h' tk T es ep t R m k => ?_
    exact ⟨.ref s.heap.objs.size, _, I.laid (t' := tk) k (Nat.le_refl _) R.ok, rfl, q _ T hn R.nd m⟩
def rSortTG (g : Gx) (w : World) : List V → Hp → VK → Prop := fun vs H Q => ∃ z r S D T ks, SR (g.at z) r H S ∧ vs = [.ref D] ∧ H D = some (TxtHO w D T) ∧ T.Nodup ∧ (∀ k, k ∈ T ↔ k ∈ ks) ∧
  ∀ r' H' hv, Step r H r' H' → SR (g.at z) r' H' S → RV (g.at z) r' H' (.lst ((sortTxt ks).map Val.str)) hv → Q hv H'
theorem c_sortTxt (hc : X.calm = true) (hu : X.A.units + 20 < cLine) : CallR X (.builtin "sorted") (rSortTG g X.w) := by
  intro pins s st H vs us Q I rs h
  obtain ⟨z, r, S, D, T, ks, sr, rfl, hD, nd, mk, q⟩ := h
  obtain ⟨u, rfl, ru⟩ := vals1 rs
  cases ru
  obtain ⟨es, ep, t, R⟩ : SetT0 X.w s.heap D T := (I.hok D _ hD).1
  have few := R.few
  refine sorted_of_txts R (I.ok.hd hc) hu fun s' l out c T1 k g1 o1 hl hg pm eo => ?_
  have hn : H l = none := I.hok.fresh hl
  have e : T1.mergeSort (fun x y => keyLe (.text x) (.text y)) = sortTxt ks := sortTxt_of (pm.nodup_iff.mpr nd) fun k => by rw [pm.mem_iff]; exact mk k
  rw [e] at eo
  have hlen : (sortTxt ks).length ≤ sizeLine := by
    rw [← e, List.length_mergeSort, pm.length_eq, ← R.txt, List.length_map, Array.length_toList]
    exact fits_of_scanBound few
  have J : Inv X pins st (upd H l (.lst ((sortTxt ks).map V.str))) { s with heap := s'.heap, gens := s'.gens, drawn := s'.drawn, toks := s'.toks } :=
    I.call (ch := []) (Un.laid k hl hn) (I.hok.laid k hl ⟨by rw [List.length_map]; exact hlen, out.toList, c, eo, hg⟩) (by rw [g1]; exact I.bare) (fun _ z => nomatch z)
  have es' : s' = { s with heap := s'.heap, gens := s'.gens, drawn := s'.drawn, toks := s'.toks } := by
    obtain ⟨_, _, _, _, _⟩ := s'
    cases o1
    rfl
  rw [es']
  refine ⟨.ref l, _, J, rfl, q r _ (.ref l) (Step.new1 hn) (sr.beside hn) (RV.newL sr hn (by rw [List.length_map]; exact hlen) (strs_rvs _))⟩
theorem d_sortTxt {e : Expr} {m : ME} {p p2 pos2 : Pos} (hc : X.calm = true) (hu : X.A.units + 20 < cLine) (hg : Gl X "sorted") (hm : X.mg "sorted" = none) (hg2 : Gl X "set") (hm2 : X.mg "set" = none) (he : PE X e (tD g m))
    (hs : starEach [e] X.env = (false, eval e X.env) :: starEach [] X.env := by rfl) (hs2 : starEach [.Call (.Name "set" p2) [e] [] pos2] X.env = (false, eval (.Call (.Name "set" p2) [e] [] pos2) X.env) :: starEach [] X.env := by rfl) :
    PE X (.Call (.Name "sorted" p) [.Call (.Name "set" p2) [e] [] pos2] [] pos) (tD g (eFn fSortTxt (esCons m esNil))) := by
  refine PE.weak (pe_callB (c_sortTxt (g := g) hc hu) hg hm (by decide +kernel) (pa_cons (pe_callTy (c_txt (g := g) hc) hg2 hm2 (by decide +kernel) (d_cons he d_nil hs) (he := hs)) pa_nil hs2) (he := hs2)) fun st H Q h => ?_
  obtain ⟨z, r, S, sl, v, S', R, e, q⟩ := h
  simp only [eFn, esCons, esNil, Option.bind_eq_some_iff] at e
  obtain ⟨⟨xs, S1⟩, ⟨⟨x, S2⟩, e1, ⟨ys, S3⟩, e2, e3⟩, w, e4, e5⟩ := e
  cases e2
  cases e3
  cases e5
  simp only [fSortTxt, Option.bind_eq_some_iff] at e4
  obtain ⟨ys, f1, ks, f2, f3⟩ := e4
  split at f3
  · rename_i ok
    cases f3
    refine ⟨z, r, S, sl, [x], _, R, by simp [esCons, esNil, e1], fun r1 H1 vs s1 sr1 rx => ⟨z, r1, _, x, ys, ks, sr1, rx, f1, f2, ok, fun D T hD nd mk => ?_⟩⟩
    have st := Step.new1 (r := r1) (o := TxtHO X.w D T) hD
    refine ⟨z, r1, _, D, T, ks, sr1.beside hD, rfl, upd_same, nd, mk, fun r2 H2 hv s2 sr2 rv => q r2 H2 hv ((s1.trans st).trans s2) sr2 rv⟩
  · cases f3
/-- len(set(..)) -/
def rLenTG (g : Gx) (w : World) : List V → Hp → VK → Prop := fun vs H Q => ∃ z r S D T ks, SR (g.at z) r H S ∧ vs = [.ref D] ∧ H D = some (TxtHO w D T) ∧ T.Nodup ∧ (∀ k, k ∈ T ↔ k ∈ ks) ∧
  ∀ r' H' hv, Step r H r' H' → SR (g.at z) r' H' S → RV (g.at z) r' H' (.int (uniqT ks).length) hv → Q hv H'
theorem c_lenTxt : CallR X (.builtin "len") (rLenTG g X.w) := by
  intro pins s st H vs us Q I rs h
  obtain ⟨z, r, S, D, T, ks, sr, rfl, hD, nd, mk, q⟩ := h
  obtain ⟨u, rfl, ru⟩ := vals1 rs
  cases ru
  obtain ⟨es, ep, t, R⟩ : SetT0 X.w s.heap D T := (I.hok D _ hD).1
  obtain ⟨o, o1, o2, o3⟩ := R.ob
  have few := R.few
  have pm : T.Perm (uniqT ks) := (List.perm_ext_iff_of_nodup nd (nodup_uniqT ks)).mpr fun k => by rw [mk, mem_uniqT]
  have el : es.size = (uniqT ks).length := by rw [← pm.length_eq, ← R.txt, List.length_map, Array.length_toList]
  unfold scanBound at few
  refine call_len_set o1 o2 o3 R.fits (by omega) ⟨.int (uniqT ks).length, H, I.tok _, ⟨_, by rw [el]⟩, q r H _ (.refl r H) sr (.int _)⟩
theorem d_lenTxt {e : Expr} {m : ME} {p p2 pos2 : Pos} (hc : X.calm = true) (hg : Gl X "len") (hm : X.mg "len" = none) (hg2 : Gl X "set") (hm2 : X.mg "set" = none) (he : PE X e (tD g m))
    (hs : starEach [e] X.env = (false, eval e X.env) :: starEach [] X.env := by rfl) (hs2 : starEach [.Call (.Name "set" p2) [e] [] pos2] X.env = (false, eval (.Call (.Name "set" p2) [e] [] pos2) X.env) :: starEach [] X.env := by rfl) :
    PE X (.Call (.Name "len" p) [.Call (.Name "set" p2) [e] [] pos2] [] pos) (tD g (eFn fLenTxt (esCons m esNil))) := by
  refine PE.weak (pe_callB (c_lenTxt (g := g)) hg hm (by decide +kernel) (pa_cons (pe_callTy (c_txt (g := g) hc) hg2 hm2 (by decide +kernel) (d_cons he d_nil hs) (he := hs)) pa_nil hs2) (he := hs2)) fun st H Q h => ?_
  obtain ⟨z, r, S, sl, v, S', R, e, q⟩ := h
  simp only [eFn, esCons, esNil, Option.bind_eq_some_iff] at e
  obtain ⟨⟨xs, S1⟩, ⟨⟨x, S2⟩, e1, ⟨ys, S3⟩, e2, e3⟩, w, e4, e5⟩ := e
  cases e2
  cases e3
  cases e5
  simp only [fLenTxt, Option.bind_eq_some_iff] at e4
  obtain ⟨ys, f1, ks, f2, f3⟩ := e4
  split at f3
  · rename_i ok
    cases f3
    refine ⟨z, r, S, sl, [x], _, R, by simp [esCons, esNil, e1], fun r1 H1 vs s1 sr1 rx => ⟨z, r1, _, x, ys, ks, sr1, rx, f1, f2, ok, fun D T hD nd mk => ?_⟩⟩
    have st := Step.new1 (r := r1) (o := TxtHO X.w D T) hD
    refine ⟨z, r1, _, D, T, ks, sr1.beside hD, rfl, upd_same, nd, mk, fun r2 H2 hv s2 sr2 rv => q r2 H2 hv ((s1.trans st).trans s2) sr2 rv⟩
  · cases f3
end
end Mp
namespace Mp
open PySem PySem.Spec
      PyProof.Rows L2

/-! ### dicts with nested tuples as keys -/
def valG {κ β : Type} [DecidableEq κ] (kvs : List (κ × β)) (k : κ) : Option β := (kvs.find? fun kv => decide (kv.1 = k)).map (·.2)
def putG {κ β : Type} [DecidableEq κ] (kvs : List (κ × β)) (k : κ) (v : β) : List (κ × β) := match kvs with
  | [] => [(k, v)]
  | p :: ps => if p.1 = k then (p.1, v) :: ps else p :: putG ps k v
def putR (rows : List NRow) (k : NestedKey) (b : Addr) (v : V) : List NRow := match rows with
  | [] => [(k, b, v)]
  | p :: ps => if p.1 = k then (p.1, p.2.1, v) :: ps else p :: putR ps k b v
abbrev DRow (g : Gx) (r : List Addr) (H : Hp) (p : NestedKey × Val) (q : NRow) : Prop := p.1 = q.1 ∧ RV g r H (ofK p.1) (.ref q.2.1) ∧ RV g r H p.2 q.2.2
theorem rows_pair {g : Gx} {r : List Addr} {H : Hp} : ∀ {kvs : List (NestedKey × Val)} {rows : List NRow}, kvs.map (·.1) = rows.map (·.1) → RVs g r H (kvs.map fun p => ofK p.1) (rows.map fun p => V.ref p.2.1) → RVs g r H (kvs.map (·.2)) (rows.map fun p => p.2.2) → Paired (DRow g r H) kvs rows
  | [], [], _, _, _ => .nil
  | [], _ :: _, e, _, _ => by cases e
  | _ :: _, [], e, _, _ => by cases e
  | p :: ps, q :: qs, e, .cons a as, .cons b bs => by
    simp only [List.map_cons,
          List.cons.injEq] at e
    exact .cons ⟨e.1, a, b⟩ (rows_pair e.2 as bs)
theorem pair_rows {g : Gx} {r : List Addr} {H : Hp} : ∀ {kvs : List (NestedKey × Val)} {rows : List NRow}, Paired (DRow g r H) kvs rows → kvs.map (·.1) = rows.map (·.1) ∧ RVs g r H (kvs.map fun p => ofK p.1) (rows.map fun p => V.ref p.2.1) ∧ RVs g r H (kvs.map (·.2)) (rows.map fun p => p.2.2)
  | _, _, .nil => ⟨rfl, .nil, .nil⟩
  | _, _, .cons ⟨e, a, b⟩ t => by
    obtain ⟨e1, a1, b1⟩ := pair_rows t
    exact ⟨by simp [e, e1], .cons a a1, .cons b b1⟩
theorem ro_dn {g : Gx} {r : List Addr} {H : Hp} {a : Addr} {kvs : List (NestedKey × Val)} {rows : List NRow} (h : Paired (DRow g r H) kvs rows) (hl : kvs.length ≤ sizeLine) : RO g r H a (.dN kvs) (DnHO g.w a rows) := by
  obtain ⟨e, a, b⟩ := pair_rows h
  exact .dN e hl a b
theorem pair_put {g : Gx} {r : List Addr} {H : Hp} {k : NestedKey} {x : Val} {b : Addr} {v : V} (hk : RV g r H (ofK k) (.ref b)) (hx : RV g r H x v) : ∀ {kvs : List (NestedKey × Val)} {rows : List NRow}, Paired (DRow g r H) kvs rows → Paired (DRow g r H) (putG kvs k x) (putR rows k b v)
  | _, _, .nil => .cons ⟨rfl, hk, hx⟩ .nil
  | p :: _, q :: _, .cons ⟨e, a, c⟩ t => by
    unfold putG putR
    by_cases h : p.1 = k
    · rw [if_pos h, if_pos (e.symm.trans h)]
      exact .cons ⟨e, a, hx⟩ t
    · rw [if_neg h, if_neg fun z => h (e.trans z)]
      exact .cons ⟨e, a, c⟩ (pair_put hk hx t)
theorem putG_length {κ β : Type} [DecidableEq κ] (k : κ) (v : β) : ∀ kvs : List (κ × β), (putG kvs k v).length ≤ kvs.length + 1
  | [] => by simp [putG]
  | p :: ps => by
    unfold putG
    split
    · simp
    · have := putG_length k v ps
      simp only [List.length_cons]
      omega
theorem atKey_row {xs : List (NestedKey × Addr × Value)} {k : NestedKey} {x : NestedKey × Addr × Value} : atKey (x :: xs) k = if x.1 = k then some x.2 else atKey xs k := by
  unfold atKey
  rw [List.find?_cons]
  by_cases h : x.1 = k <;> simp [h]
theorem rel_put {k : NestedKey} {b : Addr} {v : V} {u : Value} (ru : RelV v u) : ∀ {rows : List NRow} {xs : List (NestedKey × Addr × Value)}, Paired RowRel rows xs → (xs.map (·.1)).Nodup → Paired RowRel (putR rows k b v) (storedH xs k b u)
  | _, _, .nil, _ => .cons ⟨rfl, rfl, ru⟩ .nil
  | p :: _, q :: qs, .cons ⟨e1, e2, e3⟩ t, nd => by
    rw [List.map_cons,
          List.nodup_cons] at nd
    unfold putR storedH
    rw [atKey_row]
    by_cases h : p.1 = k
    · have hq : q.1 = k := e1.symm.trans h
      rw [if_pos h, if_pos (by simp [hq]), List.map_cons]
      have rest : qs.map (putAt k u) = qs := by
        refine (List.map_congr_left fun y hy => ?_).trans (List.map_id' qs)
        unfold putAt
        rw [if_neg fun z => nd.1 (by rw [hq, ← z]; exact List.mem_map_of_mem hy)]
      rw [rest]
      refine .cons ?_ t
      unfold putAt
      rw [if_pos hq]
      exact ⟨e1, e2, ru⟩
    · have hq : ¬ q.1 = k := fun z => h (e1.trans z)
      have ih := rel_put (k := k) (b := b) ru t nd.2
      rw [if_neg h, if_neg hq]
      unfold storedH at ih
      by_cases c : (atKey qs k).isSome = true
      · rw [if_pos c] at ih ⊢
        rw [List.map_cons]
        refine .cons ?_ ih
        unfold putAt
        rw [if_neg hq]
        exact ⟨e1, e2, e3⟩
      · rw [if_neg c] at ih ⊢
        exact .cons ⟨e1, e2, e3⟩ ih
/-- the machine's dict -/
theorem dn_dict {P : Program} {w : World} {a : Addr} {rows : List NRow} {h : Heap} (d : DnAt w a rows h) (keys : ∀ p ∈ rows, (nestedKind P w).is h p.1 p.2.1) : rows.length ≤ sizeLine ∧ (a == sysModules) = false ∧ ∃ xs, Paired RowRel rows xs ∧ h.DictOfH (nestedKind P w) a xs := by
  obtain ⟨z, hd, xs, rel, o, es, ep, h1, h2, h3, h4, h5⟩ := d
  refine ⟨z, hd, xs, rel, o, es, ep, h1, h2, h3, h4, fun x hx => ?_, h5⟩
  have all : ∀ {rows : List NRow} {xs : List (NestedKey × Addr × Value)}, Paired RowRel rows xs → (∀ p ∈ rows, (nestedKind P w).is h p.1 p.2.1) → ∀ x ∈ xs, (nestedKind P w).is h x.1 x.2.1 := by
    intro rows xs q
    induction q with
    | nil => intro _ x hx; cases hx
    | @cons p q ps qs hq t ih =>
      intro k x hx
      rcases List.mem_cons.mp hx
            with rfl | hx
      · rw [← hq.1, ← hq.2.1]
        exact k p List.mem_cons_self
      · exact ih (fun p hp => k p (List.mem_cons_of_mem _ hp)) x hx
  exact all rel keys x hx
theorem dn_of {P : Program} {w : World} {a : Addr} {rows : List NRow} {h : Heap} {xs : List (NestedKey × Addr × Value)} (z : rows.length ≤ sizeLine) (hd : (a == sysModules) = false) (rel : Paired RowRel rows xs) (d : h.DictOfH (nestedKind P w) a xs) : DnAt w a rows h := by
  obtain ⟨o, es, ep, h1, h2, h3, h4, _, h5⟩ := d
  exact ⟨z, hd, xs, rel, o, es, ep, h1, h2, h3, h4, h5⟩
theorem dn_ok {P : Program} {w : World} {H : Hp} {a : Addr} {rows : List NRow} {h : Heap} (d : DnAt w a rows h) : ObjOk P w H h a (DnHO w a rows) := by
  refine ⟨d, ?_, fun h1 h2 p k => ?_⟩
  · obtain ⟨_, _, _, _, o, _, _, e, _⟩ := d
    exact ⟨o, e⟩
  · obtain ⟨z, hd, xs, rel, o, es, ep, e, q⟩ := p
    exact ⟨z, hd, xs, rel, o, es, ep, k o e, q⟩
def keysOk (kvs : List (NestedKey × Val)) : Bool := kvs.all fun p => keyOk p.1
theorem keys_is {X : Cx} {g : Gx} {r : List Addr} {H : Hp} {pins : List (Addr × Obj)} {st : L2.St} {s : Shared} (hK : g.K = X.K) (I : Inv X pins st H s) : ∀ {kvs : List (NestedKey × Val)} {rows : List NRow}, Paired (DRow g r H) kvs rows → keysOk kvs = true → ∀ p ∈ rows, (nestedKind X.prog X.w).is s.heap p.1 p.2.1
  | _, _, .nil, _, p, hp => by cases hp
  | k :: _, q :: _, .cons ⟨e, a, _⟩ t, ok, p, hp => by
    unfold keysOk at ok
    rw [List.all_cons, Bool.and_eq_true] at ok
    rcases List.mem_cons.mp hp
          with rfl | hp
    · rw [← e]
      exact ⟨(RV.key hK I a (show RelV (.ref p.2.1) (.ref p.2.1) from rfl) (toK_ofK k.1)).1, keyOk_depth ok.1⟩
    · exact keys_is hK I t ok.2 p hp
/-- a dict of the store: its rows and the machine's -/
def dnOf (S : Sto) (n : Nat) : Option (List (NestedKey × Val)) := match S[n]? with
  | some (.dN kvs) => some kvs
  | some (.lk (.dN kvs)) => some kvs
  | _ => none
theorem dn_at {X : Cx} {g : Gx} {r : List Addr} {H : Hp} {S : Sto} {pins : List (Addr × Obj)} {st : L2.St} {s : Shared} {n : Nat} {a : Addr} {kvs : List (NestedKey × Val)} (hK : g.K = X.K) (hw : g.w = X.w) (I : Inv X pins st H s) (sr : SR g r H S) (ha : r[n]? = some a) (e : dnOf S n = some kvs) (ok : keysOk kvs = true) :
    ∃ rows, Rd H a (DnHO g.w a rows) ∧ kvs.length ≤ sizeLine ∧ (a == sysModules) = false ∧ Paired (DRow g r H) kvs rows ∧ ∃ xs, Paired RowRel rows xs ∧ s.heap.DictOfH (nestedKind X.prog X.w) a xs := by
  unfold dnOf at e
  have fin : ∀ rows, Rd H a (DnHO g.w a rows) → Paired (DRow g r H) kvs rows → kvs.length ≤ sizeLine → ∃ rows, Rd H a (DnHO g.w a rows) ∧ kvs.length ≤ sizeLine ∧ (a == sysModules) = false ∧ Paired (DRow g r H) kvs rows ∧ ∃ xs, Paired RowRel rows xs ∧ s.heap.DictOfH (nestedKind X.prog X.w) a xs := fun rows rd pr hl => by
    have d : DnAt g.w a rows s.heap := (rd.ok I.hok).1
    rw [hw] at d
    obtain ⟨z, hd, xs, rel, dd⟩ := dn_dict (P := X.prog) d (keys_is hK I pr ok)
    exact ⟨rows, rd, hl, hd, pr, xs, rel, dd⟩
  split at e
  · rename_i hx
    cases e
    obtain ⟨u, hu, ro⟩ := sr.at_ _ _ _ hx ha
    cases ro with
    | dN h1 hl h2 h3 => exact fin _ (.inl hu) (rows_pair h1 h2 h3) hl
  · rename_i hx
    cases e
    obtain ⟨u, hu, ro⟩ := sr.at_ _ _ _ hx ha
    cases ro with
    | lkN h1 hl h2 h3 => exact fin _ (.inr ⟨_, hu⟩) (rows_pair h1 h2 h3) hl
  · cases e
theorem val_rows {g : Gx} {r : List Addr} {H : Hp} {k : NestedKey} : ∀ {kvs : List (NestedKey × Val)} {rows : List NRow} {xs : List (NestedKey × Addr × Value)}, Paired (DRow g r H) kvs rows → Paired RowRel rows xs →
    match valG kvs k with
    | some x => ∃ b v u, atKey xs k = some (b, u) ∧ RelV v u ∧ RV g r H x v
    | none => atKey xs k = none
  | _, _, _, .nil, .nil => rfl
  | p :: kvs, q :: rows, x :: xs, .cons ⟨e, a, c⟩ t, .cons ⟨e1, e2, e3⟩ t' => by
    have ih := val_rows (k := k) t t'
    have ev : valG (p :: kvs) k = if p.1 = k then some p.2 else valG kvs k := by
      unfold valG
      rw [List.find?_cons]
      by_cases h : p.1 = k <;> simp [h]
    rw [ev, atKey_row]
    by_cases h : p.1 = k
    · rw [if_pos h, if_pos (e1.symm.trans (e.symm.trans h))]
      exact ⟨_, _, _, rfl, e3, c⟩
    · rw [if_neg h, if_neg fun z => h (e.trans (e1.trans z))]
      exact ih
end Mp
namespace Mp
open PySem PySem.Spec
      PyProof.Rows L2

def keyV : Val → Option Key
  | .int i => some (.inl i)
  | .str x => some (.inr x)
  | _ => none
theorem keyV_at {g : Gx} {r : List Addr} {H : Hp} {x : Val} {v : V} {k : Key} (h : RV g r H x v) (e : keyV x = some k) : v = kV k := by
  cases h <;> cases e <;> rfl
def dkOf (S : Sto) (n : Nat) : Option (List (Key × Val)) := match S[n]? with
  | some (.dK kvs) => some kvs
  | some (.lk (.dK kvs)) => some kvs
  | _ => none
/-- what a dict of the store holds at a key -/
inductive Dic where
  | k (kvs : List (Key × Val)) | n (kvs : List (NestedKey × Val))
def dicOf (S : Sto) (n : Nat) : Option Dic := match dkOf S n with
  | some kvs => some (.k kvs)
  | none => (dnOf S n).bind fun kvs => if keysOk kvs then some (.n kvs) else none
def dicGet (S : Sto) (d x : Val) : Option (Option Val) := match d with
  | .ref n => (dicOf S n).bind fun D => match D with
    | .k kvs => (keyV x).map fun k => valG kvs k
    | .n kvs => (toK x).bind fun k => if keyOk k then some (valG kvs k) else none
  | _ => none
def fDGet (S : Sto) (d x : Val) : Option Val := (dicGet S d x).bind id
def fDIn (neg : Bool) (S : Sto) (x d : Val) : Option Val := (dicGet S d x).map fun o => .bl (neg ^^ o.isSome)
theorem valK_rows {g : Gx} {r : List Addr} {H : Hp} {k : Key} : ∀ {kvs : List (Key × Val)} {kws : List (Key × V)}, kvs.map (·.1) = kws.map (·.1) → RVs g r H (kvs.map (·.2)) (kws.map (·.2)) → match valG kvs k with
    | some x => ∃ v, valV kws k = some v ∧ RV g r H x v
    | none => valV kws k = none
  | [], [], _, _ => rfl
  | [], _ :: _, e, _ => by cases e
  | _ :: _, [], e, _ => by cases e
  | p :: ps, q :: qs, e, .cons a as => by
    simp only [List.map_cons,
          List.cons.injEq] at e
    have ih := valK_rows (k := k) e.2 as
    have ev : valG (p :: ps) k = if p.1 = k then some p.2 else valG ps k := by
      unfold valG
      rw [List.find?_cons]
      by_cases h : p.1 = k <;> simp [h]
    rw [ev]
    by_cases h : p.1 = k
    · rw [if_pos h, valV_pos (e.1.symm.trans h)]
      exact ⟨_, rfl, a⟩
    · rw [if_neg h, valV_neg fun z => h (e.1.trans z)]
      exact ih
section
variable {X : Cx} {g : Gx} {pos : Pos}
theorem dk_at {r : List Addr} {H : Hp} {S : Sto} {n : Nat} {a : Addr} {kvs : List (Key × Val)} (sr : SR g r H S) (ha : r[n]? = some a) (e : dkOf S n = some kvs) : ∃ kws, Rd H a (.dK kws) ∧ kvs.length ≤ sizeLine ∧ kvs.map (·.1) = kws.map (·.1) ∧ RVs g r H (kvs.map (·.2)) (kws.map (·.2)) := by
  unfold dkOf at e
  split at e
  · rename_i hx
    cases e
    obtain ⟨u, hu, ro⟩ := sr.at_ _ _ _ hx ha
    cases ro with
    | dK h1 hl h2 => exact ⟨_, .inl hu, hl, h1, h2⟩
  · rename_i hx
    cases e
    obtain ⟨u, hu, ro⟩ := sr.at_ _ _ _ hx ha
    cases ro with
    | lkK h =>
      cases h with
      | dK h1 hl h2 => exact ⟨_, .inr ⟨_, hu⟩, hl, h1, h2⟩
  · cases e
def AnsK (g : Gx) (r : List Addr) (H : Hp) (w : Option V) : Option Val → Prop
  | some y => ∃ v, w = some v ∧ RV g r H y v
  | none => w = none
def AnsN (g : Gx) (r : List Addr) (H : Hp) (w : Option (Addr × Value)) : Option Val → Prop
  | some y => ∃ c v u, w = some (c, u) ∧ RelV v u ∧ RV g r H y v
  | none => w = none
theorem ansK_of {r : List Addr} {H : Hp} {k : Key} {kvs : List (Key × Val)} {kws : List (Key × V)} (h1 : kvs.map (·.1) = kws.map (·.1)) (h2 : RVs g r H (kvs.map (·.2)) (kws.map (·.2))) : AnsK g r H (valV kws k) (valG kvs k) := by
  have := valK_rows (k := k) h1 h2
  unfold AnsK
  cases e : valG kvs k <;> (rw [e] at this; exact this)
theorem ansN_of {r : List Addr} {H : Hp} {k : NestedKey} {kvs : List (NestedKey × Val)} {rows : List NRow} {xs : List (NestedKey × Addr × Value)} (h1 : Paired (DRow g r H) kvs rows) (h2 : Paired RowRel rows xs) : AnsN g r H (atKey xs k) (valG kvs k) := by
  have := val_rows (k := k) h1 h2
  unfold AnsN
  cases e : valG kvs k <;> (rw [e] at this; exact this)
theorem AnsK.some {r : List Addr} {H : Hp} {w : Option V} {o : Option Val} (h : AnsK g r H w o) : w.isSome = o.isSome := by
  cases o with
  | none => rw [show w = none from h]; rfl
  | some y => obtain ⟨v, e, _⟩ := h; rw [e]; rfl
theorem AnsN.some {r : List Addr} {H : Hp} {w : Option (Addr × Value)} {o : Option Val} (h : AnsN g r H w o) : w.isSome = o.isSome := by
  cases o with
  | none => rw [show w = none from h]; rfl
  | some y => obtain ⟨c, v, u, e, _⟩ := h; rw [e]; rfl
/-- asking a dict -/
theorem ask_dic {pins : List (Addr × Obj)} {st : L2.St} {H : Hp} {s : Shared} {r : List Addr} {S : Sto} {d x : Val} {hd hx : V} {o : Option Val} (hK : g.K = X.K) (hw : g.w = X.w) (I : Inv X pins st H s) (sr : SR g r H S) (rd : RV g r H d hd) (rx : RV g r H x hx) (e : dicGet S d x = some o) :
    (∃ a k kws, hd = .ref a ∧ hx = kV k ∧ Rd H a (.dK kws) ∧ AnsK g r H (valV kws k) o) ∨
    (∃ a b k rows xs, hd = .ref a ∧ hx = .ref b ∧ (nestedKind X.prog X.w).is s.heap k b ∧ (a == sysModules) = false ∧ Paired RowRel rows xs ∧ s.heap.DictOfH (nestedKind X.prog X.w) a xs ∧ AnsN g r H (atKey xs k) o) := by
  unfold dicGet at e
  split at e
  · rename_i n
    cases rd with
    | @ref _ a ha =>
      simp only [Option.bind_eq_some_iff] at e
      obtain ⟨D, e1, e2⟩ := e
      unfold dicOf at e1
      split at e1
      · rename_i kvs hk
        cases e1
        simp only [Option.map_eq_some_iff] at e2
        obtain ⟨k, f1, f2⟩ := e2
        obtain ⟨kws, q1, q2, q3, q4⟩ := dk_at sr ha hk
        left
        refine ⟨a, k, kws, rfl, keyV_at rx f1, q1, ?_⟩
        rw [← f2]
        exact ansK_of q3 q4
      · simp only [Option.bind_eq_some_iff] at e1
        obtain ⟨kvs, f1, f2⟩ := e1
        split at f2
        · rename_i ok
          cases f2
          simp only [Option.bind_eq_some_iff] at e2
          obtain ⟨k, f3, f4⟩ := e2
          split at f4
          · rename_i ok2
            cases f4
            obtain ⟨rows, rd', hl, hd', pr, xs, rel, dd⟩ := dn_at hK hw I sr ha f1 ok
            right
            have key : ∀ b, hx = .ref b → (nestedKind X.prog X.w).is s.heap k b := fun b hb => ⟨(RV.key hK I rx (by rw [hb]; exact (show RelV (.ref b) (.ref b) from rfl)) f3).1, keyOk_depth ok2⟩
            have tup : ∃ b, hx = .ref b := by
              unfold keyOk at ok2
              rw [Bool.and_eq_true] at ok2
              cases rx with
              | tup h1 h2 h3 => exact ⟨_, rfl⟩
              | non => cases f3; exact absurd ok2.2 (by simp)
              | int => cases f3; exact absurd ok2.2 (by simp)
              | str => cases f3; exact absurd ok2.2 (by simp)
              | bl => cases f3
              | ty => cases f3
              | fn => cases f3
              | lst => cases f3
              | scr => cases f3
              | ref => cases f3
              | ptp => cases f3
            obtain ⟨b, hb⟩ := tup
            exact ⟨a, b, k, rows, xs, rfl, hb, key b hb, hd', rel, dd, ansN_of pr rel⟩
          · cases f4
        · cases f2
  · cases e
theorem o_dget (hK : g.K = X.K) (hw : g.w = X.w) (hu : X.A.units + 12 < cLine) : ∀ (pins : List (Addr × Obj)) (s : Shared) (st : L2.St) (H : Hp) (x y : V) (v u : Value) (Q : VK), Inv X pins st H s → RelV x v → RelV y u → rG2 g fDGet x y H Q → ∃ a, v = .ref a ∧ s.TypeIs (.ref a) "dict" ∧ wpAny (model X.prog X.w) X.A (getItem (.ref a) u) (EP X pins st Q) X.xe s := by
  intro pins s st H x y v u Q I rx ry h
  obtain ⟨z, r, S, d, k, w, sr, ra, rb, e, q⟩ := h
  simp only [fDGet, Option.bind_eq_some_iff] at e
  obtain ⟨o, e1, e2⟩ := e
  have e2 : o = some w := e2
  subst e2
  rcases ask_dic (g := g.at z) hK hw I sr ra rb e1 with ⟨a, k, kws, rfl, rfl, rd, v', hv, rv⟩ | ⟨a, b, k, rows, xs, rfl, rfl, hk, hd, rel, dd, c, v', u', hv, rv', rv⟩
  · cases rx
    have gg : DGet H a (kV k) (some v') := .inl ⟨kws, k, rd, rfl, hv.symm⟩
    exact ⟨a, rfl, dict_typeIs I gg, d_getItem (by omega) I gg ry fun w' s' I' rw' => ⟨v', H, I', rw', q r H v' (.refl r H) sr rv⟩⟩
  · cases rx
    cases ry
    exact ⟨a, rfl, dd.typeIs, wpAny_getItem_heap (by show X.A.units + 1 + 8 < cLine; omega) hk dd hv ⟨v', H, I.tok _, rv', q r H v' (.refl r H) sr rv⟩⟩
theorem d_dget {a b : Expr} {ma mb : ME} (hK : g.K = X.K) (hw : g.w = X.w) (hu : X.A.units + 12 < cLine) (ha : PE X a (tD g ma)) (hb : PE X b (tD g mb)) (hs : NoSl b := by intro _ _; rfl) : PE X (.Subscript a b pos) (tD g (eOp2 fDGet ma mb)) := by
  refine ⟨fun pins s st H Q I h => ?_⟩
  have h := op2_read h
  refine subD_of PySem.F.slot_dict_getitem.lookup hs (thn (ha.run pins s st H _ I h) fun u s1 ⟨x, H1, I1, rx, q1⟩ => thn (hb.run pins s1 st H1 _ I1 q1) fun iv s2 ⟨y, H2, I2, ry, q2⟩ => ?_)
  obtain ⟨a, rfl, ty, w⟩ := o_dget hK hw hu pins s2 st H2 x y u iv Q I2 rx ry q2
  exact ⟨ty, w⟩
theorem o_din {neg : Bool} (hK : g.K = X.K) (hw : g.w = X.w) (hu : X.A.units + 12 < cLine) : OpR X (compareOp (if neg then .NotIn else .In)) (rG2 g (fDIn neg)) := by
  intro pins s st H x y v u Q I rx ry h
  obtain ⟨z, r, S, k, d, w, sr, ra, rb, e, q⟩ := h
  simp only [fDIn, Option.map_eq_some_iff] at e
  obtain ⟨o, e1, rfl⟩ := e
  rcases ask_dic (g := g.at z) hK hw I sr rb ra e1 with ⟨a, k, kws, rfl, rfl, rd, hv⟩ | ⟨a, b, k, rows, xs, rfl, rfl, hk, hd, rel, dd, hv⟩
  · cases ry
    have gg : DGet H a (kV k) (valV kws k) := .inl ⟨kws, k, rd, rfl, rfl⟩
    have eo := hv.some
    cases neg
    · exact d_in (by omega) I gg rx fun s' I' => ⟨.bl _, H, I', rfl, by rw [eo]; exact q r H _ (.refl r H) sr (by simpa using RV.bl o.isSome)⟩
    · exact d_notIn (by omega) I gg rx fun s' I' => ⟨.bl _, H, I', rfl, by rw [eo]; exact q r H _ (.refl r H) sr (by simpa using RV.bl (!o.isSome))⟩
  · cases ry
    cases rx
    have eo := hv.some
    cases neg
    · exact wpAny_in_heap (by show X.A.units + 1 + 8 < cLine; omega) hk hd dd (by rw [eo]; exact ⟨.bl _, H, I.tok _, rfl, q r H _ (.refl r H) sr (by simpa using RV.bl o.isSome)⟩)
    · exact wpAny_notIn_heap (by show X.A.units + 1 + 8 < cLine; omega) hk hd dd (by rw [eo]; exact ⟨.bl _, H, I.tok _, rfl, q r H _ (.refl r H) sr (by simpa using RV.bl (!o.isSome))⟩)
theorem fDIn_bl {neg : Bool} : ∀ S x y v, fDIn neg S x y = some v → ∃ k, v = .bl k := fun S x y v e => by
  simp only [fDIn, Option.map_eq_some_iff] at e
  obtain ⟨o, _, rfl⟩ := e
  exact ⟨_, rfl⟩
end
end Mp
namespace Mp
open PySem PySem.Spec
      PyProof.Rows L2

/-! ### an object of the store changes -/
def Chg (u : HO) : Prop := (∀ xs, u ≠ .tup xs) ∧ (∀ o x, u ≠ .frz o (.tup x)) ∧ ∀ o x, u ≠ .frz o (.lst x)
section
variable {g : Gx} {r : List Addr} {H : Hp} {a : Addr} {u o : HO}
theorem RVs.updr (ha : a ∈ r) (hu : H a = some u) (c : Chg u) {x : List Val} {v : List V} (h : RVs g r H x v) : RVs g r (upd H a o) x v := by
  have seqT : ∀ {b : Addr} {vs : List V}, SqT g.K H b vs → SqT g.K (upd H a o) b vs := fun {b vs} h => by
    rcases h with (h | ⟨ob, h⟩) | h
    · exact .inl (.inl (by rw [upd_ne (fun e => by rw [e, hu] at h; exact c.1 _ (Option.some.inj h))]; exact h))
    · exact .inl (.inr ⟨ob, by rw [upd_ne (fun e => by rw [e, hu] at h; exact c.2.1 _ _ (Option.some.inj h))]; exact h⟩)
    · exact .inr h
  exact RVs.rec (g := g) (r := r) (H := H) (motive_1 := fun x v _ => RV g r (upd H a o) x v) (motive_2 := fun x v _ => RVs g r (upd H a o) x v)
    .non .bl .int .str .ty (fun h => .fn h) (fun h hl _ ih => .tup (seqT h) hl ih) (fun {b _ _} h hn hz' hl _ ih => .lst (by rw [upd_ne (fun e => hn (by rw [e]; exact ha))]; exact h) hn hz' hl ih)
    (fun {b ob _ _} h hn hl _ ih => .scr (o := ob) (by rw [upd_ne (fun e => hn (by rw [e]; exact ha))]; exact h) hn hl ih) (fun h => .ref h) (fun {b ob _ _} h hd hl _ ih => .ptp (o := ob) (by rw [upd_ne (fun e => by rw [e, hu] at h; exact c.2.1 _ _ (Option.some.inj h))]; exact h) hd hl ih) .nil (fun _ _ a b => .cons a b) h
theorem RV.updr (ha : a ∈ r) (hu : H a = some u) (c : Chg u) {x : Val} {v : V} (h : RV g r H x v) : RV g r (upd H a o) x v := by
  cases RVs.updr (o := o) ha hu c (.cons h .nil) with
  | cons a _ => exact a
theorem RO.updr {b : Addr} (ha : a ∈ r) (hu : H a = some u) (c : Chg u) {x : SO} {v : HO} (h : RO g r H b x v) : RO g r (upd H a o) b x v := by
  cases h with
  | lst hl h => exact .lst hl (h.updr ha hu c)
  | dK h1 hl h2 => exact .dK h1 hl (h2.updr ha hu c)
  | dN h1 hl h0 h2 => exact .dN h1 hl (h0.updr ha hu c) (h2.updr ha hu c)
  | lkK h => cases h with | dK h1 hl h2 => exact .lkK (.dK h1 hl (h2.updr ha hu c))
  | lkN h1 hl h0 h2 => exact .lkN h1 hl (h0.updr ha hu c) (h2.updr ha hu c)
theorem SR.put {S : Sto} {n : Nat} {so : SO} (sr : SR g r H S) (hn : r[n]? = some a) (hu : H a = some u) (c : Chg u) (nf : ∀ ob x, u ≠ .frz ob x) (ro : RO g r (upd H a o) a so o) : SR g r (upd H a o) (S.set n so) ∧ Step r H r (upd H a o) := by
  have ha : a ∈ r := List.mem_of_getElem? hn
  refine ⟨⟨by rw [List.length_set]; exact sr.len, sr.nd, fun p hp => ?_, sr.zr, fun i x b h1 h2 => ?_⟩, ⟨fun b x h hb => ?_, ⟨[], by simp⟩, fun b h => .inl h, fun b ob x h => by rw [upd_ne (fun z => by rw [z, hu] at h; exact nf _ _ (Option.some.inj h))]; exact h⟩⟩
  · obtain ⟨xs, e⟩ := sr.zat p hp
    exact ⟨xs, by rw [upd_ne fun z => sr.zr p hp (by rw [z]; exact ha)]; exact e⟩
  · by_cases hi : n = i
    · subst hi
      rw [hn] at h2
      cases h2
      have hl : n < S.length := by rw [← sr.len]; exact (List.getElem?_eq_some_iff.mp hn).1
      rw [List.getElem?_set_self hl] at h1
      cases h1
      exact ⟨o, upd_same, ro⟩
    · rw [List.getElem?_set_ne hi] at h1
      obtain ⟨y, hy, ro'⟩ := sr.at_ i x b h1 h2
      have ne : b ≠ a := fun z => by
        rw [z] at h2
        have l1 := (List.getElem?_eq_some_iff.mp hn).1
        have l2 := (List.getElem?_eq_some_iff.mp h2).1
        exact hi ((List.getElem?_inj l1 sr.nd).mp (hn.trans h2.symm))
      exact ⟨y, by rw [upd_ne ne]; exact hy, ro'.updr ha hu c⟩
  · rw [upd_ne fun z => hb (by rw [z]; exact ha)]; exact h
end

/-! ### d[k] = v -/
def putM (kvs : List (Key × Val)) (k : Key) (v : Val) : List (Key × Val) := if (kvs.any fun kv => decide (kv.1 = k)) = true then kvs.map (fun kv => if kv.1 = k then (kv.1, v) else kv) else kvs ++ [(k, v)]
def dicPut (S : Sto) (d k v : Val) : Option Sto := match d with
  | .ref n => match S[n]? with
    | some (.dK kvs) => (keyV k).bind fun kk => if kvs.length < sizeLine then some (S.set n (.dK (putM kvs kk v))) else none
    | some (.dN kvs) => (toK k).bind fun kk => if keyOk kk && keysOk kvs && decide (kvs.length < sizeLine) then some (S.set n (.dN (putG kvs kk v))) else none
    | _ => none
  | _ => none
def sDPutM (md mk mv : ME) : MS := fun sl S => (mv sl S).bind fun v => (md sl v.2).bind fun d => (mk sl d.2).bind fun k => (dicPut k.2 d.1 k.1 v.1).map fun S' => (.nxt, sl, S')
theorem putM_rows {g : Gx} {r : List Addr} {H : Hp} {k : Key} {x : Val} {v : V} {kvs : List (Key × Val)} {kws : List (Key × V)} (h1 : kvs.map (·.1) = kws.map (·.1)) (h2 : RVs g r H (kvs.map (·.2)) (kws.map (·.2))) (hx : RV g r H x v) :
    (putM kvs k x).map (·.1) = (putK kws k v).map (·.1) ∧ RVs g r H ((putM kvs k x).map (·.2)) ((putK kws k v).map (·.2)) := by
  have ea : (kvs.any fun kv => decide (kv.1 = k)) = kws.any fun kv => decide (kv.1 = k) := by
    have := congrArg (fun l => l.any fun y => decide (y = k)) h1
    simpa [List.any_map, Function.comp_def] using this
  unfold putM putK
  rw [ea]
  split
  · rename_i yes
    clear ea yes
    induction kvs generalizing kws with
    | nil =>
      cases kws with
      | nil => exact ⟨rfl, .nil⟩
      | cons => cases h1
    | cons p ps ih =>
      cases kws with
      | nil => cases h1
      | cons q qs =>
        simp only [List.map_cons, List.cons.injEq] at h1
        cases h2 with
        | cons a as =>
          obtain ⟨i1, i2⟩ := ih h1.2 as
          by_cases hp : p.1 = k
          · have hq : q.1 = k := h1.1.symm.trans hp
            simp only [List.map_cons, if_pos hp, if_pos hq]
            exact ⟨by rw [h1.1, i1], .cons hx i2⟩
          · have hq : ¬ q.1 = k := fun z => hp (h1.1.trans z)
            simp only [List.map_cons, if_neg hp, if_neg hq]
            exact ⟨by rw [h1.1, i1], .cons a i2⟩
  · exact ⟨by simp [h1], by rw [List.map_append, List.map_append]; exact h2.append (.cons hx .nil)⟩
theorem putM_le (kvs : List (Key × Val)) (k : Key) (v : Val) : (putM kvs k v).length ≤ kvs.length + 1 := by
  unfold putM
  split <;> simp
section
variable {X : Cx} {g : Gx} {pos : Pos}
theorem put_dic {pins : List (Addr × Obj)} {st : L2.St} {H : Hp} {s : Shared} {r : List Addr} {S S' : Sto} {d k x : Val} {hd hk hx : V} {v u w : Value} {Q : Unit → Shared → Prop} (hK : g.K = X.K) (hw : g.w = X.w) (hu : X.A.units + 12 < cLine) (I : Inv X pins st H s) (sr : SR g r H S) (rd : RV g r H d hd) (rk : RV g r H k hk) (rx : RV g r H x hx)
    (ed : RelV hd v) (ek : RelV hk u) (ex : RelV hx w) (e : dicPut S d k x = some S') (q : ∀ r' H' s', Step r H r' H' → SR g r' H' S' → Inv X pins st H' s' → Q () s') : wpAny (model X.prog X.w) X.A (setItem v u w) Q X.xe s := by
  unfold dicPut at e
  split at e
  · rename_i n
    cases rd with
    | @ref _ a ha =>
      obtain rfl : v = .ref a := ed
      split at e
      · rename_i kvs hn
        simp only [Option.bind_eq_some_iff] at e
        obtain ⟨kk, e1, e2⟩ := e
        split at e2
        · rename_i hl
          cases e2
          obtain ⟨o, ho, ro⟩ := sr.at_ _ _ _ hn ha
          cases ro with
          | @dK _ kws h1 hz h2 =>
            have hlw : kws.length < sizeLine := by
              have := congrArg List.length h1
              simp only [List.length_map] at this
              omega
            have c : Chg (.dK kws) := ⟨fun _ z => (nomatch z), fun _ _ z => (nomatch z), fun _ _ z => (nomatch z)⟩
            have ham := List.mem_of_getElem? ha
            obtain ⟨p1, p2⟩ := putM_rows (k := kk) h1 h2 rx
            have ekk := keyV_at rk e1
            subst ekk
            refine d_setItem (by omega) I (DPut.k ho hlw) ek ex fun s' I' => ?_
            obtain ⟨sr', st'⟩ := sr.put (so := .dK (putM kvs kk x)) (o := .dK (putK kws kk hx)) ha ho c (fun _ _ z => nomatch z) (.dK p1 (by have := putM_le kvs kk x; omega) (p2.updr ham ho c))
            exact q r _ s' st' sr' I'
        · cases e2
      · rename_i kvs hn
        simp only [Option.bind_eq_some_iff] at e
        obtain ⟨kk, e1, e2⟩ := e
        split at e2
        · rename_i ok
          cases e2
          simp only [Bool.and_eq_true,
                decide_eq_true_eq] at ok
          obtain ⟨⟨ok1, ok2⟩, hl⟩ := ok
          obtain ⟨o, ho, ro⟩ := sr.at_ _ _ _ hn ha
          cases ro with
          | @dN _ rows h1 hz h2 h3 =>
            have c : Chg (DnHO g.w a rows) := ⟨fun _ z => (nomatch z), fun _ _ z => (nomatch z), fun _ _ z => (nomatch z)⟩
            have ham := List.mem_of_getElem? ha
            have pr := rows_pair h1 h2 h3
            have d0 : DnAt g.w a rows s.heap := (I.hok a _ ho).1
            rw [hw] at d0
            obtain ⟨z1, z2, xs, rel, dd⟩ := dn_dict (P := X.prog) d0 (keys_is hK I pr ok2)
            have tup : ∃ b, hk = .ref b := by
              unfold keyOk at ok1
              rw [Bool.and_eq_true] at ok1
              cases rk with
              | tup h1 h2 h3 => exact ⟨_, rfl⟩
              | non => cases e1; exact absurd ok1.2 (by simp)
              | int => cases e1; exact absurd ok1.2 (by simp)
              | str => cases e1; exact absurd ok1.2 (by simp)
              | bl => cases e1
              | ty => cases e1
              | fn => cases e1
              | lst => cases e1
              | scr => cases e1
              | ref => cases e1
              | ptp => cases e1
            obtain ⟨b, rfl⟩ := tup
            obtain rfl : u = .ref b := ek
            have key : (nestedKind X.prog X.w).is s.heap kk b := ⟨(RV.key hK I rk (show RelV (.ref b) (.ref b) from rfl) e1).1, keyOk_depth ok1⟩
            have el : xs.length = rows.length := (Paired.length rel).symm
            have er : rows.length = kvs.length := (Paired.length pr).symm
            refine wpAny_setItem_heap (hsz := by omega) (by show X.A.units + 1 + 8 < cLine; omega) key dd fun h' dd' sb => ?_
            have pr' := pair_put (k := kk) (b := b) (by rw [ofK_toK e1]; exact rk) rx pr
            have rel' := rel_put (k := kk) (b := b) ex rel (by obtain ⟨_, _, _, _, _, _, _, _, h⟩ := dd; exact h)
            have hl' : (putG kvs kk x).length ≤ sizeLine := by have := putG_length kk x kvs; omega
            have at' : DnAt X.w a (putR rows kk b hx) h' := dn_of (by rw [← Paired.length pr']; exact hl') z2 rel' dd'
            have up : Paired (DRow g r (upd H a (DnHO g.w a (putR rows kk b hx)))) (putG kvs kk x) (putR rows kk b hx) := Paired.mono (fun p q h => ⟨h.1, h.2.1.updr ham ho c, h.2.2.updr ham ho c⟩) pr'
            obtain ⟨sr', st'⟩ := sr.put (so := .dN (putG kvs kk x)) (o := DnHO g.w a (putR rows kk b hx)) ha ho c (fun _ _ z => nomatch z) (ro_dn up hl')
            refine q r _ _ st' sr' (d_write I (by rw [ho]; exact True.intro) sb ?_ (by rw [hw]; exact dn_ok at'))
            obtain ⟨_, _, _, _, o', _, _, e', _⟩ := at'
            exact ⟨o', e'⟩
        · cases e2
      · cases e
  · cases e
theorem ds_dput {o i value : Expr} {pos' : Pos} {md mk mv : ME} (hK : g.K = X.K) (hw : g.w = X.w) (hu : X.A.units + 12 < cLine) (ho : PE X o (tD g md)) (hi : PE X i (tD g mk)) (hv : PE X value (tD g mv)) (hs : swapsWith value (some (.Subscript o i pos')) pos.line X.env = pure false := by rfl) :
    PS X (.Assign [.Subscript o i pos'] value pos) (tDS g (sDPutM md mk mv)) := by
  refine ⟨fun pins s st H D I h => ?_⟩
  obtain ⟨z, r, S, sl, f, sl', S', R, e, q⟩ := h
  simp only [sDPutM, Option.bind_eq_some_iff, Option.map_eq_some_iff] at e
  obtain ⟨⟨v, S1⟩, e1, ⟨d, S2⟩, e2, ⟨k, S3⟩, e3, S4, e4, e5⟩ := e
  cases e5
  refine wpAny_Assign_Subscript (thn (hv.run pins s st H (fun hv H1 => ∃ r1, Step r H r1 H1 ∧ SR (g.at z) r1 H1 S1 ∧ RV (g.at z) r1 H1 v hv) I ⟨z, r, S, sl, v, S1, R, e1, fun r1 H1 hv st1 sr1 rv => ⟨r1, st1, sr1, rv⟩⟩) fun w s1 ⟨hv', H1, I1, rw1, r1, st1, sr1, rv⟩ => ?_) hs
  have R1 := R.step st1 sr1
  refine thn (ho.run pins s1 st H1 (fun hd H2 => ∃ r2, Step r1 H1 r2 H2 ∧ SR (g.at z) r2 H2 S2 ∧ RV (g.at z) r2 H2 d hd) I1 ⟨z, r1, S1, sl, d, S2, R1, e2, fun r2 H2 hv st2 sr2 rv => ⟨r2, st2, sr2, rv⟩⟩) fun u s2 ⟨hd, H2, I2, rw2, r2, st2, sr2, rd⟩ => ?_
  have R2 := R1.step st2 sr2
  refine thn (hi.run pins s2 st H2 (fun hk H3 => ∃ r3, Step r2 H2 r3 H3 ∧ SR (g.at z) r3 H3 S3 ∧ RV (g.at z) r3 H3 k hk) I2 ⟨z, r2, S2, sl, k, S3, R2, e3, fun r3 H3 hv st3 sr3 rv => ⟨r3, st3, sr3, rv⟩⟩) fun iv s3 ⟨hk, H3, I3, rw3, r3, st3, sr3, rk⟩ => ?_
  have R3 := R2.step st3 sr3
  refine put_dic (g := g.at z) hK hw hu I3 sr3 (rd.mono st3 sr2.own) rk ((rv.mono st2 sr1.own).mono st3 sr2.own) rw2 rw3 rw1 e4 fun r4 H4 s4 st4 sr4 I4 => ?_
  exact ⟨st, H4, I4, q r4 H4 st (((st1.trans st2).trans st3).trans st4) (R3.step st4 sr4)⟩
end
end Mp
namespace Mp
open PySem PySem.Spec
      PyProof.Rows L2

/-! ### {} and {k: v, ..} -/
def eNewK : ME := fun _ S => some (.ref S.length, S ++ [.dK []])
def eNewN : ME := fun _ S => some (.ref S.length, S ++ [.dN []])
/-- the values of a display -/
def eDisp (ks : List Key) (ms : MEs) : ME := fun sl S => (ms sl S).bind fun p => if ks.length = p.1.length then some (.ref p.2.length, p.2 ++ [.dK (ks.zip p.1)]) else none
section
variable {X : Cx} {g : Gx} {pos : Pos}
theorem d_newK : PE X (.Dict [] [] pos) (tD g eNewK) := by
  refine PE.weak pe_dnewK fun st H Q h => ?_
  obtain ⟨z, r, S, sl, v, S', R, e, q⟩ := h
  cases e
  intro p hp
  obtain ⟨sr2, st2⟩ := R.sr.grow hp (RO.dK (kvs := []) (kws := []) rfl (Nat.zero_le _) .nil)
  refine q _ _ (.ref p) st2 sr2 (.ref ?_)
  rw [← R.sr.len, List.getElem?_append_right (Nat.le_refl _)]
  simp
theorem d_newN (hw : g.w = X.w) : PE X (.Dict [] [] pos) (tD g eNewN) := by
  refine ⟨fun pins s st H Q I h => ?_⟩
  obtain ⟨z, r, S, sl, v, S', R, e, q⟩ := h
  cases e
  have hp : H s.heap.objs.size = none := I.hok.fresh (Nat.le_refl _)
  obtain ⟨sr2, st2⟩ := R.sr.grow (so := .dN []) (o := DnHO (g.at z).w s.heap.objs.size []) hp (RO.dN (rows := []) rfl (Nat.zero_le _) .nil .nil)
  have d : DnAt X.w s.heap.objs.size [] (s.heap.push { cls := .type "dict", data := .dict #[] }) := ⟨Nat.zero_le _, beq_eq_false_iff_ne.mpr (Ne.symm (Nat.ne_of_lt I.big)), [], .nil, _, #[], 0, Heap.get?_push_size _ rfl, ⟨rfl, rfl, rfl⟩, rfl, rfl, List.nodup_nil⟩
  have I' : Inv X pins st (upd H s.heap.objs.size (DnHO (g.at z).w s.heap.objs.size [])) { s with heap := s.heap.push { cls := .type "dict", data := .dict #[] } } := by
    have e : DnHO (g.at z).w s.heap.objs.size [] = DnHO X.w s.heap.objs.size [] := by rw [show (g.at z).w = X.w from hw]
    rw [e]
    exact I.laid (t' := s.toks) (fun _ _ q => Heap.get?_push_of_some _ q) (Nat.le_refl _) (dn_ok d)
  refine wpAny_Dict_empty ⟨.ref s.heap.objs.size, _, I', rfl, q _ _ (.ref _) st2 sr2 (.ref ?_)⟩
  rw [← R.sr.len, List.getElem?_append_right (Nat.le_refl _)]
  simp
/-- what stands beside stays -/
theorem RVs.updf {r : List Addr} {H : Hp} {p : Addr} {u o : HO} (hu : H p = some u) (c : Chg u) (nl : ∀ xs, u ≠ .lst xs) {x : List Val} {v : List V} (h : RVs g r H x v) : RVs g r (upd H p o) x v := by
  have seqT : ∀ {b : Addr} {vs : List V}, SqT g.K H b vs → SqT g.K (upd H p o) b vs := fun {b vs} h => by
    rcases h with (h | ⟨ob, h⟩) | h
    · exact .inl (.inl (by rw [upd_ne (fun e => by rw [e, hu] at h; exact c.1 _ (Option.some.inj h))]; exact h))
    · exact .inl (.inr ⟨ob, by rw [upd_ne (fun e => by rw [e, hu] at h; exact c.2.1 _ _ (Option.some.inj h))]; exact h⟩)
    · exact .inr h
  exact RVs.rec (g := g) (r := r) (H := H) (motive_1 := fun x v _ => RV g r (upd H p o) x v) (motive_2 := fun x v _ => RVs g r (upd H p o) x v)
    .non .bl .int .str .ty (fun h => .fn h) (fun h hl _ ih => .tup (seqT h) hl ih) (fun {b _ _} h hn hz' hl _ ih => .lst (by rw [upd_ne (fun e => by rw [e, hu] at h; exact nl _ (Option.some.inj h))]; exact h) hn hz' hl ih)
    (fun {b ob _ _} h hn hl _ ih => .scr (o := ob) (by rw [upd_ne (fun e => by rw [e, hu] at h; exact c.2.2 _ _ (Option.some.inj h))]; exact h) hn hl ih) (fun h => .ref h) (fun {b ob _ _} h hd hl _ ih => .ptp (o := ob) (by rw [upd_ne (fun e => by rw [e, hu] at h; exact c.2.1 _ _ (Option.some.inj h))]; exact h) hd hl ih) .nil (fun _ _ a b => .cons a b) h
theorem RO.updf {r : List Addr} {H : Hp} {p b : Addr} {u o : HO} (hu : H p = some u) (c : Chg u) (nl : ∀ xs, u ≠ .lst xs) {x : SO} {v : HO} (h : RO g r H b x v) : RO g r (upd H p o) b x v := by
  cases h with
  | lst hl h => exact .lst hl (h.updf hu c nl)
  | dK h1 hl h2 => exact .dK h1 hl (h2.updf hu c nl)
  | dN h1 hl h0 h2 => exact .dN h1 hl (h0.updf hu c nl) (h2.updf hu c nl)
  | lkK h => cases h with | dK h1 hl h2 => exact .lkK (.dK h1 hl (h2.updf hu c nl))
  | lkN h1 hl h0 h2 => exact .lkN h1 hl (h0.updf hu c nl) (h2.updf hu c nl)
theorem SR.updf {r : List Addr} {H : Hp} {S : Sto} {p : Addr} {u o : HO} (hu : H p = some u) (c : Chg u) (nl : ∀ xs, u ≠ .lst xs) (hr : p ∉ r) (sr : SR g r H S) : SR g r (upd H p o) S := by
  refine ⟨sr.len, sr.nd, fun q hq => ?_, sr.zr, fun i so a h1 h2 => ?_⟩
  · obtain ⟨xs, e⟩ := sr.zat q hq
    exact ⟨xs, by rw [upd_ne (fun z => by rw [z, hu] at e; exact nl _ (Option.some.inj e))]; exact e⟩
  · obtain ⟨y, hy, ro⟩ := sr.at_ i so a h1 h2
    exact ⟨y, by rw [upd_ne (fun z => hr (by rw [← z]; exact List.mem_of_getElem? h2))]; exact hy, ro.updf hu c nl⟩
theorem RVs.wide {r : List Addr} {H : Hp} {p : Addr} (ny : ∀ y, H p = some y → (∀ xs, y ≠ .lst xs) ∧ ∀ ob xs, y ≠ .frz ob (.lst xs)) {x : List Val} {v : List V} (h : RVs g r H x v) : RVs g (r ++ [p]) H x v := by
  have nin : ∀ a, a ∉ r → a ≠ p → a ∉ r ++ [p] := fun a h1 h2 h => by
    rcases List.mem_append.mp h
          with q | q
    · exact h1 q
    · exact h2 (by simpa using q)
  exact RVs.rec (g := g) (r := r) (H := H) (motive_1 := fun x v _ => RV g (r ++ [p]) H x v) (motive_2 := fun x v _ => RVs g (r ++ [p]) H x v)
    .non .bl .int .str .ty (fun h => .fn h) (fun h hl _ ih => .tup h hl ih) (fun {a _ _} h hn hz' hl _ ih => .lst h (nin a hn fun e => by rw [e] at h; exact (ny _ h).1 _ rfl) hz' hl ih)
    (fun {a ob _ _} h hn hl _ ih => .scr (o := ob) h (nin a hn fun e => by rw [e] at h; exact (ny _ h).2 _ _ rfl) hl ih) (fun {n a} h => .ref (by
      have hl : n < r.length := (List.getElem?_eq_some_iff.mp h).1
      rw [List.getElem?_append_left hl]; exact h)) (fun h hd hl _ ih => .ptp h hd hl ih) .nil (fun _ _ a b => .cons a b) h
theorem RO.wide {r : List Addr} {H : Hp} {p b : Addr} (ny : ∀ y, H p = some y → (∀ xs, y ≠ .lst xs) ∧ ∀ ob xs, y ≠ .frz ob (.lst xs)) {x : SO} {v : HO} (h : RO g r H b x v) : RO g (r ++ [p]) H b x v := by
  cases h with
  | lst hl h => exact .lst hl (h.wide ny)
  | dK h1 hl h2 => exact .dK h1 hl (h2.wide ny)
  | dN h1 hl h0 h2 => exact .dN h1 hl (h0.wide ny) (h2.wide ny)
  | lkK h => cases h with | dK h1 hl h2 => exact .lkK (.dK h1 hl (h2.wide ny))
  | lkN h1 hl h0 h2 => exact .lkN h1 hl (h0.wide ny) (h2.wide ny)
/-- an object that stood empty becomes one of the store's -/
theorem SR.own1 {r r0 : List Addr} {H H0 : Hp} {S : Sto} {p : Addr} {u o : HO} {so : SO} (sr : SR g r H S) (hu : H p = some u) (c : Chg u) (nl : ∀ xs, u ≠ .lst xs) (no : (∀ xs, o ≠ .lst xs) ∧ ∀ ob xs, o ≠ .frz ob (.lst xs)) (hr : p ∉ r) (h0 : H0 p = none) (s : Step r0 H0 r H) (ro : RO g r (upd H p o) p so o) :
    SR g (r ++ [p]) (upd H p o) (S ++ [so]) ∧ Step r0 H0 (r ++ [p]) (upd H p o) := by
  have sr1 : SR g r (upd H p o) S := sr.updf hu c nl hr
  have ny : ∀ y, (upd H p o) p = some y → (∀ xs, y ≠ .lst xs) ∧ ∀ ob xs, y ≠ .frz ob (.lst xs) := fun y e => by
    rw [upd_same] at e
    cases e
    exact no
  refine ⟨⟨by simp [sr.len], ?_, sr1.zat, fun q hq m => ?_, fun i x a h1 h2 => ?_⟩, ⟨fun b x h hb => ?_, ?_, fun b hb => ?_, fun b ob x h => by rw [upd_ne (fun z => by rw [z, h0] at h; cases h)]; exact s.frz b ob x h⟩⟩
  · rw [List.nodup_append]
    exact ⟨sr.nd, by simp, fun a ha b hb e => by
      have : b = p := by simpa using hb
      rw [e, this] at ha
      exact hr ha⟩
  · rcases List.mem_append.mp m with m | m
    · exact sr.zr q hq m
    · have e : q = p := by simpa using m
      obtain ⟨xs, hx⟩ := sr.zat q hq
      rw [e, hu] at hx
      exact nl _ (Option.some.inj hx)
  · by_cases hi : i < S.length
    · rw [List.getElem?_append_left hi] at h1
      rw [List.getElem?_append_left (by rw [sr.len]; exact hi)] at h2
      obtain ⟨y, hy, ro'⟩ := sr1.at_ i x a h1 h2
      exact ⟨y, hy, ro'.wide ny⟩
    · rw [List.getElem?_append_right (by omega)] at h1
      rw [List.getElem?_append_right (by rw [sr.len]; omega)] at h2
      have hi' : i - S.length = 0 := by
        have := (List.getElem?_eq_some_iff.mp h1).1
        simp at this
        omega
      rw [hi'] at h1
      rw [sr.len, hi'] at h2
      simp at h1 h2
      subst h1 h2
      exact ⟨o, upd_same, ro.wide ny⟩
  · have ne : b ≠ p := fun z => by rw [z, h0] at h; cases h
    rw [upd_ne ne]
    exact s.ext b x h hb
  · obtain ⟨t, rfl⟩ := s.pre
    exact ⟨t ++ [p], by simp⟩
  · rcases List.mem_append.mp hb with q | q
    · exact s.new b q
    · have e : b = p := by simpa using q
      rw [e]
      exact .inr h0
/-- the pairs of a display whose keys are constants -/
def keysC : List Str → List ME → List (ME × ME)
  | x :: xs, m :: ms => (eCon (.str x), m) :: keysC xs ms
  | _, _ => []
def esAll : List ME → MEs
  | [] => esNil
  | m :: ms => esCons m (esAll ms)
theorem pairs_read {z : List Addr} {st : L2.St} : ∀ (xs : List Str) (ms : List ME) {r : List Addr} {H : Hp} {S S' : Sto} {sl : Sl} {vs : List Val} {Q : List (V × V) → Hp → Prop}, xs.length = ms.length → Rep (g.at z) r H S sl st → esAll ms sl S = some (vs, S') →
    (∀ r' H' hvs, Step r H r' H' → SR (g.at z) r' H' S' → RVs (g.at z) r' H' vs hvs → Q ((xs.map V.str).zip hvs) H') → tPairs ((keysC xs ms).map fun p => (tD g p.1, tD g p.2)) st H Q
  | [], [], r, H, S, S', sl, vs, Q, _, R, e, q => by
    cases e
    exact q r H [] (.refl r H) R.sr .nil
  | x :: xs, m :: ms, r, H, S, S', sl, vs, Q, hl, R, e, q => by
    simp only [esAll, esCons, Option.bind_eq_some_iff] at e
    obtain ⟨⟨v, S1⟩, e1, ⟨ws, S2⟩, e2, e3⟩ := e
    cases e3
    refine ⟨z, r, S, sl, _, _, R, rfl, fun r1 H1 hk st1 sr1 rk => ?_⟩
    cases rk
    refine ⟨z, r1, S, sl, v, S1, R.step st1 sr1, e1, fun r2 H2 hv st2 sr2 rv => ?_⟩
    refine pairs_read xs ms (by simpa using hl) ((R.step st1 sr1).step st2 sr2) e2 fun r3 H3 hvs st3 sr3 rvs => ?_
    exact q r3 H3 (hv :: hvs) ((st1.trans st2).trans st3) sr3 (.cons (rv.mono st3 sr2.own) rvs)
  | [], _ :: _, _, _, _, _, _, _, _, hl, _, _, _ => by cases hl
  | _ :: _, [], _, _, _, _, _, _, _, hl, _, _, _ => by cases hl
theorem merge_new : ∀ (kvs acc : List (Key × V)), ((acc ++ kvs).map (·.1)).Nodup → mergeK acc kvs = acc ++ kvs
  | [], acc, _ => by simp [mergeK]
  | p :: ps, acc, h => by
    have hn : (acc.any fun kv => decide (kv.1 = p.1)) = false := by
      rw [List.any_eq_false]
      intro y hy e
      rw [decide_eq_true_eq] at e
      rw [List.map_append, List.nodup_append] at h
      exact h.2.2 y.1 (List.mem_map_of_mem hy) p.1 (by simp) e
    show mergeK (putK acc p.1 p.2) ps = _
    unfold putK
    rw [hn, if_neg Bool.false_ne_true, merge_new ps (acc ++ [(p.1, p.2)]) (by simpa using h)]
    simp
theorem zip_kv : ∀ (xs : List Str) (hvs : List V), (xs.map V.str).zip hvs = ((xs.map (Sum.inr : Str → Key)).zip hvs).map fun kv => (kV kv.1, kv.2)
  | [], _ => rfl
  | _ :: _, [] => rfl
  | x :: xs, v :: vs => by
    simp only [List.map_cons, List.zip_cons_cons, zip_kv xs vs]
    rfl
theorem zip_fst {α β : Type} : ∀ (xs : List α) (vs : List β), xs.length = vs.length → (xs.zip vs).map (·.1) = xs ∧ (xs.zip vs).map (·.2) = vs
  | [], [], _ => ⟨rfl, rfl⟩
  | [], _ :: _, h => by cases h
  | _ :: _, [], h => by cases h
  | x :: xs, v :: vs, h => by
    obtain ⟨a, b⟩ := zip_fst xs vs (by simpa using h)
    exact ⟨by simp [a], by simp [b]⟩
theorem esAll_length : ∀ (ms : List ME) {sl : Sl} {S S' : Sto} {vs : List Val}, esAll ms sl S = some (vs, S') → vs.length = ms.length
  | [], _, _, _, _, e => by cases e; rfl
  | m :: ms, _, _, _, _, e => by
    simp only [esAll, esCons, Option.bind_eq_some_iff] at e
    obtain ⟨⟨v, S1⟩, e1, ⟨ws, S2⟩, e2, e3⟩ := e
    cases e3
    simp [esAll_length ms e2]
theorem d_disp {keys : List (Option Expr)} {values : List Expr} {xs : List Str} {ms : List ME} (h : PPs X pos keys values ((keysC xs ms).map fun p => (tD g p.1, tD g p.2))) (hx : xs.length = ms.length) (nd : xs.Nodup) (h15 : xs.length ≤ 15) (hall : keys.all (·.isSome) = true := by rfl) (hl : keys.length = values.length := by rfl) (h0 : keys ≠ [] := by intro z; cases z)
    (hk : keys.length ≤ 15 := by decide) : PE X (.Dict keys values pos) (tD g (eDisp (xs.map Sum.inr) (esAll ms))) := by
  refine PE.weak (pe_disp h hall hl h0 hk) fun st H Q h => ?_
  obtain ⟨z, r, S, sl, v, S', R, e, q⟩ := h
  simp only [eDisp, Option.bind_eq_some_iff] at e
  obtain ⟨⟨vs, S1⟩, e1, e2⟩ := e
  have hv := esAll_length ms e1
  rw [if_pos (by simp [hv, hx])] at e2
  cases e2
  intro p hp
  have R1 : Rep (g.at z) r (upd H p (.dK [])) S sl st := R.step (Step.new1 hp) (R.sr.beside hp)
  refine pairs_read xs ms hx R1 e1 fun r2 H2 hvs st2 sr2 rvs => ?_
  have np : p ∉ r := notin_own R.sr.own hp
  have h2 : H2 p = some (.dK []) := st2.ext p _ upd_same np
  have np2 : p ∉ r2 := fun hm => by
    rcases st2.new p hm with c | c
    · exact np c
    · rw [upd_same] at c; cases c
  have lv : hvs.length = xs.length := by rw [← rvs.length, hv, hx]
  have kk : ((xs.map (Sum.inr : Str → Key)).zip hvs).map (·.1) = xs.map Sum.inr := (zip_fst _ _ (by simp [lv])).1
  have kv : ((xs.map (Sum.inr : Str → Key)).zip hvs).map (·.2) = hvs := (zip_fst _ _ (by simp [lv])).2
  refine ⟨h2, (xs.map Sum.inr).zip hvs, zip_kv xs hvs, by simp [lv]; exact h15, ?_⟩
  rw [merge_new _ [] (by rw [List.nil_append, kk]; exact nd.map _ (fun a b h e => h (Sum.inr.inj e)))]
  have c : Chg (.dK []) := ⟨fun _ z => (nomatch z), fun _ _ z => (nomatch z), fun _ _ z => (nomatch z)⟩
  obtain ⟨sr3, st3⟩ := SR.own1 (g := g.at z) (so := .dK ((xs.map Sum.inr).zip vs)) (o := .dK ((xs.map Sum.inr).zip hvs)) sr2 h2 c (fun _ z => nomatch z) ⟨fun _ z => (nomatch z), fun _ _ z => (nomatch z)⟩ np2 hp ((Step.new1 hp).trans st2)
    (RO.dK (by rw [kk]; exact (zip_fst _ _ (by simp [hv, hx])).1) (by rw [sizeLine_eq]; simp; omega) (by rw [kv, (zip_fst _ _ (by simp [hv, hx])).2]; exact rvs.updf h2 c (fun _ z => nomatch z)))
  refine q _ _ (.ref p) st3 sr3 (.ref ?_)
  rw [← sr2.len, List.getElem?_append_right (Nat.le_refl _)]
  simp
end
end Mp
namespace Mp
open PySem PySem.Spec
      PyProof.Rows L2

/-! ### is, is not -/
def fIs (neg : Bool) (_ : Sto) : Val → Val → Option Val
  | .bl a, .bl b => some (.bl (neg ^^ decide (a = b)))
  | .non, .non => some (.bl (neg ^^ true))
  | .int _, .non => some (.bl (neg ^^ false))
  | .str _, .non => some (.bl (neg ^^ false))
  | .tup _, .non => some (.bl (neg ^^ false))
  | .ptp _, .non => some (.bl (neg ^^ false))
  | .lst _, .non => some (.bl (neg ^^ false))
  | .ref _, .non => some (.bl (neg ^^ false))
  | _, _ => none
section
variable {X : Cx} {g : Gx} {pos : Pos}
theorem o_is {neg : Bool} : OpR X (compareOp (if neg then .IsNot else .Is)) (rG2 g (fIs neg)) := by
  intro pins s st H x y v u Q I rx ry h
  obtain ⟨z, r, S, a, b, w, sr, ra, rb, e, q⟩ := h
  have fin : ∀ k, w = .bl k → Q (.bl k) H := fun k hk => q r H _ (.refl r H) sr (by rw [hk]; exact .bl k)
  unfold fIs at e
  split at e
  · rename_i a b
    cases e
    cases ra
    cases rb
    cases neg
    · exact op_isBl pins s st H _ _ v u Q I rx ry ⟨a, b, rfl, rfl, fin _ (by simp)⟩
    · exact op_notBl pins s st H _ _ v u Q I rx ry ⟨a, b, rfl, rfl, fin _ (by simp)⟩
  all_goals first
    | cases e
    | skip
  all_goals
    cases rb
    cases neg
    · refine op_isN pins s st H _ _ v u Q I rx ry ⟨rfl, fin _ ?_⟩
      cases ra <;> simp
    · refine op_notN pins s st H _ _ v u Q I rx ry ⟨rfl, fin _ ?_⟩
      cases ra <;> simp
theorem fIs_bl {neg : Bool} : ∀ S x y v, fIs neg S x y = some v → ∃ k, v = .bl k := fun S x y v e => by
  unfold fIs at e
  split at e <;> cases e <;> exact ⟨_, rfl⟩

/-! ### a, b, c = x, y, z -/
def sPar3 (i j l : Nat) (a b c : ME) : MS := fun sl S => (a sl S).bind fun p => (b sl p.2).bind fun q => (c sl q.2).bind fun t => some (.nxt, ((sl.set i (some p.1)).set j (some q.1)).set l (some t.1), t.2)
theorem ds_par3 {i j l : Nat} {x y w : Str} {a b c : Expr} {ma mb mc : ME} {px py pz pt : Pos} {kt k2 : Nat} {pt2 : Pos} (hc : X.calm = true) (hN : X.N.Nodup) (hi : X.N[i]? = some x) (hj : X.N[j]? = some y) (hl : X.N[l]? = some w) (hij : i ≠ j) (hil : i ≠ l) (hjl : j ≠ l)
    (hx : X.env.scope.names.lookup x = some .local) (hy : X.env.scope.names.lookup y = some .local) (hz : X.env.scope.names.lookup w = some .local) (ha : PE X a (tD g ma)) (hb : PE X b (tD g mb)) (hcc : PE X c (tD g mc))
    (hw : swappedStores [.Tuple [.Name x px, .Name y py, .Name w pz] kt pt] (.Tuple [a, b, c] k2 pt2) X.env = pure (some [x, y, w]))
    (hs : swapsWithSole [.Tuple [.Name x px, .Name y py, .Name w pz] kt pt] (.Tuple [a, b, c] k2 pt2) pos.line X.env = pure false := by rfl)
    (s1 : starEach [a, b, c] X.env = (false, eval a X.env) :: starEach [b, c] X.env := by rfl) (s2 : starEach [b, c] X.env = (false, eval b X.env) :: starEach [c] X.env := by rfl) (s3 : starEach [c] X.env = (false, eval c X.env) :: starEach [] X.env := by rfl) :
    PS X (.Assign [.Tuple [.Name x px, .Name y py, .Name w pz] kt pt] (.Tuple [a, b, c] k2 pt2) pos) (tDS g (sPar3 i j l ma mb mc)) := by
  refine PS.weak (ps_par3 (i := i) (j := j) (l := l) hc hN hi hj hl hij hil hjl hx hy hz (pa_cons ha (pa_cons hb (pa_cons hcc pa_nil s3) s2) s1) hw hs) fun D st H h => ?_
  obtain ⟨z, r, S, sl, f, sl', S', R, e, q⟩ := h
  simp only [sPar3, Option.bind_eq_some_iff] at e
  obtain ⟨⟨a, S1⟩, e1, ⟨b, S2⟩, e2, ⟨c, S3⟩, e3, e4⟩ := e
  cases e4
  refine ⟨z, r, S, sl, a, S1, R, e1, fun r1 H1 x st1 sr1 rx => ⟨z, r1, S1, sl, b, S2, R.step st1 sr1, e2, fun r2 H2 y st2 sr2 ry => ⟨z, r2, S2, sl, c, S3, (R.step st1 sr1).step st2 sr2, e3, fun r3 H3 t st3 sr3 rt => ?_⟩⟩⟩
  have sl3 := (((R.sl.mono st1 R.sr.own).mono st2 sr1.own).mono st3 sr2.own)
  exact ⟨x, y, t, rfl, q r3 H3 _ ((st1.trans st2).trans st3) ⟨sr3, ((sl3.set ((rx.mono st2 sr1.own).mono st3 sr2.own) i).set (ry.mono st3 sr2.own) j).set rt l⟩⟩

/-! ### methods -/
def eMeth (chk : Sto → Val → Bool) (f : Sto → Val → List Val → Option (Val × Sto)) (mo : ME) (ms : MEs) : ME := fun sl S => (mo sl S).bind fun o => if chk o.2 o.1 then (ms sl o.2).bind fun p => f p.2 o.1 p.1 else none
def rMG (g : Gx) (f : Sto → Val → List Val → Option (Val × Sto)) : V → List V → Hp → VK → Prop := fun x vs H Q => ∃ z r S a xs v S', SR (g.at z) r H S ∧ RV (g.at z) r H a x ∧ RVs (g.at z) r H xs vs ∧ f S a xs = some (v, S') ∧
  ∀ r' H' hv, Step r H r' H' → SR (g.at z) r' H' S' → RV (g.at z) r' H' v hv → Q hv H'
theorem meth_read {chk : Sto → Val → Bool} {f : Sto → Val → List Val → Option (Val × Sto)} {mo : ME} {ms : MEs} {T : String} {st : L2.St} {H : Hp} {Q : VK} (ty : ∀ z r H S a x, SR (Gx.at g z) r H S → RV (Gx.at g z) r H a x → chk S a = true → tyV X.K T x H) (h : tD g (eMeth chk f mo ms) st H Q) : tBM X.K T (rMG g f) (tD g mo) (tDs g ms) st H Q := by
  obtain ⟨z, r, S, sl, v, S', R, e, q⟩ := h
  simp only [eMeth, Option.bind_eq_some_iff] at e
  obtain ⟨⟨o, S1⟩, e1, e2⟩ := e
  dsimp only at e2
  split at e2
  · rename_i hc
    simp only [Option.bind_eq_some_iff] at e2
    obtain ⟨⟨xs, S2⟩, e3, e4⟩ := e2
    refine ⟨z, r, S, sl, o, S1, R, e1, fun r1 H1 ho st1 sr1 ro => ⟨ty z r1 H1 S1 o ho sr1 ro hc, z, r1, S1, sl, xs, S2, R.step st1 sr1, e3, fun r2 H2 vs st2 sr2 rvs => ?_⟩⟩
    exact ⟨z, r2, S2, o, xs, v, S', sr2, ro.mono st2 sr1.own, rvs, e4, fun r3 H3 hv st3 sr3 rv => q r3 H3 hv ((st1.trans st2).trans st3) sr3 rv⟩
  · cases e2
def isL (S : Sto) : Val → Bool
  | .ref n => match S[n]? with
    | some (.lst _) => true
    | _ => false
  | _ => false
theorem isL_ty {z r H S a x} (sr : SR (Gx.at g z) r H S) (h : RV (Gx.at g z) r H a x) (e : isL S a = true) : tyV X.K "list" x H := by
  unfold isL at e
  split at e
  · split at e
    · rename_i hx
      cases h with
      | ref ha =>
        obtain ⟨u, hu, ro⟩ := sr.at_ _ _ _ hx ha
        cases ro with
        | lst hl hs => exact .inl ⟨rfl, _, .inl (.inl hu)⟩
    · cases e
  · cases e
def fPop (S : Sto) (a : Val) (xs : List Val) : Option (Val × Sto) := match a, xs with
  | .ref n, [.int i] => match S[n]? with
    | some (.lst ys) => if -(2 ^ 63) ≤ i ∧ i < 2 ^ 63 then (seqIndex? i ys.length).bind fun k => (ys[k]?).map fun y => (y, S.set n (.lst (ys.eraseIdx k))) else none
    | _ => none
  | _, _ => none
def fApp (S : Sto) (a : Val) (xs : List Val) : Option (Val × Sto) := match a, xs with
  | .ref n, [y] => match S[n]? with
    | some (.lst ys) => if ys.length < sizeLine then some (.non, S.set n (.lst (ys ++ [y]))) else none
    | _ => none
  | _, _ => none
theorem RVs.erase {r : List Addr} {H : Hp} : ∀ {xs : List Val} {vs : List V} (k : Nat), RVs g r H xs vs → RVs g r H (xs.eraseIdx k) (vs.eraseIdx k)
  | _, _, _, .nil => .nil
  | _, _, 0, .cons _ t => t
  | _, _, k + 1, .cons h t => .cons h (RVs.erase k t)
theorem chg_lst {vs : List V} : Chg (.lst vs) := ⟨fun _ z => (nomatch z), fun _ _ z => (nomatch z), fun _ _ z => (nomatch z)⟩
theorem m_pop : MtR X "list.pop" (rMG g fPop) := by
  intro pins s st H x vs v us Q I rx rvs h
  obtain ⟨z, r, S, a, xs, w, S', sr, ra, rxs, e, q⟩ := h
  unfold fPop at e
  split at e
  · rename_i n i
    split at e
    · rename_i ys hy
      split at e
      · rename_i hi
        simp only [Option.bind_eq_some_iff, Option.map_eq_some_iff] at e
        obtain ⟨k, e1, y, e2, e3⟩ := e
        cases e3
        cases ra with
        | ref ha =>
          obtain ⟨u, hu, ro⟩ := sr.at_ _ _ _ hy ha
          cases ro with
          | lst hl hs =>
            cases rxs with
            | cons b t =>
              cases t
              cases b
              obtain ⟨hv, g1, g2⟩ := hs.get e2
              have ham := List.mem_of_getElem? ha
              refine mt_popAt pins s st H _ _ v us Q I rx rvs ⟨_, _, i, k, hv, rfl, rfl, hu, hi.1, hi.2, by rw [← hs.length]; exact e1, g1, ?_⟩
              obtain ⟨sr', st'⟩ := sr.put (so := .lst (ys.eraseIdx k)) (o := .lst (_ : List V)) ha hu chg_lst (fun _ _ z => nomatch z) (.lst (by have := len_erase ys k; omega) ((hs.erase k).updr ham hu chg_lst))
              exact q r _ hv st' sr' (g2.updr ham hu chg_lst)
      · cases e
    · cases e
  · cases e
theorem m_app : MtR X "list.append" (rMG g fApp) := by
  intro pins s st H x vs v us Q I rx rvs h
  obtain ⟨z, r, S, a, xs, w, S', sr, ra, rxs, e, q⟩ := h
  unfold fApp at e
  split at e
  · rename_i n y
    split at e
    · rename_i ys hy
      split at e
      · rename_i hi
        cases e
        cases ra with
        | ref ha =>
          obtain ⟨u, hu, ro⟩ := sr.at_ _ _ _ hy ha
          cases ro with
          | lst hl hs =>
            cases rxs with
            | cons b t =>
              cases t
              have ham := List.mem_of_getElem? ha
              refine mt_append pins s st H _ _ v us Q I rx rvs ⟨_, _, _, rfl, rfl, hu, by rw [← hs.length]; exact hi, ?_⟩
              obtain ⟨sr', st'⟩ := sr.put (so := .lst (ys ++ [y])) (o := .lst (_ : List V)) ha hu chg_lst (fun _ _ z => nomatch z) (.lst (by simp; omega) ((hs.append (.cons b .nil)).updr ham hu chg_lst))
              exact q r _ _ st' sr' .non
      · cases e
    · cases e
  · cases e
variable {o e : Expr} {mo : ME} {ms : MEs} {apos cpos : Pos} {es : List Expr}
theorem d_pop (ho : PE X o (tD g mo)) (ha : PA X [e] (tDs g ms)) (hbase : attributeBase o "pop" X.env (eval o X.env) = eval o X.env := by rfl)
    (hfew : ((backTo cpos (starEach [e] X.env)).all (fun x => !x.1) && (backToKw cpos (keywordEach [] X.env)).all (fun x => x.1.isSome) && decide (([e] : List Expr).length + ([] : List Keyword).length + (if ([] : List Keyword).isEmpty then 0 else 1) < 30)) = true := by rfl)
    (hline : (apos.endLine == cpos.line) = true := by rfl) (hs : starEach [e] X.env = (false, eval e X.env) :: starEach [] X.env := by rfl) (hpl : (backTo cpos (starEach [] X.env)).any (·.1) = false := by rfl) : PE X (.Call (.Attribute o "pop" apos) [e] [] cpos) (tD g (eMeth isL fPop mo ms)) :=
  PE.weak (pe_bm F.plainAttrs_list F.slot_list_pop F.type_list_pop m_pop ho ha hbase hfew hline hs hpl) fun _ _ _ h => meth_read (fun _ _ _ _ _ _ a b c => isL_ty a b c) h
theorem d_app (ho : PE X o (tD g mo)) (ha : PA X [e] (tDs g ms)) (hbase : attributeBase o "append" X.env (eval o X.env) = eval o X.env := by rfl)
    (hfew : ((backTo cpos (starEach [e] X.env)).all (fun x => !x.1) && (backToKw cpos (keywordEach [] X.env)).all (fun x => x.1.isSome) && decide (([e] : List Expr).length + ([] : List Keyword).length + (if ([] : List Keyword).isEmpty then 0 else 1) < 30)) = true := by rfl)
    (hline : (apos.endLine == cpos.line) = true := by rfl) (hs : starEach [e] X.env = (false, eval e X.env) :: starEach [] X.env := by rfl) (hpl : (backTo cpos (starEach [] X.env)).any (·.1) = false := by rfl) : PE X (.Call (.Attribute o "append" apos) [e] [] cpos) (tD g (eMeth isL fApp mo ms)) :=
  PE.weak (pe_bm F.plainAttrs_list F.slot_list_append F.type_list_append m_app ho ha hbase hfew hline hs hpl) fun _ _ _ h => meth_read (fun _ _ _ _ _ _ a b c => isL_ty a b c) h
end
end Mp
namespace Mp
open PySem PySem.Spec
      PyProof.Rows L2

/-! ### tuple(list) as a plain tuple; t.index(x) -/
def fTupP : FN := fun S xs => match xs with
  | [x] => (lstOf S x).map .ptp
  | _ => none
section
variable {X : Cx} {g : Gx} {pos : Pos}
theorem Step.newF {r : List Addr} {H : Hp} {p : Addr} {o : HO} (hp : H p = none) : Step r H r (upd H p o) := Step.new1 hp
theorem c_tupleP : CallR X (.type "tuple") (rGn g fTupP) := by
  intro pins s st H vs us Q I rs h
  obtain ⟨z, r, S, xs, v, sr, rx, e, q⟩ := h
  unfold fTupP at e
  split at e
  · simp only [Option.map_eq_some_iff] at e
    obtain ⟨ys, e1, rfl⟩ := e
    cases rx with
    | cons a b =>
      cases b
      obtain ⟨p, ws, rfl, hp, hz, hs⟩ := lstOf_at sr a e1
      obtain ⟨u, rfl, ru⟩ := vals1 rs
      cases ru
      obtain ⟨its, rv, pl, _⟩ := I.list (.inl (.inl hp))
      refine call_tuple_list pl.isList (fun h' kp => ?_) (by
        have := rv.length
        have := hs.length
        simp only [List.size_toArray]
        omega)
      have I1 : Inv X pins st H { s with heap := h' } := I.kept (t' := s.toks) kp
      have hn : H h'.objs.size = none := I1.hok.fresh (Nat.le_refl _)
      have I2 : Inv X pins st (upd H h'.objs.size (.frz { cls := .type "tuple", data := .seq its.toArray } (.tup ws))) { s with heap := h'.push { cls := .type "tuple", data := .seq its.toArray } } :=
        I1.laid (t' := s.toks) (fun b o e => Heap.get?_push_of_some _ e) (Nat.le_refl _) ⟨Heap.get?_push_size _ rfl, show ws.length ≤ sizeLine ∧ _ from ⟨by rw [← hs.length]; exact hz, its, rv, IsTup.new _ _⟩⟩
      refine ⟨.ref h'.objs.size, _, I2, rfl, q r _ (.ref _) (Step.new1 hn) (sr.beside hn) (.ptp upd_same rfl hz (hs.of_none sr.own hn))⟩
  · cases e
variable {o e : Expr} {mo : ME} {ms : MEs} {apos cpos : Pos} {es : List Expr}
/-- a method's call, the receiver's kind said by the machine's state -/
theorem pe_bmS {T : String} {name : Str} {id : String} {r : V → List V → Hp → VK → Prop} {to : TE} {t : TA} {ok : V → Hp → Prop} (tyOk : ∀ (pins : List (Addr × Obj)) (s : Shared) (st : L2.St) (H : Hp) (x : V) (v : Value), Inv X pins st H s → RelV x v → ok x H → s.TypeIs v T ∧ ∀ a, v = .ref a → ∃ ob, s.heap.get? a = some ob ∧ ob.dict = none)
    (pa : PlainAttrs T) (slot : Slot T name id) (hty : typeOf (.builtin id) = pure (.type "method_descriptor")) (hm : MtR X id r) (ho : PE X o to) (ha : PA X (e :: es) t) (hbase : attributeBase o name X.env (eval o X.env) = eval o X.env)
    (hfew : ((backTo cpos (starEach (e :: es) X.env)).all (fun x => !x.1) && (backToKw cpos (keywordEach [] X.env)).all (fun x => x.1.isSome) && decide ((e :: es).length + ([] : List Keyword).length + (if ([] : List Keyword).isEmpty then 0 else 1) < 30)) = true)
    (hline : (apos.endLine == cpos.line) = true) (hs : starEach (e :: es) X.env = (false, eval e X.env) :: starEach es X.env) (hpl : (backTo cpos (starEach es X.env)).any (·.1) = false) :
    PE X (.Call (.Attribute o name apos) (e :: es) [] cpos) (fun st H Q => to st H fun x H1 => ok x H1 ∧ t st H1 fun xs H2 => r x xs H2 Q) := by
  refine ⟨fun pins s st H Q I h => wpAny_Call_method_late hbase hfew hline rfl (thn (ho.run pins s st H _ I h) fun v s1 ⟨x, H1, I1, r1, ty, q1⟩ => ?_)⟩
  obtain ⟨t1, t2⟩ := tyOk pins s1 st H1 x v I1 r1 ty
  have args := ha.run cpos pins s1 st H1 _ I1 q1
  rw [hs] at args ⊢
  refine ⟨T, id, pa, slot, hty, t1, t2, Calls.callWith_builtin ?_ (Calls.evalArgs_plain (thn args fun us s2 ⟨vs, H2, I2, r2, q2⟩ => hm pins s2 st H2 x vs v us Q I2 r1 r2 q2))⟩
  show (false || (backTo cpos (starEach es X.env)).any (·.1)) = false
  rw [hpl]
  rfl
/-- a plain tuple -/
def PlT (x : V) (H : Hp) : Prop := ∃ a ob vs, x = .ref a ∧ H a = some (.frz ob (.tup vs)) ∧ ob.dict = none
theorem plT_ok (pins : List (Addr × Obj)) (s : Shared) (st : L2.St) (H : Hp) (x : V) (v : Value) (I : Inv X pins st H s) (r : RelV x v) (h : PlT x H) : s.TypeIs v "tuple" ∧ ∀ a, v = .ref a → ∃ ob, s.heap.get? a = some ob ∧ ob.dict = none := by
  obtain ⟨a, ob, vs, rfl, ha, hd⟩ := h
  cases r
  obtain ⟨h1, _, its, _, ob', h2, h3, _⟩ := (show ObjOk X.prog X.w H s.heap a (.frz ob (.tup vs)) from I.hok a _ ha)
  refine ⟨⟨ob', h2, h3⟩, fun b e => ?_⟩
  cases e
  exact ⟨ob, h1, hd⟩
def isP (_ : Sto) : Val → Bool
  | .ptp _ => true
  | _ => false
theorem meth_readS {chk : Sto → Val → Bool} {f : Sto → Val → List Val → Option (Val × Sto)} {ok : V → Hp → Prop} {st : L2.St} {H : Hp} {Q : VK} (ty : ∀ z r H S a x, SR (Gx.at g z) r H S → RV (Gx.at g z) r H a x → chk S a = true → ok x H) (h : tD g (eMeth chk f mo ms) st H Q) : tD g mo st H fun x H1 => ok x H1 ∧ tDs g ms st H1 fun xs H2 => rMG g f x xs H2 Q := by
  obtain ⟨z, r, S, sl, v, S', R, e, q⟩ := h
  simp only [eMeth, Option.bind_eq_some_iff] at e
  obtain ⟨⟨o, S1⟩, e1, e2⟩ := e
  dsimp only at e2
  split at e2
  · rename_i hc
    simp only [Option.bind_eq_some_iff] at e2
    obtain ⟨⟨xs, S2⟩, e3, e4⟩ := e2
    refine ⟨z, r, S, sl, o, S1, R, e1, fun r1 H1 ho st1 sr1 ro => ⟨ty z r1 H1 S1 o ho sr1 ro hc, z, r1, S1, sl, xs, S2, R.step st1 sr1, e3, fun r2 H2 vs st2 sr2 rvs => ?_⟩⟩
    exact ⟨z, r2, S2, o, xs, v, S', sr2, ro.mono st2 sr1.own, rvs, e4, fun r3 H3 hv st3 sr3 rv => q r3 H3 hv ((st1.trans st2).trans st3) sr3 rv⟩
  · cases e2
def fIdx (S : Sto) (a : Val) (xs : List Val) : Option (Val × Sto) := match a, xs with
  | .ptp ys, [.str x] => (toT ys).bind fun ts => if x ∈ ts then some (.int (ts.idxOf x), S) else none
  | _, _ => none
theorem vals_strs : ∀ {xs : List Str} {us : List Value}, Vals (xs.map V.str) us → StrsAre us xs
  | [], _, .nil => .nil
  | x :: xs, _, .cons a t => by
    obtain ⟨tk, rfl⟩ := a
    exact .cons x tk (vals_strs t)
theorem m_idx (hK : g.K = X.K) : MtR X "tuple.index" (rMG g fIdx) := by
  intro pins s st H x vs v us Q I rx rvs h
  obtain ⟨z, r, S, a, xs, w, S', sr, ra, rxs, e, q⟩ := h
  unfold fIdx at e
  split at e
  · rename_i ys y
    simp only [Option.bind_eq_some_iff] at e
    obtain ⟨ts, e1, e2⟩ := e
    split at e2
    · rename_i hy
      cases e2
      obtain ⟨p, ws, rfl, h1, h2, h3⟩ := tupOf_at ra rfl
      rw [show (g.at z).K = X.K from hK] at h1
      have ew := toT_at h3 e1
      subst ew
      cases rx
      cases rxs with
      | cons b t =>
        cases t
        cases b
        obtain ⟨u, rfl, ru⟩ := vals1 rvs
        obtain ⟨tk, rfl⟩ := ru
        obtain ⟨its, ri, ht, hz⟩ := I.tuple h1
        exact PySem.SeqAt.tuple_index_strs ht (vals_strs ri) hy ⟨.int _, H, I.tok _, ⟨_, rfl⟩, q r H _ (.refl r H) sr (.int _)⟩
    · cases e2
  · cases e
theorem d_idx (hK : g.K = X.K) (ho : PE X o (tD g mo)) (ha : PA X [e] (tDs g ms)) (hbase : attributeBase o "index" X.env (eval o X.env) = eval o X.env := by rfl)
    (hfew : ((backTo cpos (starEach [e] X.env)).all (fun x => !x.1) && (backToKw cpos (keywordEach [] X.env)).all (fun x => x.1.isSome) && decide (([e] : List Expr).length + ([] : List Keyword).length + (if ([] : List Keyword).isEmpty then 0 else 1) < 30)) = true := by rfl)
    (hline : (apos.endLine == cpos.line) = true := by rfl) (hs : starEach [e] X.env = (false, eval e X.env) :: starEach [] X.env := by rfl) (hpl : (backTo cpos (starEach [] X.env)).any (·.1) = false := by rfl) : PE X (.Call (.Attribute o "index" apos) [e] [] cpos) (tD g (eMeth isP fIdx mo ms)) :=
  PE.weak (pe_bmS plT_ok F.plainAttrs_tuple F.slot_tuple_index F.type_tuple_index (m_idx hK) ho ha hbase hfew hline hs hpl) fun _ _ _ h => meth_readS (fun z r H S a x sr ra hc => by
    unfold isP at hc
    split at hc
    · cases ra with
      | ptp h0 h1 h2 h3 => exact ⟨_, _, _, rfl, h0, h1⟩
    · cases hc) h
end
end Mp
namespace Mp
open PySem PySem.Spec
      PyProof.Rows L2

/-! ### (*a, *b) -/
/-- the items of one that is starred, then the rest -/
def esStar (m : ME) (ms : MEs) : MEs := fun sl S => (m sl S).bind fun p => (seqOf p.2 p.1).bind fun xs => (ms sl p.2).bind fun q => some (xs ++ q.1, q.2)
section
variable {X : Cx} {g : Gx} {pos : Pos}
theorem star_list {M : Model} {A : Around} {E : Value → Shared → Prop} {s : Shared} {a : Addr} {items : Array Value} {Q : List Value → Shared → Prop} {prog : Program} {w : World} (hM : M = model prog w) (h : s.heap.IsList a items) (hz : items.size ≤ sizeLine) (q : ∀ h', (∀ b o, s.heap.get? b = some o → h'.get? b = some o) → Q items.toList { s with heap := h' }) : PySem.W.StarOf M A E (.ref a) Q s := by
  subst hM
  obtain ⟨o, h1, h2, n, h3⟩ := h
  unfold PySem.W.StarOf
        notIterableAtAll
  refine wpAny_bind (wpAny_specialOf (T := "list") ⟨o, h1, h2⟩ slot_list_iter.lookup ?_)
  simp only [Option.isSome_some, if_true]
  refine wpAny_pure ⟨rfl, wpAny_collect_seq a (.inl rfl) h1 h2 h3 q hz⟩
theorem star_tuple {M : Model} {A : Around} {E : Value → Shared → Prop} {s : Shared} {a : Addr} {items : Array Value} {Q : List Value → Shared → Prop} {prog : Program} {w : World} (hM : M = model prog w) (h : IsTup s.heap a items) (hz : items.size ≤ sizeLine) (q : ∀ h', (∀ b o, s.heap.get? b = some o → h'.get? b = some o) → Q items.toList { s with heap := h' }) : PySem.W.StarOf M A E (.ref a) Q s := by
  subst hM
  obtain ⟨o, h1, h2, n, h3⟩ := h
  unfold PySem.W.StarOf
        notIterableAtAll
  refine wpAny_bind (wpAny_specialOf (T := "tuple") ⟨o, h1, h2⟩ F.slot_tuple_iter.lookup ?_)
  simp only [Option.isSome_some, if_true]
  refine wpAny_pure ⟨rfl, wpAny_collect_seq a (.inr rfl) h1 h2 h3 q hz⟩
theorem d_star {e : Expr} {p : Pos} {es : List Expr} {m : ME} {ms : MEs} (hK : g.K = X.K) (he : PE X e (tD g m)) (hr : PA X es (tDs g ms)) (hs : starEach (.Starred e p :: es) X.env = (true, eval e X.env) :: starEach es X.env := by rfl) : PA X (.Starred e p :: es) (tDs g (esStar m ms)) := by
  refine ⟨fun pos pins s st H Q I h => ?_⟩
  obtain ⟨z, r, S, sl, v, S', R, e0, q⟩ := h
  simp only [esStar, Option.bind_eq_some_iff] at e0
  obtain ⟨⟨x, S1⟩, e1, xs, e2, ⟨ys, S2⟩, e3, e4⟩ := e0
  cases e4
  rw [hs]
  refine PySem.W.ks_spliced (thn (he.run pins s st H (fun hx H1 => ∃ r1, Step r H r1 H1 ∧ SR (g.at z) r1 H1 S1 ∧ RV (g.at z) r1 H1 x hx) I ⟨z, r, S, sl, x, S1, R, e1, fun r1 H1 hx st1 sr1 rx => ⟨r1, st1, sr1, rx⟩⟩) fun u s1 ⟨hx, H1, I1, ru, r1, st1, sr1, rx⟩ => ?_)
  obtain ⟨a, vs, rfl, hp, hz, hs'⟩ := seqOf_at sr1 rx e2
  rw [show (g.at z).K = X.K from hK] at hp
  cases ru
  have rest : ∀ (its : List Value), Vals vs its → ∀ h', (∀ b o, s1.heap.get? b = some o → h'.get? b = some o) → wpAny (model X.prog X.w) X.A (spliced (backTo pos (starEach es X.env))) (fun ws s3 => AP X pins st Q (its ++ ws) s3) X.xe { s1 with heap := h' } := fun its rv h' k => by
    have I2 : Inv X pins st H1 { s1 with heap := h' } := I1.kept (t' := s1.toks) k
    refine thn (hr.run pos pins _ st H1 (fun hys H2 => ∃ r2, Step r1 H1 r2 H2 ∧ SR (g.at z) r2 H2 S2 ∧ RVs (g.at z) r2 H2 ys hys) I2 ⟨z, r1, S1, sl, ys, S2, R.step st1 sr1, e3, fun r2 H2 hys st2 sr2 ry => ⟨r2, st2, sr2, ry⟩⟩) fun ws s3 ⟨hys, H2, I3, rw3, r2, st2, sr2, ry⟩ => ?_
    exact ⟨vs ++ hys, H2, I3, rv.append rw3, q r2 H2 _ (st1.trans st2) sr2 ((hs'.mono st2 sr1.own).append ry)⟩
  rcases hp with hp | ⟨hp, _⟩
  · obtain ⟨its, rv, pl, hz'⟩ := I1.list hp
    have e := rest its rv
    exact star_list rfl pl.isList (by have := rv.length; simp only [List.size_toArray]; omega) (fun h' k => e h' k)
  · obtain ⟨its, rv, pl, hz'⟩ := I1.tuple hp
    have e := rest its rv
    exact star_tuple rfl pl (by have := rv.length; simp only [List.size_toArray]; omega) (fun h' k => e h' k)
/-- a tuple display whose length is seen as it runs -/
def eTupV (ms : MEs) : ME := fun sl S => (ms sl S).bind fun p => if p.1.length ≤ sizeLine then some (.tup p.1, p.2) else none
theorem d_tupV {es : List Expr} {ms : MEs} {k : Nat} (h : PA X es (tDs g ms)) : PE X (.Tuple es k pos) (tD g (eTupV ms)) := by
  refine PE.weak (pe_tup h) fun st H Q h => ?_
  obtain ⟨z, r, S, sl, v', S', R, e, q⟩ := h
  simp only [eTupV, Option.bind_eq_some_iff] at e
  obtain ⟨⟨a, S1⟩, e1, e3⟩ := e
  dsimp only at e3
  split at e3
  · rename_i hz
    cases e3
    refine ⟨z, r, S, sl, _, _, R, e1, fun r1 H1 x st1 sr1 rx => ⟨by rw [← rx.length]; exact hz, fun p hp => ?_⟩⟩
    exact q r1 _ (.ref p) (st1.trans (Step.new1 hp)) (sr1.beside hp) (RV.newT sr1 hp hz rx)
  · cases e3
end
end Mp
namespace Mp
open PySem PySem.Spec
      PyProof.Rows L2

/-! ### for k in d, d a dict with nested keys that is locked meanwhile -/
def Itn (w : World) (d : Addr) (o : Obj) (rows : List NRow) : It :=
  ⟨fun i H => H d = some (.frz o (DnHO w d rows)) ∧ i < rows.length, fun i H x H' => H' = H ∧ ∃ p, rows[i]? = some p ∧ x = .ref p.2.1, fun i H => H d = some (.frz o (DnHO w d rows)) ∧ rows.length ≤ i⟩
theorem paired_at {α β : Type} {F : α → β → Prop} : ∀ {l : List α} {m : List β} {i : Nat} {a : α}, Paired F l m → l[i]? = some a → ∃ b, m[i]? = some b ∧ F a b
  | _, _, _, _, .nil,
        e => by simp at e
  | _, _, 0, _, .cons h _, e => by simp at e; subst e; exact ⟨_, rfl, h⟩
  | _, _, i + 1, _, .cons _ t, e => by
    obtain ⟨b, h1, h2⟩ := paired_at (i := i) t (by simpa using e)
    exact ⟨b, by simpa using h1, h2⟩
section
variable {X : Cx} {g : Gx} {pos : Pos}
/-- what a locked dict is -/
theorem frzN {pins : List (Addr × Obj)} {st : L2.St} {H : Hp} {s : Shared} {d : Addr} {o : Obj} {rows : List NRow} {w : World} (I : Inv X pins st H s) (h : H d = some (.frz o (DnHO w d rows))) :
    s.heap.get? d = some o ∧ (d == sysModules) = false ∧ o.ExactDict ∧ rows.length ≤ sizeLine ∧ ∃ es ep xs, o.data = .dict es ep ∧ es.size = rows.length ∧ Paired RowRel rows xs ∧ es.toList = xs.map (entN w) := by
  obtain ⟨h1, ⟨hz, hd, xs, rel, o', es, ep, h2, h3, h4, h5, _⟩, _⟩ := (show ObjOk X.prog X.w H s.heap d (.frz o (DnHO w d rows)) from I.hok d _ h)
  rw [h1] at h2
  cases h2
  refine ⟨h1, hd, h3, hz, es, ep, xs, h4, ?_, rel, h5⟩
  rw [← Array.length_toList, h5, List.length_map, Paired.length rel]
theorem turn_keysN {P : Program} {w w' : World} {K : PySem.W.Frag} {tg : Expr} {d : Addr} {o : Obj} {es : Array DictEntry} {ep : Nat} {rows : List NRow} (it : Addr) (hod : o.data = .dict es ep) : Turn P w K tg (Itn w' d o rows) [it] it (fun i h => h.IsKeyIter it d i rows.length ep) where
  mem := by simp
  obj := fun i h st b hb => by
    obtain rfl : b = it := by simpa using hb
    obtain ⟨oi, e, c, dd⟩ := st
    exact ⟨oi, e, fun v z =>
          by rw [dd] at z; cases z⟩
  keep := fun i h h' st k => st.at
        fun oi e => k it (by simp) oi e
  item := by
    intro X hP hw hK hc i pins s st H E I hf tn hg
    subst hP hw hK
    obtain ⟨hd, hi⟩ := hg
    obtain ⟨f0, f1, f2, f3,
          f4, f5⟩ := hf it (by simp)
    obtain ⟨h1, h2, h3, h4, es', ep', xs, h5, h6, rel, h7⟩ := frzN I hd
    obtain ⟨rfl, rfl⟩ := dict_ep hod h5
    have hr := List.getElem?_eq_getElem hi
    obtain ⟨x, hx, rx⟩ := paired_at rel hr
    have hen : es'[i]? = some (entN w' x) := by
      rw [← Array.getElem?_toList, h7, List.getElem?_map, hx]
      rfl
    refine next_key_item tn h1 h5 h6 hen fun h' tn' sb => ?_
    have I1 : Inv X pins st H { s with heap := h' } := I.turned (t' := s.toks) (fun b ob hb e => (sb.2 b hb).trans e) f0 f1 f3 f4 f5
    obtain ⟨oi, e, c, dd⟩ := id tn'
    exact ⟨_, rfl, go_of (s := { s with heap := h' }) e c dd (by decide) ⟨.ref x.2.1, H, I1, rfl, ⟨rfl, _, hr, by rw [rx.2.1]⟩, tn', fun b hb => (hf b hb).1⟩⟩
  done := by
    intro X hP hw hK hc i pins s st H E I hf tn hg
    subst hP hw hK
    obtain ⟨hd, hi⟩ := hg
    obtain ⟨f0, f1, f2, f3,
          f4, f5⟩ := hf it (by simp)
    obtain ⟨h1, h2, h3, h4, es', ep', xs, h5, h6, rel, h7⟩ := frzN I hd
    obtain ⟨rfl, rfl⟩ := dict_ep hod h5
    exact next_key_end (I.ok.hd hc) tn h1 h5 h6 hi fun h' eb => ⟨rfl, I.turned (t' := s.toks) (fun b ob hb e => eb b ob hb e) f0 f1 f3 f4 f5⟩
  self := fun A i s Q E tn h => wpAny_pyIter_keyiter tn h
/-- the keys of a locked dict -/
def iKeysN (m : ME) : MI := fun sl S => (m sl S).bind fun p => match p.1 with
  | .ref n => match p.2[n]? with
    | some (.lk (.dN kvs)) => some (⟨kvs.map fun q => ofK q.1, none⟩, p.2)
    | _ => none
  | _ => none
theorem di_keysN {t e : Expr} {m : ME} (hw : g.w = X.w) (he : PE X e (tD g m)) : PI X t e (iD g (iKeysN m)) := by
  refine ⟨fun pins s st H R I h => ?_⟩
  obtain ⟨z, r, S, sl, src, S', R0, e0, q⟩ := h
  simp only [iKeysN, Option.bind_eq_some_iff] at e0
  obtain ⟨⟨v, S1⟩, e1, e2⟩ := e0
  dsimp only at e2
  split at e2
  · rename_i n
    split at e2
    · rename_i kvs hx
      cases e2
      refine thn (he.run pins s st H (fun hv H1 => ∃ r1, Step r H r1 H1 ∧ SR (g.at z) r1 H1 S' ∧ RV (g.at z) r1 H1 (.ref n) hv) I ⟨z, r, S, sl, _, S', R0, e1, fun r1 H1 hv st1 sr1 rv => ⟨r1, st1, sr1, rv⟩⟩) fun u s1 ⟨hv, H1, I1, ru, r1, st1, sr1, rv⟩ => ?_
      cases rv with
      | @ref _ a ha =>
        cases ru
        obtain ⟨o, ho, ro⟩ := sr1.at_ _ _ _ hx ha
        cases ro with
        | @lkN _ ob rows h1 hz h2 h3 =>
          obtain ⟨g1, g2, g3, g4, es, ep, xs, g5, g6, rel, g7⟩ := frzN I1 ho
          have pr := rows_pair h1 h2 h3
          have lk : rows.length = kvs.length := (Paired.length pr).symm
          refine iter_keys g2 g1 g3 g5 (pi_one (tk := s1.toks) I1 _ (turn_keysN (w' := (g.at z).w) (d := a) (rows := rows) _ g5) ⟨_, Heap.get?_push_size _ rfl, rfl, ?_⟩ (q r1 H1 _ st1 sr1 ?_))
          · rw [g6]; rfl
          · refine ⟨by simp; exact hz, fun z' r2 H2 S2 s2 zs sr2 _ => ⟨fun i x hx' => ?_, fun i hi => ?_⟩⟩
            · have hi : i < kvs.length := by
                have := (List.getElem?_eq_some_iff.mp hx').1
                simpa using this
              have f2 := s2.frz _ _ _ ho
              refine ⟨⟨f2, by omega⟩, fun hv H3 y => ?_⟩
              obtain ⟨rfl, p, hp, rfl⟩ := y
              refine ⟨fun _ _ q => q, ?_⟩
              rw [List.getElem?_map, Option.map_eq_some_iff] at hx'
              obtain ⟨kv, hk, rfl⟩ := hx'
              obtain ⟨p', hp', rr⟩ := paired_at pr hk
              rw [hp] at hp'
              cases hp'
              exact rr.2.1.monoS s2 sr1 zs
            · have f2 := s2.frz _ _ _ ho
              exact ⟨f2, by simp at hi; omega⟩
    · cases e2
  · cases e2
/-! ### locked while it runs -/
def lockS (S : Sto) (n : Nat) : Option (SO × Sto) := match S[n]? with
  | some (.dK kvs) => some (.dK kvs, S.set n (.lk (.dK kvs)))
  | some (.dN kvs) => some (.dN kvs, S.set n (.lk (.dN kvs)))
  | _ => none
def eLock (i : Nat) (m : ME) : ME := fun sl S => match sl[i]? with
  | some (some (.ref n)) => (lockS S n).bind fun p => (m sl p.2).bind fun q => some (q.1, q.2.set n p.1)
  | _ => none
theorem lockS_at {r : List Addr} {H : Hp} {S S1 : Sto} {n : Nat} {so : SO} {a : Addr} (sr : SR g r H S) (ha : r[n]? = some a) (e : lockS S n = some (so, S1)) : ∃ u, H a = some u ∧ Mut (some u) ∧ Chg u ∧ (∀ ob x, u ≠ .frz ob x) ∧ RO g r H a so u ∧ S1 = S.set n (.lk so) ∧
    ∀ od, RO g r (upd H a (.frz od u)) a (.lk so) (.frz od u) ∧ Chg (.frz od u) := by
  have ham := List.mem_of_getElem? ha
  unfold lockS at e
  split at e
  · rename_i hx
    cases e
    obtain ⟨u, hu, ro⟩ := sr.at_ _ _ _ hx ha
    cases ro with
    | @dK _ kws h1 hl h2 =>
      have c : Chg (.dK kws) := ⟨fun _ z => (nomatch z), fun _ _ z => (nomatch z), fun _ _ z => (nomatch z)⟩
      exact ⟨_, hu, True.intro, c, fun _ _ z => (nomatch z), .dK h1 hl h2, rfl, fun od => ⟨.lkK (.dK h1 hl (h2.updr ham hu c)), fun _ z => (nomatch z), fun _ _ z => (nomatch z), fun _ _ z => (nomatch z)⟩⟩
  · rename_i hx
    cases e
    obtain ⟨u, hu, ro⟩ := sr.at_ _ _ _ hx ha
    cases ro with
    | @dN _ rows h1 hl h0 h2 =>
      have c : Chg (DnHO g.w a rows) := ⟨fun _ z => (nomatch z), fun _ _ z => (nomatch z), fun _ _ z => (nomatch z)⟩
      exact ⟨_, hu, True.intro, c, fun _ _ z => (nomatch z), .dN h1 hl h0 h2, rfl, fun od => ⟨.lkN h1 hl (h0.updr ham hu c) (h2.updr ham hu c), fun _ z => (nomatch z), fun _ _ z => (nomatch z), fun _ _ z => (nomatch z)⟩⟩
  · cases e
theorem d_lock {e : Expr} {i : Nat} {m : ME} (he : PE X e (tD g m)) : PE X e (tD g (eLock i m)) := by
  refine PE.weak (pe_lock he) fun st H Q h => ?_
  obtain ⟨z, r, S, sl, v, S', R, e0, q⟩ := h
  unfold eLock at e0
  split at e0
  · rename_i n hn
    simp only [Option.bind_eq_some_iff] at e0
    obtain ⟨⟨so, S1⟩, e1, ⟨w, S2⟩, e2, e3⟩ := e0
    cases e3
    obtain ⟨hv, _, rv⟩ := R.sl.at_ i _ hn
    cases rv with
    | @ref _ a ha =>
      obtain ⟨u, hu, mu, c, nf, ro, rfl, lk⟩ := lockS_at R.sr ha e1
      have ham := List.mem_of_getElem? ha
      refine ⟨a, u, hu, mu, fun od => ?_⟩
      obtain ⟨ro1, c1⟩ := lk od
      obtain ⟨sr1, st1⟩ := R.sr.put (so := .lk so) (o := .frz od u) ha hu c nf ro1
      refine ⟨z, r, S.set n (.lk so), sl, _, S2, R.step st1 sr1, e2, fun r2 H2 hv2 st2 sr2 rv2 => ?_⟩
      have hf : H2 a = some (.frz od u) := st2.frz _ _ _ upd_same
      have ha2 : r2[n]? = some a := st2.get ha
      have ham2 := List.mem_of_getElem? ha2
      have ro2 : RO (g.at z) r2 (upd H2 a u) a so u := ((RO.updr ham hu c ro).mono st2 sr1.own).updr ham2 hf c1
      have sr3 : SR (g.at z) r2 (upd H2 a u) (S2.set n so) := by
        have sr' := sr2
        refine ⟨by rw [List.length_set]; exact sr'.len, sr'.nd, fun p hp => ?_, sr'.zr, fun j x b h1 h2 => ?_⟩
        · obtain ⟨xs, e⟩ := sr'.zat p hp
          exact ⟨xs, by rw [upd_ne fun z => sr'.zr p hp (by rw [z]; exact ham2)]; exact e⟩
        · by_cases hj : n = j
          · subst hj
            rw [ha2] at h2
            cases h2
            have hl : n < S2.length := by rw [← sr'.len]; exact (List.getElem?_eq_some_iff.mp ha2).1
            rw [List.getElem?_set_self hl] at h1
            cases h1
            exact ⟨u, upd_same, ro2⟩
          · rw [List.getElem?_set_ne hj] at h1
            obtain ⟨y, hy, ro'⟩ := sr'.at_ j x b h1 h2
            have ne : b ≠ a := fun z => by
              rw [z] at h2
              have l1 := (List.getElem?_eq_some_iff.mp ha2).1
              exact hj ((List.getElem?_inj l1 sr'.nd).mp (ha2.trans h2.symm))
            exact ⟨y, by rw [upd_ne ne]; exact hy, ro'.updr ham2 hf c1⟩
      have keepN : ∀ b x, H b = some x → b ≠ a → (upd H a (.frz od u)) b = some x := fun b x h ne => by rw [upd_ne ne]; exact h
      refine ⟨hf, q r2 _ hv2 ⟨fun b x h hb => ?_, st2.pre, fun b hb => ?_, fun b ob x h => ?_⟩ sr3 (rv2.updr ham2 hf c1)⟩
      · have ne : b ≠ a := fun z => hb (by rw [z]; exact ham)
        rw [upd_ne ne]
        exact st2.ext b x (keepN b x h ne) hb
      · rcases st2.new b hb with y | y
        · exact .inl y
        · by_cases ne : b = a
          · rw [ne]; exact .inl ham
          · rw [upd_ne ne] at y; exact .inr y
      · have ne : b ≠ a := fun z => by rw [z, hu] at h; exact nf _ _ (Option.some.inj h)
        rw [upd_ne ne]
        exact st2.frz b ob x (keepN b _ h ne)
  · cases e0
end
end Mp
namespace Mp
open PySem PySem.Spec PySem.Calls PyProof.Rows L2

/-! ### sorted(d), min(d) of a dict with nested keys -/
def rowsK (rows : List NRow) : List Row := rows.map fun p => (p.2.1, p.1)
def minRow (p : Row) (ps : List Row) : Row := ps.foldl (fun a y => if PySem.W.dataLt y.2.data a.2.data then y else a) p
def minKey (k : NestedKey) (ks : List NestedKey) : NestedKey := ks.foldl (fun a y => if PySem.W.dataLt y.data a.data then y else a) k
theorem minRow_key : ∀ (ps : List Row) (p : Row), (minRow p ps).2 = minKey p.2 (ps.map (·.2))
  | [], _ => rfl
  | q :: ps, p => by
    have ih := minRow_key ps (if PySem.W.dataLt q.2.data p.2.data then q else p)
    unfold minRow minKey at ih ⊢
    simp only [List.foldl_cons, List.map_cons]
    rw [ih]
    split <;> rfl
theorem minRow_mem : ∀ (ps : List Row) (p : Row), minRow p ps ∈ p :: ps
  | [], _ => List.mem_cons_self
  | q :: ps, p => by
    have ih := minRow_mem ps (if PySem.W.dataLt q.2.data p.2.data then q else p)
    unfold minRow at ih ⊢
    simp only [List.foldl_cons]
    rcases List.mem_cons.mp ih with e | h
    · rw [e]
      split
      · exact List.mem_cons_of_mem _ List.mem_cons_self
      · exact List.mem_cons_self
    · exact List.mem_cons_of_mem _ (List.mem_cons_of_mem _ h)
section
variable {P : Program} {w : World} {A : Around} {E : Value → Shared → Prop} {s : Shared} {d : Addr} {es : Array DictEntry} {ep : Nat} {L : List Row}
/-- the i-th key -/
def KeyIs (es : Array DictEntry) (L : List Row) : Prop := es.size = L.length ∧ ∀ (i : Nat) (hi : i < es.size), ∃ p, L[i]? = some p ∧ es[i].key = .ref p.1
theorem keys_of_rows {rows : List NRow} {xs : List (NestedKey × Addr × Value)} (rel : Paired RowRel rows xs) (e : es.toList = xs.map (entN w)) : KeyIs es (rowsK rows) := by
  have hl : es.size = rows.length := by rw [← Array.length_toList, e, List.length_map, Paired.length rel]
  refine ⟨by unfold rowsK; rw [List.length_map]; exact hl, fun i hi => ?_⟩
  obtain ⟨x, hx, rx⟩ := paired_at rel (List.getElem?_eq_getElem (hl ▸ hi))
  refine ⟨(x.2.1, rows[i].1), ?_, ?_⟩
  · unfold rowsK
    rw [List.getElem?_map, List.getElem?_eq_getElem (hl ▸ hi), Option.map_some, rx.2.1]
  · have : es[i]? = some (entN w x) := by rw [← Array.getElem?_toList, e, List.getElem?_map, hx]; rfl
    rw [Array.getElem?_eq_getElem hi] at this
    rw [Option.some.inj this]
    rfl
theorem sorted_of_dict {Q : Value → Shared → Prop} (lo : (d == sysModules) = false) (raw : s.heap.DictRaw d es ep) (ks : KeyIs es L) (hz : L.length ≤ sizeLine) (hh : A.handled = none) (rd : ∀ p ∈ L, Reads s.heap (.ref p.1) p.2.data []) (hu : A.units + 20 < cLine)
    (al : PySem.W.AllAlike (L.map fun p => p.2.data)) (so : Mt.Sort2 (L.map fun p => p.2.data)) (dp : ∀ p ∈ L, p.2.data.depth ≤ 16)
    (q : ∀ (h1 h' : Heap) tk (out : Array Value) (c : Nat), (∀ b o, s.heap.get? b = some o → h1.get? b = some o) → (∀ b o, h1.get? b = some o → h'.get? b = some o) → h'.get? h1.objs.size = some (seqObj "list" out c) → out.toList = (L.mergeSort rowLe).map (fun p => Value.ref p.1) → Q (.ref h1.objs.size) { s with heap := h', toks := tk }) :
    wpAny (model P w) A (call (.builtin "sorted") [.ref d]) Q E s := by
  refine Calls.call_function_entry kind_sorted
        plain_sorted entry_sorted (args_sorted1 _) ?_
  unfold Builtin.«sorted»
  refine wpAny_bind
        (m := checkCount "sorted" 1 1 _) (wpAny_pure ?_)
  refine wpAny_bind (PySem.W.kdu_collect (A := A.in1) (KdlSrc.rawDict (es := es) (ep := ep) lo) hh raw (by rw [ks.1]; exact hz) fun h1 tk acc k1 hacc => ?_)
  have ea : acc.toList = L.map fun p => Value.ref p.1 := by
    refine List.ext_getElem? fun i => ?_
    by_cases hi : i < es.size
    · obtain ⟨p, hp, hk⟩ := ks.2 i hi
      have ha : i < acc.size := by rw [hacc.1]; exact hi
      obtain ⟨_, e⟩ := hacc.2 i acc[i] (Array.getElem?_eq_getElem ha)
      rw [Array.getElem?_toList, Array.getElem?_eq_getElem ha, List.getElem?_map, hp, e, hk]
      rfl
    · rw [List.getElem?_eq_none (by rw [Array.length_toList, hacc.1]; omega), List.getElem?_eq_none (by rw [List.length_map, ← ks.1]; omega)]
  rw [ea]
  refine wpAny_bind (wpAny_newList ?_ (by rw [List.length_map]; exact hz))
  have hl : (h1.push (seqObj "list" (L.map fun q => Value.ref q.1).toArray 0)).get? h1.objs.size = some (seqObj "list" (L.map fun q => Value.ref q.1).toArray 0) := Heap.get?_push_size _ rfl
  have rd1 : ∀ p ∈ L, ∃ as, Reads (h1.push (seqObj "list" (L.map fun q => Value.ref q.1).toArray 0)) (.ref p.1) p.2.data as ∧ h1.objs.size ∉ as := fun p hp => ⟨[], PyProof.Rows.Reads.keeps (fun b u e => Heap.get?_push_of_some _ (k1 b u e)) (rd p hp), by simp⟩
  refine wpAny_bind (wpAny_holding (Mt.sort_data2 (s := { s with heap := h1.push (seqObj "list" (L.map fun q => Value.ref q.1).toArray 0), toks := tk }) (bs := L) (enc := fun p => p.2.data) (R := fun v p => v = Value.ref p.1) hl (refs_each fun p _ => rfl) (refs_each rd1) al so hz
    (fun p hp => by have := dp p hp; show A.units + 1 + 1 + p.2.data.depth < cLine; omega) fun out a1 a2 => ?_))
  obtain ⟨c, hc⟩ := sortedHeap_at (vs := L.map fun q => Value.ref q.1) (out := out.toArray) hl
  refine wpAny_pure ⟨_, rfl, q h1 _ _ out.toArray c k1 (fun b u e => ?_) hc (each_refs a2)⟩
  have hlt := Heap.lt_size e
  show (sortedHeap (h1.push (seqObj "list" _ 0)) h1.objs.size _ out.toArray).get? b = some u
  rw [sortedHeap_old (Nat.ne_of_lt hlt) (by rw [size_push']; exact Nat.lt_succ_of_lt hlt), Heap.get?_push_of_some _ e]
theorem min_of_dict {Q : Value → Shared → Prop} {p0 : Row} {ps : List Row} (lo : (d == sysModules) = false) (raw : s.heap.DictRaw d es ep) (ks : KeyIs es (p0 :: ps)) (hh : A.handled = none) (rd : ∀ p ∈ p0 :: ps, Reads s.heap (.ref p.1) p.2.data []) (hu : A.units + 20 < cLine)
    (al : ∀ p ∈ p0 :: ps, ∀ q ∈ p0 :: ps, PySem.W.alike p.2.data q.2.data = true) (nn : ∀ p ∈ p0 :: ps, p.2.data ≠ .none) (dp : ∀ p ∈ p0 :: ps, p.2.data.depth ≤ 16)
    (q : ∀ h' tk, (∀ b o, s.heap.get? b = some o → h'.get? b = some o) → Q (.ref (minRow p0 ps).1) { s with heap := h', toks := tk }) :
    wpAny (model P w) A (call (.builtin "min") [.ref d]) Q E s := by
  have hlt : d < s.heap.objs.size := by obtain ⟨_, e, _⟩ := raw; exact Heap.lt_size e
  refine PySem.call_min_walkH (PySem.wpAny_pyIter_dict_raw lo raw ?_)
  have sz := ks.1
  refine ⟨_, _, _, _, _, _, _, s.heap, (fun i j => PySem.W.dataLt ((p0 :: ps).getD i p0).2.data ((p0 :: ps).getD j p0).2.data), rfl, (Walks.rawKeys (A := A.in1) hh _ d (Nat.ne_of_lt hlt) es ep).toS, ⟨⟨_, Heap.get?_push_size _ rfl, rfl, rfl⟩, raw.push _⟩, fun b hb => ?_, by rw [sz]; simp, fun b o e hb => ?_, fun b o e => Heap.get?_push_of_some _ e, fun i j vi vj s' Q' E' hk hi hj hq => ?_, fun v s' hP m => ?_⟩
  · show b <
          (s.heap.push _).objs.size
    rw [Heap.size_push]
    simp only [List.mem_cons,
          List.not_mem_nil, or_false] at hb
    rcases hb with rfl | rfl
    · exact Nat.lt_succ_self _
    · exact Nat.lt_succ_of_lt hlt
  · exact absurd (Heap.lt_size e)
          ((List.mem_singleton.mp hb) ▸ Nat.lt_irrefl _)
  · obtain ⟨hi, rfl⟩ := hi
    obtain ⟨hj, rfl⟩ := hj
    obtain ⟨p, hp, ep1⟩ := ks.2 i hi
    obtain ⟨p', hp', ep2⟩ := ks.2 j hj
    have m1 := List.mem_of_getElem? hp
    have m2 := List.mem_of_getElem? hp'
    rw [ep1, ep2]
    have e1 : (p0 :: ps).getD i p0 = p := by rw [List.getD_eq_getElem?_getD, hp]; rfl
    have e2 : (p0 :: ps).getD j p0 = p' := by rw [List.getD_eq_getElem?_getD, hp']; rfl
    refine PySem.W.rcLt_alike p.2.data p'.2.data A.in1 s' _ _ _ _ (PyProof.Rows.Reads.keeps hk (rd p m1)) (PyProof.Rows.Reads.keeps hk (rd p' m2)) (al p m1 p' m2) (nn p m1) ?_ P w E' Q' (by dsimp only at hq; rw [e1, e2] at hq; exact hq)
    have := dp p m1
    have := Nat.min_le_left p.2.data.depth p'.2.data.depth
    show A.units + 1 + _ < cLine
    omega
  · obtain ⟨h', tk, rfl, hk'⟩ := PySem.W.moved_old rfl rfl m
    have eb := (PySem.W.argBest_fold (fun a b : Row => PySem.W.dataLt a.2.data b.2.data) p0 p0 ps ps.length (Nat.le_refl _)).2
    rw [List.take_length] at eb
    obtain ⟨hi, rfl⟩ := hP
    obtain ⟨p, hp, ep1⟩ := ks.2 _ hi
    rw [ep1]
    have e1 : p = minRow p0 ps := by
      unfold minRow
      rw [← eb, List.getD_eq_getElem?_getD]
      have e2 : es.size - 1 = ps.length := by rw [sz]; simp
      rw [e2] at hp
      rw [hp]
      rfl
    rw [e1]
    exact q h' tk hk'
end
/-! as words -/
def dnKeys (S : Sto) : Val → Option (List NestedKey)
  | .ref n => (dnOf S n).bind fun kvs => if keysOk kvs then some (kvs.map (·.1)) else none
  | _ => none
def fSortD : FN := fun S xs => match xs with
  | [x] => (dnKeys S x).bind fun ks => if sortOk ks then some (.lst (ofKs (ks.mergeSort keyLe))) else none
  | _ => none
def fMinD : FN := fun S xs => match xs with
  | [x] => (dnKeys S x).bind fun ks => match ks with
    | k :: ks => if sortOk (k :: ks) then some (ofK (minKey k ks)) else none
    | [] => none
  | _ => none
section
variable {X : Cx} {g : Gx} {pos : Pos}
theorem dn_raw {h : Heap} {a : Addr} {rows : List NRow} {w : World} (d : DnAt w a rows h) : ∃ es ep xs, h.DictRaw a es ep ∧ (a == sysModules) = false ∧ Paired RowRel rows xs ∧ es.toList = xs.map (entN w) := by
  obtain ⟨_, hd, xs, rel, o, es, ep, h1, h2, h3, h4, _⟩ := d
  exact ⟨es, ep, xs, ⟨o, h1, h2, h3⟩, hd, rel, h4⟩
theorem keys_at {pins : List (Addr × Obj)} {st : L2.St} {H : Hp} {s : Shared} {r : List Addr} {S : Sto} {x : Val} {v : V} {ks : List NestedKey} (hK : g.K = X.K) (hw : g.w = X.w) (I : Inv X pins st H s) (sr : SR g r H S) (rx : RV g r H x v) (e : dnKeys S x = some ks) :
    ∃ d rows es ep, v = .ref d ∧ s.heap.DictRaw d es ep ∧ (d == sysModules) = false ∧ KeyIs es (rowsK rows) ∧ (rowsK rows).map (·.2) = ks ∧ (rowsK rows).length ≤ sizeLine ∧ (∀ p ∈ rowsK rows, RV g r H (ofK p.2) (.ref p.1)) ∧ (∀ p ∈ rowsK rows, Reads s.heap (.ref p.1) p.2.data []) := by
  unfold dnKeys at e
  split at e
  · simp only [Option.bind_eq_some_iff] at e
    obtain ⟨kvs, e1, e2⟩ := e
    split at e2
    · rename_i ok
      cases e2
      cases rx with
      | @ref _ a ha =>
        obtain ⟨rows, rd, hl, hd, pr, xs, rel, dd⟩ := dn_at hK hw I sr ha e1 ok
        obtain ⟨es, ep, xs', raw, _, rel', ee⟩ := dn_raw (rd.ok I.hok).1
        obtain ⟨e3, _, _⟩ := pair_rows pr
        have rvs : ∀ p ∈ rowsK rows, RV g r H (ofK p.2) (.ref p.1) := fun p hp => by
          unfold rowsK at hp
          obtain ⟨q, hq, rfl⟩
                := List.mem_map.mp hp
          have all : ∀ {kvs : List (NestedKey × Val)} {rows : List NRow}, Paired (DRow g r H) kvs rows → ∀ q ∈ rows, RV g r H (ofK q.1) (.ref q.2.1) := by
            intro kvs rows pr
            induction pr with
            | nil => intro q hq; cases hq
            | @cons a b as bs h t ih =>
              intro q hq
              rcases List.mem_cons.mp hq
                    with rfl | hq
              · rw [← h.1]; exact h.2.1
              · exact ih q hq
          exact all pr q hq
        refine ⟨a, rows, es, ep, rfl, raw, hd, keys_of_rows rel' ee, ?_, ?_, rvs, fun p hp => (RV.key hK I (rvs p hp) (show RelV (.ref p.1) (.ref p.1) from rfl) (toK_ofK p.2)).2⟩
        · unfold rowsK
          rw [List.map_map, e3]
          rfl
        · unfold rowsK
          rw [List.length_map, ← Paired.length pr]
          exact hl
    · cases e2
  · cases e
theorem c_sortD (hK : g.K = X.K) (hw : g.w = X.w) (hc : X.calm = true) (hu : X.A.units + 20 < cLine) : CallR X (.builtin "sorted") (rGn g fSortD) := by
  intro pins s st H vs us Q I rs h
  obtain ⟨z, r, S, xs, v, sr, rx, e, q⟩ := h
  unfold fSortD at e
  split at e
  · simp only [Option.bind_eq_some_iff] at e
    obtain ⟨ks, e1, e2⟩ := e
    split at e2
    · rename_i ok
      cases e2
      unfold sortOk at ok
      simp only
            [Bool.and_eq_true] at ok
      obtain ⟨⟨al, so⟩, dp⟩ := ok
      cases rx with
      | cons a b =>
        cases b
        obtain ⟨d, rows, es, ep, rfl, raw, hd, kk, ek, hl, rvs, rds⟩ := keys_at (g := g.at z) hK hw I sr a e1
        obtain ⟨u, rfl, ru⟩ := vals1 rs
        cases ru
        have sub : ∀ p ∈ rowsK rows, p.2 ∈ ks := fun p hp => by rw [← ek]; exact List.mem_map_of_mem hp
        have deep : ∀ p ∈ rowsK rows, p.2.data.depth ≤ 16 := fun p hp => by
          have := List.all_eq_true.mp dp p.2 (sub p hp)
          rw [data_depth]
          simp at this
          omega
        refine sorted_of_dict hd raw kk hl (I.ok.hd hc) rds hu (alike_rows sub al) (sortable_rows sub so) deep fun h1 h' tk out c k1 k2 hg eo => ?_
        have I1 : Inv X pins st H { s with heap := h1 } := I.kept (t' := s.toks) k1
        have hn : H h1.objs.size = none := I1.hok.fresh (Nat.le_refl _)
        have vs' : Vals (((rowsK rows).mergeSort rowLe).map fun p => V.ref p.1) out.toList := by rw [eo]; exact vals_refs _
        have len : ((rowsK rows).mergeSort rowLe).length = (rowsK rows).length := List.length_mergeSort _
        have J : Inv X pins st (upd H h1.objs.size (.lst (((rowsK rows).mergeSort rowLe).map fun p => V.ref p.1))) { s with heap := h', toks := tk } :=
          I1.laid (t' := tk) k2 (Nat.le_refl _) ⟨by rw [List.length_map, len]; exact hl, out.toList, c, vs', hg⟩
        have keys : ((rowsK rows).mergeSort rowLe).map (·.2) = ks.mergeSort keyLe := by
          rw [List.map_mergeSort (r := rowLe) (s := keyLe) (f := fun p : Row => p.2) (l := rowsK rows) (fun a _ b _ => rfl), ek]
        refine ⟨.ref h1.objs.size, _, J, rfl, q r _ (.ref _) (Step.new1 hn) (sr.beside hn) ?_⟩
        rw [← keys]
        refine RV.newL sr hn ?_ (rows_rvs fun p hp => rvs p ((List.mergeSort_perm _ _).mem_iff.mp hp))
        rw [ofKs_map, List.length_map, List.length_map, len]
        exact hl
    · cases e2
  · cases e
theorem c_minD (hK : g.K = X.K) (hw : g.w = X.w) (hc : X.calm = true) (hu : X.A.units + 20 < cLine) : CallR X (.builtin "min") (rGn g fMinD) := by
  intro pins s st H vs us Q I rs h
  obtain ⟨z, r, S, xs, v, sr, rx, e, q⟩ := h
  unfold fMinD at e
  split at e
  · simp only [Option.bind_eq_some_iff] at e
    obtain ⟨ks, e1, e2⟩ := e
    split at e2
    · rename_i k ks
      split at e2
      · rename_i ok
        cases e2
        unfold sortOk at ok
        simp only
              [Bool.and_eq_true] at ok
        obtain ⟨⟨al, so⟩, dp⟩ := ok
        cases rx with
        | cons a b =>
          cases b
          obtain ⟨d, rows, es, ep, rfl, raw, hd, kk, ek, hl, rvs, rds⟩ := keys_at (g := g.at z) hK hw I sr a e1
          obtain ⟨u, rfl, ru⟩ := vals1 rs
          cases ru
          generalize rowsK rows = L at kk ek hl rvs rds
          cases L with
          | nil => cases ek
          | cons p0 ps =>
            have sub : ∀ p ∈ p0 :: ps, p.2 ∈ k :: ks := fun p hp => by rw [← ek]; exact List.mem_map_of_mem hp
            have deep : ∀ p ∈ p0 :: ps, p.2.data.depth ≤ 16 := fun p hp => by
              have := List.all_eq_true.mp dp p.2 (sub p hp)
              rw [data_depth]
              simp at this
              omega
            have nn : ∀ p ∈ p0 :: ps, p.2.data ≠ .none := fun p hp => by
              have hm : p.2.data ∈ (k :: ks).map NestedKey.data := List.mem_map_of_mem (sub p hp)
              rcases sortableKeys_ok so with h | h
              · obtain ⟨x, e⟩ := h _ hm
                rw [e]; exact fun z => nomatch z
              · exact (h _ hm).1
            refine min_of_dict hd raw kk (I.ok.hd hc) rds hu (fun p hp p' hp' => alikeKeys_at al (sub p hp) (sub p' hp')) nn deep fun h' tk k1 => ?_
            have em : minKey k ks = (minRow p0 ps).2 := by
              rw [minRow_key]
              simp only [List.map_cons, List.cons.injEq] at ek
              rw [ek.1, ek.2]
            refine ⟨.ref (minRow p0 ps).1, H, I.kept (t' := tk) k1, rfl, q r H _ (.refl r H) sr ?_⟩
            rw [em]
            exact rvs _ (minRow_mem ps p0)
      · cases e2
    · cases e2
  · cases e
end
end Mp
namespace Mp
open PySem PySem.Spec
      PyProof.Rows L2

/-! ### sorted(list) -/
abbrev KV1 := NestedKey × V
theorem kv_each {g : Gx} {r : List Addr} {H : Hp} : ∀ {xs : List Val} {vs : List V} {ks : List NestedKey}, RVs g r H xs vs → toKs xs = some ks → ∃ L : List KV1, L.map (·.1) = ks ∧ L.map (·.2) = vs ∧ ∀ p ∈ L, RV g r H (ofK p.1) p.2
  | _, _, _, .nil, e => by cases e; exact ⟨[], rfl, rfl, fun p hp => (by cases hp)⟩
  | x :: _, v :: _, _, .cons h t, e => by
    simp only [toKs, Option.bind_eq_some_iff, Option.map_eq_some_iff] at e
    obtain ⟨k, e1, ks, e2, rfl⟩ := e
    obtain ⟨L, l1, l2, l3⟩ := kv_each t e2
    refine ⟨(k, v) :: L, by simp [l1], by simp [l2], fun p hp => ?_⟩
    rcases List.mem_cons.mp hp
          with rfl | hp
    · show RV g r H (ofK k) v
      rw [ofK_toK e1]; exact h
    · exact l3 p hp
theorem kv_rvs {g : Gx} {r : List Addr} {H : Hp} : ∀ {L : List KV1}, (∀ p ∈ L, RV g r H (ofK p.1) p.2) → RVs g r H (ofKs (L.map (·.1))) (L.map (·.2))
  | [], _ => .nil
  | p :: L, h => .cons (h p List.mem_cons_self) (kv_rvs fun q hq => h q (List.mem_cons_of_mem _ hq))
theorem vals_each : ∀ {L : List KV1} {us : List Value}, Vals (L.map (·.2)) us → PySem.W.EachIs (fun u (p : KV1) => RelV p.2 u) us L
  | [], _, .nil => .nil
  | _ :: _, _, .cons a t => .cons a (vals_each t)
theorem each_vals : ∀ {L : List KV1} {us : List Value}, PySem.W.EachIs (fun u (p : KV1) => RelV p.2 u) us L → Vals (L.map (·.2)) us
  | _, _, .nil => .nil
  | _, _, .cons a t => .cons a (each_vals t)
theorem each_and {R S : Value → KV1 → Prop} : ∀ {L : List KV1} {us : List Value}, PySem.W.EachIs R us L → (∀ u p, p ∈ L → R u p → S u p) → PySem.W.EachIs S us L
  | _, _, .nil, _ => .nil
  | _, _, .cons a t, h => .cons (h _ _ List.mem_cons_self a) (each_and t fun u p hp => h u p (List.mem_cons_of_mem _ hp))
def fSortL : FN := fun S xs => match xs with
  | [x] => (lstOf S x).bind fun ys => (toKs ys).bind fun ks => if sortOk ks then some (.lst (ofKs (ks.mergeSort keyLe))) else none
  | _ => none
section
variable {X : Cx} {g : Gx} {pos : Pos}
theorem c_sort (hK : g.K = X.K) (hu : X.A.units + 20 < cLine) : CallR X (.builtin "sorted") (rGn g fSortL) := by
  intro pins s st H vs us Q I rs h
  obtain ⟨z, r, S, xs, v, sr, rx, e, q⟩ := h
  unfold fSortL at e
  split at e
  · simp only [Option.bind_eq_some_iff] at e
    obtain ⟨ys, e1, ks, e2, e3⟩ := e
    split at e3
    · rename_i ok
      cases e3
      unfold sortOk at ok
      simp only
            [Bool.and_eq_true] at ok
      obtain ⟨⟨al, so⟩, dp⟩ := ok
      cases rx with
      | cons a b =>
        cases b
        obtain ⟨p, ws, rfl, hp, hz, hs⟩ := lstOf_at sr a e1
        obtain ⟨L, l1, rfl, l3⟩ := kv_each hs e2
        obtain ⟨u, rfl, ru⟩ := vals1 rs
        cases ru
        obtain ⟨its, rv, pl, _⟩ := I.list (.inl (.inl hp))
        have ea := vals_each rv
        have lL : L.length ≤ sizeLine := by rw [← hs.length.trans (List.length_map _)]; exact hz
        have dat : L.map (fun p => p.1.data) = ks.map NestedKey.data := by rw [← l1, List.map_map]; rfl
        have sub : ∀ p ∈ L, p.1 ∈ ks := fun p hp => by rw [← l1]; exact List.mem_map_of_mem hp
        refine Mt.sorted_data2 (bs := L) (enc := fun p => p.1.data) (R := fun u p => RelV p.2 u) pl.isList ea (each_and ea fun u p hp hr => ⟨[], (RV.key (g := g.at z) hK I (l3 p hp) hr (toK_ofK p.1)).2⟩) ?_ ?_ lL (fun p hp => ?_) fun out h1 h2 => ?_
        · rw [dat]
          intro d hd d' hd'
          obtain ⟨k, hk, rfl⟩ := List.mem_map.mp hd
          obtain ⟨k', hk', rfl⟩ := List.mem_map.mp hd'
          exact alikeKeys_at al hk hk'
        · rw [dat]
          exact sortableKeys_ok so
        · have := List.all_eq_true.mp dp p.1 (sub p hp)
          rw [data_depth]
          simp at this
          omega
        · obtain ⟨c, hc⟩ := PyProof.Rows.sortedAll_at s.heap its out.toArray
          have hn : H (s.heap.objs.size + 1) = none := I.hok.fresh (Nat.le_succ _)
          have vs' := each_vals h2
          have len : (L.mergeSort (PySem.W.dataLe false fun p => p.1.data)).length = L.length := List.length_mergeSort _
          have J : Inv X pins st (upd H (s.heap.objs.size + 1) (.lst ((L.mergeSort (PySem.W.dataLe false fun p => p.1.data)).map (·.2)))) { s with heap := PyProof.Rows.sortedAll s.heap its out.toArray } :=
            I.laid (t' := s.toks) (fun _ _ => PyProof.Rows.sortedAll_old) (Nat.le_succ _) ⟨by rw [List.length_map, len]; exact lL, out, c, vs', hc⟩
          have keys : (L.mergeSort (PySem.W.dataLe false fun p => p.1.data)).map (·.1) = ks.mergeSort keyLe := by
            rw [List.map_mergeSort (r := PySem.W.dataLe false fun p : KV1 => p.1.data) (s := keyLe) (f := fun p : KV1 => p.1) (l := L) (fun a _ b _ => rfl), l1]
          refine ⟨.ref (s.heap.objs.size + 1), _, J, rfl, q r _ (.ref _) (Step.new1 hn) (sr.beside hn) ?_⟩
          rw [← keys]
          refine RV.newL sr hn ?_ (kv_rvs fun p hp => l3 p ((List.mergeSort_perm _ _).mem_iff.mp hp))
          rw [ofKs_map, List.length_map, List.length_map, len]
          exact lL
    · cases e3
  · cases e
end
end Mp
namespace Mp
open PySem PySem.Spec
      PyProof.Rows L2

/-! ### [e for x in a for y in b] -/
def lc2X (t : Tn) (tt : MT) (it1 : MI) (t1 : Tn) (tt1 : MT) (m : ME) (vs1 : List Nat) (s : Src) (sl : Sl) : List Val → Sto → Option (List Val × Sto)
  | [], S => if s.ok S then some ([], S) else none
  | x :: xs, S => if s.ok S then (t.m sl S x).bind fun sl1 => (tt sl1 S).bind fun p => if p.1 then (it1 sl1 p.2).bind fun q => (lcX t1 tt1 m q.1 (wipeS sl1 vs1) q.1.l q.2).bind fun y => (lc2X t tt it1 t1 tt1 m vs1 s sl xs y.2).bind fun w => some (y.1 ++ w.1, w.2) else lc2X t tt it1 t1 tt1 m vs1 s sl xs p.2
    else none
def eLc2 (t : Tn) (it : MI) (tt : MT) (it1 : MI) (t1 : Tn) (tt1 : MT) (m : ME) (vs vs1 : List Nat) : ME := fun sl S => (it sl S).bind fun p => (lc2X t tt it1 t1 tt1 m vs1 p.1 (wipeS sl vs) p.1.l p.2).bind fun w => if w.1.length ≤ sizeLine then some (.lst w.1, w.2) else none
theorem lcX_ok {t : Tn} {tt : MT} {m : ME} {s : Src} {sl : Sl} {l : List Val} {S : Sto} {w : List Val × Sto} (e : lcX t tt m s sl l S = some w) : s.ok S = true := by
  cases l with
  | nil =>
    simp only [lcX] at e
    split at e
    · assumption
    · cases e
  | cons =>
    simp only [lcX] at e
    split at e
    · assumption
    · cases e
theorem lc2X_ok {t t1 : Tn} {tt tt1 : MT} {it1 : MI} {m : ME} {vs1 : List Nat} {s : Src} {sl : Sl} {l : List Val} {S : Sto} {w : List Val × Sto} (e : lc2X t tt it1 t1 tt1 m vs1 s sl l S = some w) : s.ok S = true := by
  cases l with
  | nil =>
    simp only [lc2X] at e
    split at e
    · assumption
    · cases e
  | cons =>
    simp only [lc2X] at e
    split at e
    · assumption
    · cases e
section
variable {X : Cx} {g : Gx} {pos : Pos}
theorem lc2_read {st : L2.St} {H : Hp} {t t1 : Tn} {it it1 : MI} {tt tt1 : MT} {m : ME} {vs vs1 : List Nat} (hK : g.K = X.K) (hm : ∀ i ∈ t.all, i ∈ vs) (hm1 : ∀ i ∈ t1.all, i ∈ vs1) (hv : ∀ i ∈ vs1, i ∈ vs) {z r : List Addr} {S S' : Sto} {sl : Sl} {res : List Val} (R : Rep (g.at z) r H S sl st)
    (e : ((it sl S).bind fun p => lc2X t tt it1 t1 tt1 m vs1 p.1 (wipeS sl vs) p.1.l p.2) = some (res, S')) (hres0 : res.length ≤ sizeLine) {Q : VK}
    (q : ∀ r' H' D ys, Step r H r' H' → SR (g.at z) r' H' S' → H' D = some (.lst ys) → D ∉ r' → D ∉ z → H D = none → RVs (g.at (D :: z)) r' H' res ys → Q (.ref D) H') :
    tLc2 (iD g it) (t.t X.K) (tDt g tt) (iD g it1) (t1.t X.K) (tDt g tt1) (tD g m) vs vs1 st H Q := by
  simp only [Option.bind_eq_some_iff] at e
  obtain ⟨⟨src, S1⟩, e1, e2⟩ := e
  refine ⟨z, r, S, sl, src, S1, R, e1, fun r1 H1 J s01 sr1 ok D hD => ?_⟩
  have sD : Step r1 H1 r1 (upd H1 D (.lst [])) := Step.new1 hD
  have zs : Zs z (D :: z) H1 := fun p hp => by
    rcases List.mem_cons.mp hp
          with e | e
    · right; rw [e]; exact hD
    · exact .inl e
  have sl1 : SlR (g.at z) r1 H1 (wipeS sl vs) (wipe st vs) := (R.sl.mono s01 R.sr.own).wipe vs
  have hm0 : ∀ p ∈ z, p ∈ D :: z := fun p hp => List.mem_cons_of_mem _ hp
  have hzD : D ∈ (g.at (D :: z)).z := List.mem_cons_self
  let Wi : Nat → Hp → Prop := fun i H2 => i ≤ src.l.length ∧ ∃ r2 S2 acc ys rest, Step r1 H1 r2 H2 ∧ Rep (g.at (D :: z)) r2 H2 S2 (wipeS sl vs) (wipe st vs) ∧ H2 D = some (.lst ys) ∧ RVs (g.at (D :: z)) r2 H2 acc ys ∧ res = acc ++ rest ∧ lc2X t tt it1 t1 tt1 m vs1 src (wipeS sl vs) (src.l.drop i) S2 = some (rest, S')
  refine ⟨fun i n H2 => n = src.l.length - i ∧ Wi i H2, ⟨_, rfl, Nat.zero_le _, r1, S1, [], [], res, sD, ⟨SR.addz (g := g.at z) sr1 hD, SlR.monoZ (g := g.at z) sD sr1.own zs sl1⟩, upd_same, .nil, rfl, by simpa using e2⟩, ?_⟩
  rintro i n H2 ⟨rfl, hle, r2, S2, acc, ys, rest, s2, R2, hDy, rys, hres, e3⟩
  have oks := lc2X_ok e3
  obtain ⟨hgo, hstop⟩ := ok.2 (D :: z) r2 H2 S2 s2.z zs R2.sr oks
  by_cases hlt : i < src.l.length
  · right
    have hd : src.l.drop i = src.l[i] :: src.l.drop (i + 1) := List.drop_eq_getElem_cons hlt
    rw [hd] at e3
    simp only [lc2X, oks, if_true, Option.bind_eq_some_iff] at e3
    obtain ⟨sl3, e4, ⟨k, S3⟩, e5, e6⟩ := e3
    obtain ⟨go, yl⟩ := hgo i src.l[i] (List.getElem?_eq_getElem hlt)
    refine ⟨go, Wi (i + 1), fun H5 w => ⟨src.l.length - (i + 1), by omega, rfl, w⟩, fun hx H3 hy => ?_⟩
    obtain ⟨mo, rx⟩ := yl hx H3 hy
    refine Tn.read (g := g.at (D :: z)) (ws := vs) (hK : g.K = X.K) hm (R2.more mo) rx e4 fun st6 R6 hw => ⟨by rw [hw, wipe_sub fun _ h => h], ?_⟩
    refine ⟨D :: z, r2, S2, sl3, k, S3, R6, e5, fun r7 H7 st7 sr7 => ?_⟩
    have hD7 : H7 D = some (.lst ys) := st7.ext _ _ (mo _ _ hDy) (R2.sr.zr D List.mem_cons_self)
    have s27 : Step r2 H2 r7 H7 := mo.step.trans st7
    cases k with
    | false =>
      simp only [Bool.false_eq_true, if_false] at e6
      refine iteF ?_
      exact ⟨by omega, r7, S3, acc, ys, rest, s2.trans s27, R2.step s27 sr7, hD7, rys.mono s27 R2.sr.own, hres, e6⟩
    | true =>
      simp only [if_true, Option.bind_eq_some_iff] at e6
      refine iteT ?_
      obtain ⟨⟨src1, S4⟩, f1, ⟨ys1, S5⟩, f2, ⟨rest', S6⟩, f3, f4⟩ := e6
      cases f4
      have R7 : Rep (g.at (D :: z)) r7 H7 S3 sl3 st6 := R6.step st7 sr7
      refine ⟨D :: z, r7, S3, sl3, src1, S4, R7, f1, fun r8 H8 J1 st8 sr8 ok1 => ?_⟩
      have hD8 : H8 D = some (.lst ys) := st8.ext _ _ hD7 (sr7.zr D List.mem_cons_self)
      have s28 := s27.trans st8
      have slI : SlR (g.at (D :: z)) r8 H8 (wipeS sl3 vs1) (wipe st6 vs1) := (R7.sl.mono st8 sr7.own).wipe vs1
      have slO : SlR (g.at (D :: z)) r8 H8 (wipeS sl vs) (wipe st vs) := R2.sl.mono s28 R2.sr.own
      let Wj : Nat → Hp → Prop := fun j H9 => j ≤ src1.l.length ∧ ∃ r9 S9 accI ysI restI, Step r1 H1 r9 H9 ∧ StepZ (D :: z) r8 H8 r9 H9 ∧ SR (g.at (D :: z)) r9 H9 S9 ∧ SlR (g.at (D :: z)) r9 H9 (wipeS sl3 vs1) (wipe st6 vs1) ∧ SlR (g.at (D :: z)) r9 H9 (wipeS sl vs) (wipe st vs) ∧ H9 D = some (.lst ysI) ∧ RVs (g.at (D :: z)) r9 H9 (acc ++ accI) ysI ∧
        ys1 = accI ++ restI ∧ lcX t1 tt1 m src1 (wipeS sl3 vs1) (src1.l.drop j) S9 = some (restI, S5)
      refine ⟨fun j k H9 => k = src1.l.length - j ∧ Wj j H9, ⟨_, rfl, Nat.zero_le _, r8, S4, [], ys, ys1, s2.trans s28, (Step.refl _ _).z, sr8, slI, slO, hD8, by simpa using rys.mono s28 R2.sr.own, rfl, by simpa using f2⟩, ?_⟩
      rintro j k H9 ⟨rfl, hlej, r9, S9, accI, ysI, restI, s9, s89, sr9, slI9, slO9, hD9, rysI, hresI, f5⟩
      have oks1 := lcX_ok f5
      obtain ⟨hgo1, hstop1⟩ := ok1.2 (D :: z) r9 H9 S9 s89 (.refl _ _) sr9 oks1
      have nD9 : D ∉ r9 := sr9.zr D List.mem_cons_self
      by_cases hlj : j < src1.l.length
      · right
        have hd1 : src1.l.drop j = src1.l[j] :: src1.l.drop (j + 1) := List.drop_eq_getElem_cons hlj
        rw [hd1] at f5
        simp only [lcX, oks1, if_true, Option.bind_eq_some_iff] at f5
        obtain ⟨sl10, g4, ⟨k1, S10⟩, g5, g6⟩ := f5
        obtain ⟨go1, yl1⟩ := hgo1 j src1.l[j] (List.getElem?_eq_getElem hlj)
        refine ⟨go1, Wj (j + 1), fun H5 w => ⟨src1.l.length - (j + 1), by omega, rfl, w⟩, fun hx1 H10 hy1 => ?_⟩
        obtain ⟨mo1, rx1⟩ := yl1 hx1 H10 hy1
        have R9 : Rep (g.at (D :: z)) r9 H9 S9 (wipeS sl3 vs1) (wipe st6 vs1) := ⟨sr9, slI9⟩
        refine Tn.read (g := g.at (D :: z)) (ws := vs1) (hK : g.K = X.K) hm1 (R9.more mo1) rx1 g4 fun st11 R11 hw1 => ⟨by rw [hw1, wipe_sub fun _ h => h], ?_⟩
        refine ⟨D :: z, r9, S9, sl10, k1, S10, R11, g5, fun r12 H12 st12 sr12 => ?_⟩
        have hD12 : H12 D = some (.lst ysI) := st12.ext _ _ (mo1 _ _ hD9) nD9
        have s912 : Step r9 H9 r12 H12 := mo1.step.trans st12
        have more : ∀ {r13 : List Addr} {H13 : Hp}, Step r9 H9 r13 H13 → StepZ (D :: z) r8 H8 r13 H13 := fun {r13 H13} s => by
          refine ⟨fun b o h h1 h2 => ?_, ?_, fun b hb => ?_, fun b o u h => s.frz b o u (s89.frz b o u h)⟩
          · have h9 := s89.ext b o h h1 h2
            refine s.ext b o h9 (s89.nin h1 h)
          · obtain ⟨t9, e9⟩ := s89.pre
            obtain ⟨t13, e13⟩ := s.pre
            exact ⟨t9 ++ t13, by rw [e13, e9, List.append_assoc]⟩
          · rcases s.new b hb with y | y
            · exact s89.new b y
            · by_cases h8 : b ∈ r8
              · exact .inl h8
              · right
                cases q8 : H8 b with
                | none => rfl
                | some o =>
                  by_cases hbz : b ∈ D :: z
                  · obtain ⟨xs, e9⟩ := sr9.zat b hbz
                    rw [y] at e9; cases e9
                  · rw [s89.ext b o q8 h8 hbz] at y; cases y
        cases k1 with
        | false =>
          simp only [Bool.false_eq_true, if_false] at g6
          refine iteF ?_
          exact ⟨by omega, r12, S10, accI, ysI, restI, s9.trans s912, more s912, sr12, slI9.mono s912 sr9.own, slO9.mono s912 sr9.own, hD12, rysI.mono s912 sr9.own, hresI, g6⟩
        | true =>
          simp only [if_true, Option.bind_eq_some_iff] at g6
          refine iteT ?_
          obtain ⟨⟨y, S13⟩, g7, ⟨rest13, S14⟩, g8, g9⟩ := g6
          cases g9
          refine ⟨D :: z, r12, S10, sl10, y, S13, R11.step st12 sr12, g7, fun r13 H13 hv13 st13 sr13 rv => ?_⟩
          have nD12 : D ∉ r12 := sr12.zr D List.mem_cons_self
          have nD13 : D ∉ r13 := sr13.zr D List.mem_cons_self
          have hD13 : H13 D = some (.lst ysI) := st13.ext _ _ hD12 nD12
          have s913 : Step r9 H9 r13 H13 := s912.trans st13
          have ra13 := rysI.mono s913 sr9.own
          have hlen : ysI.length < sizeLine := by
            rw [← ra13.length]
            have : res.length = (acc ++ accI).length + (1 + rest13.length + rest'.length) := by
              rw [hres, hresI]
              simp only [List.length_append, List.length_cons]
              omega
            omega
          have s13 := s9.trans s913
          have sU : Step r1 H1 r13 (upd H13 D (.lst (ysI ++ [hv13]))) := ⟨fun b o hb hn => by rw [upd_ne (ne_of_none hb hD)]; exact s13.ext b o hb hn, s13.pre, s13.new, fun b o u hb => by rw [upd_ne (ne_of_none hb hD)]; exact s13.frz b o u hb⟩
          have m13 := more s913
          have sU8 : StepZ (D :: z) r8 H8 r13 (upd H13 D (.lst (ysI ++ [hv13]))) := ⟨fun b o hb h1 h2 => by rw [upd_ne (fun e => h2 (by rw [e]; exact List.mem_cons_self))]; exact m13.ext b o hb h1 h2, m13.pre, m13.new, fun b o u hb => by rw [upd_ne (fun e => by rw [e, hD8] at hb; cases hb)]; exact m13.frz b o u hb⟩
          have slU : ∀ {sl' : Sl} {st' : L2.St}, SlR (g.at (D :: z)) r9 H9 sl' st' → SlR (g.at (D :: z)) r13 (upd H13 D (.lst (ysI ++ [hv13]))) sl' st' := fun {sl' st'} x => ⟨x.len, fun i w hj => by
            obtain ⟨hw', e', q'⟩ := (x.mono s913 sr9.own).at_ i w hj
            exact ⟨hw', e', RV.updz (g := g.at (D :: z)) List.mem_cons_self hD13 q'⟩⟩
          refine ⟨ysI, hD13, hlen, by omega, r13, S13, accI ++ [y], ysI ++ [hv13], rest13, sU, sU8, SR.updz (g := g.at (D :: z)) List.mem_cons_self hD13 sr13, slU slI9, slU slO9, upd_same, ?_, by rw [hresI]; simp, g8⟩
          rw [← List.append_assoc]
          exact (RVs.updz (g := g.at (D :: z)) List.mem_cons_self hD13 ra13).append (.cons (RV.updz (g := g.at (D :: z)) List.mem_cons_self hD13 rv) .nil)
      · left
        have hd1 : src1.l.drop j = [] := List.drop_eq_nil_of_le (by omega)
        rw [hd1] at f5
        simp only [lcX, oks1, if_true] at f5
        cases f5
        rw [List.append_nil] at hresI
        subst hresI
        exact ⟨hstop1 j (by omega), by omega, r9, _, acc ++ ys1, ysI, rest', s9, ⟨sr9, slO9⟩, hD9, rysI, by rw [hres]; simp, f3⟩
  · left
    have hd : src.l.drop i = [] := List.drop_eq_nil_of_le (by omega)
    rw [hd] at e3
    simp only [lc2X, oks, if_true] at e3
    cases e3
    rw [List.append_nil] at hres
    subst hres
    have hDH : H D = none := by
      cases hh : H D with
      | none => rfl
      | some o =>
        have hr : D ∈ r := by
          by_cases hr : D ∈ r
          · exact hr
          · have := s01.ext D o hh hr
            rw [hD] at this; cases this
        obtain ⟨t', rfl⟩ := s01.pre
        obtain ⟨u, hu, _⟩ := sr1.own D (List.mem_append_left _ hr)
        rw [hD] at hu; cases hu
    exact ⟨hstop i (by omega), q r2 H2 D ys (s01.trans s2) (SR.fewz (g := g.at (D :: z)) hm0 R2.sr) hDy (R2.sr.zr D List.mem_cons_self) (fun hz => by
      obtain ⟨xs, e'⟩ := sr1.zat D hz
      rw [hD] at e'; cases e') hDH rys⟩
theorem d_lc2 {elt tg iter tg1 iter1 : Expr} {ifs ifs1 : List Expr} {scope : Scope} {own : List (Str × Nat)} {vs1 : List Nat} {it it1 : MI} {t t1 : Tn} {tt tt1 : MT} {m : ME} (hK : g.K = X.K) (hc : X.calm = true) (hN : X.N.Nodup) (hi : PI X tg iter (iD g it)) (ok : BlkOk X.N X.env.scope scope own) (hm : ∀ i ∈ t.all, i ∈ own.map (·.2)) (hm1 : ∀ i ∈ t1.all, i ∈ vs1) (hv : ∀ i ∈ vs1, i ∈ own.map (·.2))
    (hg : ∀ (s : Shared) (H : Hp) (C : Addr) (cl : List (Str × Addr)) (fp : List Addr), PG (X.blk s H scope (compEnvC scope cl C X.env) fp) tg (t.t X.K)) (ht : ∀ (s : Shared) (H : Hp) (C : Addr) (cl : List (Str × Addr)) (fp : List Addr), PTs (X.blk s H scope (compEnvC scope cl C X.env) fp) ifs (tDt g tt))
    (hi1 : ∀ (s : Shared) (H : Hp) (C : Addr) (cl : List (Str × Addr)) (fp : List Addr), PI (X.blk s H scope (compEnvC scope cl C X.env) fp) tg1 iter1 (iD g it1)) (hg1 : ∀ (s : Shared) (H : Hp) (C : Addr) (cl : List (Str × Addr)) (fp : List Addr), PG (X.blk s H scope (compEnvC scope cl C X.env) fp) tg1 (t1.t X.K))
    (ht1 : ∀ (s : Shared) (H : Hp) (C : Addr) (cl : List (Str × Addr)) (fp : List Addr), PTs (X.blk s H scope (compEnvC scope cl C X.env) fp) ifs1 (tDt g tt1)) (he : ∀ (s : Shared) (H : Hp) (C : Addr) (cl : List (Str × Addr)) (fp : List Addr), PE (X.blk s H scope (compEnvC scope cl C X.env) fp) elt (tD g m))
    (hs : ∀ x, foldedSetIterable iter X.env x = pure x := by intro _; rfl) (hs1 : ∀ env x, foldedSetIterable iter1 env x = pure x := by intro _ _; rfl) : PE X (.ListComp elt [⟨tg, iter, ifs, 0⟩, ⟨tg1, iter1, ifs1, 0⟩] scope pos) (tD g (eLc2 t it tt it1 t1 tt1 m (own.map (·.2)) vs1)) := by
  refine PE.weak (pe_lc2 hc hN hi ok hv hg ht hi1 hg1 ht1 he hs hs1) fun st H Q h => ?_
  obtain ⟨z, r, S, sl, v, S', R, e, q⟩ := h
  simp only [eLc2, Option.bind_eq_some_iff] at e
  obtain ⟨p, e1, w, e2, e3⟩ := e
  split at e3
  · rename_i hz
    cases e3
    refine lc2_read (res := w.1) (S' := w.2) hK hm hm1 hv R (by simp [e1, e2]) hz fun r' H' D ys st' sr' hD hnr hnz hn rv => ?_
    exact q r' H' (.ref D) st' sr' (.lst hD hnr hnz hz (RVs.fewz (g := g.at (D :: z)) (fun p hp => List.mem_cons_of_mem _ hp) rv))
  · cases e3
end
end Mp
namespace Mp
open PySem PySem.Spec
      PyProof.Rows L2

/-! ### d.update(list of pairs) -/
def prsOf : List Val → Option (List (NestedKey × Val))
  | [] => some []
  | .tup [k, v] :: xs => (toK k).bind fun kk => (prsOf xs).map fun ps => (kk, v) :: ps
  | _ => none
def putAll (kvs ps : List (NestedKey × Val)) : List (NestedKey × Val) := ps.foldl (fun acc p => putG acc p.1 p.2) kvs
def putAllR (rows qs : List NRow) : List NRow := qs.foldl (fun acc q => putR acc q.1 q.2.1 q.2.2) rows
theorem pair_putAll {g : Gx} {r : List Addr} {H : Hp} : ∀ {ps : List (NestedKey × Val)} {qs : List NRow} {kvs : List (NestedKey × Val)} {rows : List NRow}, Paired (DRow g r H) ps qs → Paired (DRow g r H) kvs rows → Paired (DRow g r H) (putAll kvs ps) (putAllR rows qs)
  | _, _, _, _, .nil, h => h
  | p :: _, q :: _, _, _, .cons ⟨e, a, b⟩ t, h => by
    unfold putAll putAllR
    simp only [List.foldl_cons]
    rw [← e]
    exact pair_putAll t (pair_put a b h)
theorem putAll_le : ∀ (ps kvs : List (NestedKey × Val)), (putAll kvs ps).length ≤ kvs.length + ps.length
  | [], kvs => by simp [putAll]
  | p :: ps, kvs => by
    have h1 := putAll_le ps (putG kvs p.1 p.2)
    have h2 := putG_length p.1 p.2 kvs
    show (putAll (putG kvs p.1 p.2) ps).length ≤ _
    rw [List.length_cons]
    omega
theorem atKey_none {xs : List (NestedKey × Addr × Value)} {k : NestedKey} (h : ¬ (atKey xs k).isSome = true) : k ∉ xs.map (·.1) := fun hm => by
  obtain ⟨x, hx, rfl⟩
        := List.mem_map.mp hm
  apply h
  unfold atKey
  rw [Option.isSome_map]
  exact List.find?_isSome.mpr ⟨x, hx, by simp⟩
theorem nodup_stored {xs : List (NestedKey × Addr × Value)} {k : NestedKey} {b : Addr} {u : Value} (nd : (xs.map (·.1)).Nodup) : ((storedH xs k b u).map (·.1)).Nodup := by
  unfold storedH
  split
  · have : (xs.map (putAt k u)).map (·.1) = xs.map (·.1) := by
      rw [List.map_map]
      refine List.map_congr_left
            fun x _ => ?_
      show (putAt k u x).1 = x.1
      unfold putAt
      split <;> rfl
    rw [this]; exact nd
  · rename_i h
    rw [List.map_append,
          List.nodup_append]
    refine ⟨nd, by simp, fun a ha c hc e => ?_⟩
    have : c = k := by simpa using hc
    rw [e, this] at ha
    exact atKey_none h ha
theorem rel_putAll : ∀ {qs : List NRow} {zs : List (NestedKey × Addr × Value)} {rows : List NRow} {xs : List (NestedKey × Addr × Value)}, Paired RowRel qs zs → Paired RowRel rows xs → (xs.map (·.1)).Nodup → Paired RowRel (putAllR rows qs) (storedAllH xs zs)
  | _, _, _, _, .nil, h, _ => h
  | q :: _, z :: _, _, _, .cons ⟨e1, e2, e3⟩ t, h, nd => by
    unfold putAllR storedAllH
    simp only [List.foldl_cons]
    rw [← e1, ← e2]
    exact rel_putAll t (rel_put e3 h nd) (nodup_stored nd)
theorem prs_cons : ∀ {x : Val} {xs : List Val} {ps : List (NestedKey × Val)}, prsOf (x :: xs) = some ps → ∃ kx v k ps', x = .tup [kx, v] ∧ toK kx = some k ∧ prsOf xs = some ps' ∧ ps = (k, v) :: ps'
  | .tup [kx, v], xs, ps, e => by
    simp only [prsOf, Option.bind_eq_some_iff, Option.map_eq_some_iff] at e
    obtain ⟨k, e1, ps', e2, rfl⟩ := e
    exact ⟨kx, v, k, ps', rfl, e1, e2, rfl⟩
  | .tup [], _, _, e => by simp [prsOf] at e
  | .tup [_], _, _, e => by simp [prsOf] at e
  | .tup (_ :: _ :: _ :: _), _, _, e => by simp [prsOf] at e
  | .non, _, _, e => by simp [prsOf] at e
  | .bl _, _, _, e => by simp [prsOf] at e
  | .int _, _, _, e => by simp [prsOf] at e
  | .str _, _, _, e => by simp [prsOf] at e
  | .ty _, _, _, e => by simp [prsOf] at e
  | .fn _, _, _, e => by simp [prsOf] at e
  | .lst _, _, _, e => by simp [prsOf] at e
  | .scr _, _, _, e => by simp [prsOf] at e
  | .ref _, _, _, e => by simp [prsOf] at e
  | .ptp _, _, _, e => by simp [prsOf] at e
/-- the pairs as they stand -/
theorem prs_at {X : Cx} {g : Gx} {r : List Addr} {H : Hp} {pins : List (Addr × Obj)} {st : L2.St} {s : Shared} (hK : g.K = X.K) (I : Inv X pins st H s) : ∀ {xs : List Val} {vs : List V} {us : List Value} {ps : List (NestedKey × Val)}, RVs g r H xs vs → Vals vs us → prsOf xs = some ps → (ps.all fun p => keyOk p.1) = true →
    ∃ (qs : List NRow) (zs : List (NestedKey × Addr × Value)) (Ts : List Addr), Paired (DRow g r H) ps qs ∧ Paired RowRel qs zs ∧ us = Ts.map Value.ref ∧ Ts.length = zs.length ∧ ∀ (j : Nat) (T : Addr) (z : NestedKey × Addr × Value), Ts[j]? = some T → zs[j]? = some z → IsTup s.heap T #[.ref z.2.1, z.2.2]
  | _, _, _, _, .nil, rv, e, _ => by cases e; cases rv; exact ⟨[], [], [], .nil, .nil, rfl, rfl, fun j T z h => by simp at h⟩
  | y :: _, _, _, _, .cons hy t, .cons r1 rt, e, ok => by
    obtain ⟨kx, x, k, ps', rfl, e1, e2, rfl⟩ := prs_cons e
    simp only [List.all_cons, Bool.and_eq_true] at ok
    obtain ⟨qs, zs, Ts, i1, i2, rfl, i4, i5⟩ := prs_at hK I t rt e2 ok.2
    cases hy with
    | @tup a _ ws h1 h2 h3 =>
      cases r1
      rw [hK] at h1
      obtain ⟨its, rv, it, _⟩ := I.tuple h1
      cases h3 with
      | @cons _ hk _ _ rk h3 =>
        cases h3 with
        | @cons _ hx _ _ rx h3 =>
          cases h3
          cases rv with
          | @cons _ uk _ _ ru rv =>
            cases rv with
            | @cons _ ux _ _ rux rv =>
              cases rv
              have tup : ∃ b, hk = .ref b := by
                have ok1 := ok.1
                unfold keyOk at ok1
                rw [Bool.and_eq_true] at ok1
                cases rk with
                | tup => exact ⟨_, rfl⟩
                | non => cases e1; exact absurd ok1.2 (by simp)
                | int => cases e1; exact absurd ok1.2 (by simp)
                | str => cases e1; exact absurd ok1.2 (by simp)
                | bl => cases e1
                | ty => cases e1
                | fn => cases e1
                | lst => cases e1
                | scr => cases e1
                | ref => cases e1
                | ptp => cases e1
              obtain ⟨b, rfl⟩ := tup
              cases ru
              refine ⟨(k, b, hx) :: qs, (k, b, ux) :: zs, a :: Ts, .cons ⟨rfl, by show RV g r H (ofK k) (.ref b); rw [ofK_toK e1]; exact rk, rx⟩ i1, .cons ⟨rfl, rfl, rux⟩ i2, rfl, by simp [i4], fun j T z hT hz => ?_⟩
              cases j with
              | zero => simp at hT hz; subst hT hz; exact it
              | succ j => exact i5 j T z (by simpa using hT) (by simpa using hz)
def fUpd (S : Sto) (a : Val) (xs : List Val) : Option (Val × Sto) := match a, xs with
  | .ref n, [x] => match S[n]? with
    | some (.dN kvs) => (lstOf S x).bind fun ys => (prsOf ys).bind fun ps => if keysOk kvs && keysOk ps && decide (kvs.length + ps.length ≤ sizeLine) then some (.non, S.set n (.dN (putAll kvs ps))) else none
    | _ => none
  | _, _ => none
def isDn (S : Sto) : Val → Bool
  | .ref n => match S[n]? with
    | some (.dN _) => true
    | _ => false
  | _ => false
section
variable {X : Cx} {g : Gx} {pos : Pos}
def DnT (w : World) (x : V) (H : Hp) : Prop := ∃ a rows, x = .ref a ∧ H a = some (DnHO w a rows)
theorem dnT_ok {w : World} (pins : List (Addr × Obj)) (s : Shared) (st : L2.St) (H : Hp) (x : V) (v : Value) (I : Inv X pins st H s) (r : RelV x v) (h : DnT w x H) : s.TypeIs v "dict" ∧ ∀ a, v = .ref a → ∃ ob, s.heap.get? a = some ob ∧ ob.dict = none := by
  obtain ⟨a, rows, rfl, ha⟩ := h
  cases r
  obtain ⟨_, _, _, _, o, _, _, h1, h2, _⟩ := (show DnAt w a rows s.heap from (I.hok a _ ha).1)
  refine ⟨⟨o, h1, h2.1⟩, fun b e => ?_⟩
  cases e
  exact ⟨o, h1, h2.2.1⟩
theorem m_upd (hK : g.K = X.K) (hw : g.w = X.w) (hc : X.calm = true) (hu : X.A.units + 12 < cLine) : MtR X "dict.update" (rMG g fUpd) := by
  intro pins s st H x vs v us Q I rx rvs h
  obtain ⟨z, r, S, a, xs, w, S', sr, ra, rxs, e, q⟩ := h
  unfold fUpd at e
  split at e
  · rename_i n y
    split at e
    · rename_i kvs hy
      simp only [Option.bind_eq_some_iff] at e
      obtain ⟨ys, e1, ps, e2, e3⟩ := e
      split at e3
      · rename_i ok
        cases e3
        simp only [Bool.and_eq_true,
              decide_eq_true_eq] at ok
        obtain ⟨⟨ok1, ok2⟩, hz⟩ := ok
        cases ra with
        | @ref _ d ha =>
          obtain ⟨u, hu', ro⟩ := sr.at_ _ _ _ hy ha
          cases ro with
          | @dN _ rows h1 hl h0 h2 =>
            have pr := rows_pair h1 h0 h2
            have d0 : DnAt (g.at z).w d rows s.heap := (I.hok d _ hu').1
            rw [show (g.at z).w = X.w from hw] at d0
            obtain ⟨_, hd, xs', rel, dd⟩ := dn_dict (P := X.prog) d0 (keys_is (g := g.at z) hK I pr ok1)
            cases rxs with
            | cons b t =>
              cases t
              obtain ⟨p, ws, rfl, hp, hzl, hs⟩ := lstOf_at sr b e1
              obtain ⟨u1, rfl, ru1⟩ := vals1 rvs
              cases ru1
              cases rx
              obtain ⟨zl, its, nn, rv, ho⟩ := (show ObjOk X.prog X.w H s.heap p (.lst ws) from I.hok p _ hp)
              obtain ⟨qs, zs, Ts, p1, p2, rfl, p4, p5⟩ := prs_at (g := g.at z) hK I hs rv e2 ok2
              have lz : zs.length = ps.length := by rw [← Paired.length p2, ← Paired.length p1]
              let prs : List (Value × Value) := zs.map fun z => (Value.ref z.2.1, z.2.2)
              have lp : prs.length = zs.length := List.length_map _
              have dob : ∃ o es ep, s.heap.get? d = some o ∧ o.data = .dict es ep := by
                obtain ⟨o, es, ep, o1, _, o3, _⟩ := dd
                exact ⟨o, es, ep, o1, o3⟩
              obtain ⟨od, des, dep, od1, od2⟩ := dob
              have hT : ∀ j, j < prs.length → ∃ T z, Ts[j]? = some T ∧ zs[j]? = some z := fun j hj => by
                have h1 : j < zs.length := by omega
                have h2 : j < Ts.length := by omega
                exact ⟨_, _, List.getElem?_eq_getElem h2, List.getElem?_eq_getElem h1⟩
              have items : PairItems s.heap (Ts.map Value.ref).toArray (fun j => Ts.getD j 0) prs := by
                refine ⟨by simp [lp, p4], fun j k v hj => ?_⟩
                have hjl := (List.getElem?_eq_some_iff.mp hj).1
                obtain ⟨T, zz, t1, t2⟩ := hT j hjl
                have hj' : (zs.map fun z : NestedKey × Addr × Value => (Value.ref z.2.1, z.2.2))[j]? = some (k, v) := hj
                rw [List.getElem?_map, t2] at hj'
                cases hj'
                have eT : Ts.getD j 0 = T := by rw [List.getD_eq_getElem?_getD, t1]; rfl
                refine ⟨by simp [t1, eT], ?_⟩
                show PairAt s.heap (Ts.getD j 0) _ _
                rw [eT]
                exact .inl (p5 j T zz t1 t2)
              have P := PairArg.list (prog := X.prog) (w := X.w) p (Ts.map Value.ref).toArray (fun j => Ts.getD j 0) prs
              have keyZ : ∀ x ∈ zs, (nestedKind X.prog X.w).is s.heap x.1 x.2.1 := fun x hx => by
                have all : ∀ {qs : List NRow} {zs : List (NestedKey × Addr × Value)}, Paired RowRel qs zs → (∀ p ∈ qs, (nestedKind X.prog X.w).is s.heap p.1 p.2.1) → ∀ x ∈ zs, (nestedKind X.prog X.w).is s.heap x.1 x.2.1 := by
                  intro qs zs q
                  induction q with
                  | nil => intro _ x hx; cases hx
                  | @cons a b as bs hq t ih =>
                    intro k x hx
                    rcases List.mem_cons.mp hx
                          with rfl | hx
                    · rw [← hq.1, ← hq.2.1]
                      exact k a List.mem_cons_self
                    · exact ih (fun p hp => k p (List.mem_cons_of_mem _ hp)) x hx
                exact all p2 (keys_is (g := g.at z) hK I p1 ok2) x hx
              have keyX : ∀ x ∈ xs', (nestedKind X.prog X.w).is s.heap x.1 x.2.1 := by
                obtain ⟨_, _, _, _, _, _, _, h, _⟩ := dd
                exact h
              have ndx : (xs'.map (·.1)).Nodup := by
                obtain ⟨_, _, _, _, _, _, _, _, h⟩ := dd
                exact h
              have pd : p ≠ d := fun e => by
                rw [e, hu'] at hp
                exact nomatch hp
              refine call_update_pairsH (acc := xs') (ps := zs) P (I.ok.hd hc) (by show X.A.units + 1 + 8 < cLine; omega) ⟨⟨_, _, ho, rfl, rfl, rfl⟩, items⟩ (fun hm => ?_) ⟨lp.symm, fun i key v hr => ?_⟩ (fun h' k x hx => ?_) dd (by have := Paired.length rel; have := Paired.length pr; omega) fun h' tk dd' k => ?_
              · rcases List.mem_cons.mp hm
                      with e | hm
                · exact pd e.symm
                · obtain ⟨j, hj, e⟩ := List.mem_map.mp hm
                  obtain ⟨T, zz, t1, t2⟩ := hT j (List.mem_range.mp hj)
                  obtain ⟨ot, o1, o2, n, o3⟩ := p5 j T zz t1 t2
                  have eT : Ts.getD j 0 = T := by rw [List.getD_eq_getElem?_getD, t1]; rfl
                  have e : Ts.getD j 0 = d := e
                  rw [eT] at e
                  rw [e, od1] at o1
                  cases o1
                  rw [od2] at o3
                  exact nomatch o3
              · have hr' : (zs.map fun z : NestedKey × Addr × Value => (Value.ref z.2.1, z.2.2))[i]? = some (key, v) := hr
                rw [List.getElem?_map, Option.map_eq_some_iff] at hr'
                obtain ⟨zz, h1, h2⟩ := hr'
                cases h2
                exact ⟨zz.1, zz.2.1, h1, rfl⟩
              · have base : (nestedKind X.prog X.w).is s.heap x.1 x.2.1 := by
                  rcases List.mem_append.mp hx
                        with hx | hx
                  · exact keyX x hx
                  · exact keyZ x hx
                exact Mem1.kept (P := X.prog) (w := X.w) base fun b o vs n hb hdat => k b o (fun e => by
                  rw [e, od1] at hb
                  cases hb
                  rw [od2] at hdat
                  exact nomatch hdat) (by simp) hb
              · have c : Chg (DnHO (g.at z).w d rows) := ⟨fun _ z => (nomatch z), fun _ _ z => (nomatch z), fun _ _ z => (nomatch z)⟩
                have ham := List.mem_of_getElem? ha
                have pr' := pair_putAll p1 pr
                have rel' := rel_putAll p2 rel ndx
                have hl' : (putAll kvs ps).length ≤ sizeLine := by have := putAll_le ps kvs; omega
                have at' : DnAt X.w d (putAllR rows qs) h' := dn_of (by rw [← Paired.length pr']; exact hl') hd rel' dd'
                have up : Paired (DRow (g.at z) r (upd H d (DnHO (g.at z).w d (putAllR rows qs)))) (putAll kvs ps) (putAllR rows qs) := Paired.mono (fun p q h => ⟨h.1, h.2.1.updr ham hu' c, h.2.2.updr ham hu' c⟩) pr'
                obtain ⟨sr', st'⟩ := sr.put (so := .dN (putAll kvs ps)) (o := DnHO (g.at z).w d (putAllR rows qs)) ha hu' c (fun _ _ z => nomatch z) (ro_dn up hl')
                have I' : Inv X pins st (upd H d (DnHO (g.at z).w d (putAllR rows qs))) { s with heap := h', toks := tk } := by
                  refine I.write (x := d) (e := d) (t' := tk) (by rw [hu']; exact True.intro) (.inl rfl) (fun b o hb e => k b o hb (by simp) e) ?_ (by rw [show (g.at z).w = X.w from hw]; exact dn_ok at')
                  obtain ⟨_, _, _, _, o', _, _, e', _⟩ := at'
                  exact ⟨o', e'⟩
                exact ⟨.non, _, I', rfl, q r _ _ st' sr' .non⟩
      · cases e3
    · cases e
  · cases e
variable {o e : Expr} {mo : ME} {ms : MEs} {apos cpos : Pos}
theorem d_upd (hK : g.K = X.K) (hw : g.w = X.w) (hc : X.calm = true) (hu : X.A.units + 12 < cLine) (ho : PE X o (tD g mo)) (ha : PA X [e] (tDs g ms)) (hbase : attributeBase o "update" X.env (eval o X.env) = eval o X.env := by rfl)
    (hfew : ((backTo cpos (starEach [e] X.env)).all (fun x => !x.1) && (backToKw cpos (keywordEach [] X.env)).all (fun x => x.1.isSome) && decide (([e] : List Expr).length + ([] : List Keyword).length + (if ([] : List Keyword).isEmpty then 0 else 1) < 30)) = true := by rfl)
    (hline : (apos.endLine == cpos.line) = true := by rfl) (hs : starEach [e] X.env = (false, eval e X.env) :: starEach [] X.env := by rfl) (hpl : (backTo cpos (starEach [] X.env)).any (·.1) = false := by rfl) : PE X (.Call (.Attribute o "update" apos) [e] [] cpos) (tD g (eMeth isDn fUpd mo ms)) :=
  PE.weak (pe_bmS (dnT_ok (w := g.w)) F.plainAttrs_dict F.slot_dict_update F.type_dict_update (m_upd hK hw hc hu) ho ha hbase hfew hline hs hpl) fun _ _ _ h => meth_readS (fun z r H S a x sr ra hc => by
    unfold isDn at hc
    split at hc
    · split at hc
      · rename_i hx
        cases ra with
        | ref ha =>
          obtain ⟨u, hu, ro⟩ := sr.at_ _ _ _ hx ha
          cases ro with
          | dN => exact ⟨_, _, rfl, hu⟩
      · cases hc
    · cases hc) h
end
end Mp
namespace Mz
open PySem PySem.Spec PyProof.Rows RZ
open PySem.W (kdx_alive)

/-! ### zip over two tuples while its handed out pair lives; tuple(zip(..)) -/
abbrev ZipK (h : Heap) (z TI TO a : Addr) (f : Bool) : Prop :=
  h.get? z = some { cls := .type "zip", dict := none, data := .fields #[rawInt a, .bool f, .bool false, .ref TI, .ref TO], slots := #[] }
section
variable {prog : Program}
      {w : World} {A : Around} {E : Value → Shared → Prop} {s : Shared}
theorem zk_free {z TI TO a : Addr} {f : Bool} {oa : Obj} {Q : Bool → Shared → Prop} (hz : ZipK s.heap z TI TO a f) (ha : s.heap.get? a = some oa)
    (h : ∀ h₁, ZipK h₁ z TI TO a true → Heap.SameBut z s.heap h₁ → Q false { s with heap := h₁ }) : wpAny (model prog w) A (Builtin.SmallTypes.ownedTupleIsFree (.ref z)) Q E s := by
  unfold
        Builtin.SmallTypes.ownedTupleIsFree
  refine wpAny_bind (wpAny_field hz rfl (x := rawInt a) rfl ?_)
  show wpAny _ _ (loadIfAlive
        ((a : Int).toNat) >>= _) _ _ _
  rw [Int.toNat_natCast]
  refine wpAny_bind (kdx_alive ha ?_)
  simp only [Option.isNone_some,
        Bool.false_eq_true, if_false]
  refine wpAny_bind (wpAny_field hz rfl
        (x := .bool f) rfl ?_)
  cases f with
  | true =>
    rw [if_neg (show ¬ ((Value.bool true != Value.bool true)
          = true) from Bool.false_ne_true)]
    exact wpAny_pure (h _ hz (Heap.SameBut.refl _ _))
  | false =>
    rw [if_pos (show (Value.bool false !=
          Value.bool true) = true from rfl)]
    exact wpAny_bind (wpAny_setField_rec hz (by simp) fun h₃ he₃ hs₃ => wpAny_pure (h h₃ he₃ hs₃))
theorem zk_next_item {z TI TO i1 i2 l1 l2 a : Addr} {f : Bool} {oa : Obj} {k1 k2 : Nat} {xs ys : Array Value} {x y : Value} {Q : Value → Shared → Prop} (D : ZipApart z TI TO i1 i2 l1 l2)
    (hz : ZipK s.heap z TI TO a f) (ha : s.heap.get? a = some oa) (haz : a ≠ z) (hTI : IsPair s.heap TI (.ref i1) (.ref i2))
    (h1 : s.heap.IsTupleIter i1 l1 k1) (h2 : s.heap.IsTupleIter i2 l2 k2) (hl1 : s.heap.IsTuple l1 xs)
          (hl2 : s.heap.IsTuple l2 ys) (hx : xs[k1]? = some x) (hy : ys[k2]? = some y)
    (hQ : ∀ h', ZipK h' z TI TO a true → h'.IsTupleIter i1 l1 (k1 + 1) → h'.IsTupleIter i2 l2 (k2 + 1) → IsPair h' s.heap.objs.size x y → h'.objs.size = s.heap.objs.size + 1 →
      (∀ c o, c ≠ z → c ≠ i1 → c ≠ i2 → s.heap.get? c = some o → h'.get? c
            = some o) → Q (.ref s.heap.objs.size) { s with heap := h' }) :
    wpAny (model prog w) A (Builtin.«zip.__next__» ⟨[.ref z], []⟩)
          (fun fin s' => ∃ v, fin = .done (.ret v) ∧ Q v s') E s := by
  show wpAny _ _ (field
        (.ref z) 2 >>= _) _ _ _
  refine wpAny_bind (wpAny_field hz rfl
        (x := .bool false) rfl ?_)
  show wpAny _ _ (field
        (.ref z) 3 >>= _) _ _ _
  refine wpAny_bind (wpAny_field hz rfl
        (x := .ref TI) rfl ?_)
  refine wpAny_bind
        (wpAny_seqItems hTI rfl ?_)
  show wpAny _ _ (Builtin.SmallTypes.ownedTupleIsFree
        (.ref z) >>= _) _ _ _
  refine wpAny_bind (zk_free hz ha fun h₁ hz₁ hs₁ => ?_)
  simp only [Bool.false_eq_true, if_false, List.forIn_toArray, List.forIn_cons, List.forIn_nil]
  refine wpAny_bind (wpAny_bind (wpAny_bind (wpAny_holding ?_)))
  show wpAny _ _ (Builtin.SmallTypes.nextOf
        (.ref i1) >>= _) _ _ _
  refine wpAny_bind (nextOf_tuple_item (h1.extBut hs₁.extBut D.i1z) (hl1.extBut hs₁.extBut D.l1z) hx fun h₂ h1₂ hs₂ => wpAny_pure (wpAny_pure ?_))
  refine wpAny_bind (wpAny_bind
        (wpAny_holding ?_))
  show wpAny _ _ (Builtin.SmallTypes.nextOf
        (.ref i2) >>= _) _ _ _
  refine wpAny_bind (nextOf_tuple_item ((h2.extBut hs₁.extBut D.i2z).extBut hs₂.extBut D.i12.symm) ((hl2.extBut hs₁.extBut D.l2z).extBut hs₂.extBut D.l2i1) hy fun h₃ h2₃ hs₃ => wpAny_pure (wpAny_pure (wpAny_pure ?_)))
  show wpAny _ _ (newTuple
        [x, y] >>= _) _ _ _
  refine wpAny_bind
        (wpAny_newTuple ?_)
  have hsz : h₃.objs.size
        = s.heap.objs.size := by rw [hs₃.1, hs₂.1, hs₁.1]
  have up : ∀ c o, c ≠ z → c ≠ i1 → c ≠ i2 → s.heap.get? c = some o → h₃.get? c = some o := fun c o c1 c2 c3 e => hs₃.extBut _ _ c3 (hs₂.extBut _ _ c2 (hs₁.extBut _ _ c1 e))
  refine wpAny_pure
        ⟨_, rfl, ?_⟩
  show Q (.ref h₃.objs.size) _
  rw [hsz]
  refine hQ _ (Heap.get?_push_of_some _ (hs₃.extBut _ _ D.i2z.symm (hs₂.extBut _ _ D.i1z.symm hz₁))) ((h1₂.extBut hs₃.extBut D.i12).at fun o e => Heap.get?_push_of_some _ e) (h2₃.at fun o e => Heap.get?_push_of_some _ e) ?_ (by rw [Heap.size_push, hsz]) fun c o c1 c2 c3 e => Heap.get?_push_of_some _ (up c o c1 c2 c3 e)
  rw [← hsz]
  exact Heap.get?_push_size
        _ rfl
theorem zk_next_end {z TI TO i1 i2 l1 l2 a : Addr} {f : Bool} {oa : Obj} {k1 k2 : Nat} {xs ys : Array Value} {Q : Fin → Shared → Prop} (hh : A.handled = none) (D : ZipApart z TI TO i1 i2 l1 l2)
    (hz : ZipK s.heap z TI TO a f) (ha : s.heap.get? a = some oa) (hTI : IsPair s.heap TI (.ref i1) (.ref i2))
    (h1 : s.heap.IsTupleIter i1 l1 k1) (h2 : s.heap.IsTupleIter i2 l2 k2) (hl1 : s.heap.IsTuple l1 xs)
          (hl2 : s.heap.IsTuple l2 ys) (hend : xs[k1]? = none ∨ ys[k2]? = none)
    (hE : ∀ h' e, (∀ c o, c ≠ z → c ≠ TO → c ≠ i1 → c ≠ i2 → s.heap.get? c = some o → h'.get? c = some o)
          → (∃ o, h'.get? e = some o ∧ o.cls = .type "StopIteration") → E (.ref e) { s with heap := h' }) :
    wpAny (model prog w) A (Builtin.«zip.__next__»
          ⟨[.ref z], []⟩) Q E s := by
  show wpAny _ _ (field
        (.ref z) 2 >>= _) _ _ _
  refine wpAny_bind (wpAny_field hz rfl
        (x := .bool false) rfl ?_)
  show wpAny _ _ (field
        (.ref z) 3 >>= _) _ _ _
  refine wpAny_bind (wpAny_field hz rfl
        (x := .ref TI) rfl ?_)
  refine wpAny_bind
        (wpAny_seqItems hTI rfl ?_)
  show wpAny _ _ (Builtin.SmallTypes.ownedTupleIsFree
        (.ref z) >>= _) _ _ _
  refine wpAny_bind (zk_free hz ha fun h₁ hz₁ hs₁ => ?_)
  simp only [Bool.false_eq_true, if_false, List.forIn_toArray, List.forIn_cons, List.forIn_nil]
  refine wpAny_bind (wpAny_bind (wpAny_bind (wpAny_holding ?_)))
  show wpAny _ _ (Builtin.SmallTypes.nextOf
        (.ref i1) >>= _) _ _ _
  cases hx : xs[k1]? with
  | none =>
    exact wpAny_bind (nextOf_tuple_end hh (h1.extBut hs₁.extBut D.i1z) (hl1.extBut hs₁.extBut D.l1z) hx fun h₂ e hs₂ he => hE h₂ e (fun c o c1 _ c3 _ x => hs₂ _ _ c3 (hs₁.extBut _ _ c1 x)) he)
  | some x =>
    have hy : ys[k2]?
          = none := by rcases hend with h | h; rw [hx] at h; cases h; exact h
    refine wpAny_bind (nextOf_tuple_item (h1.extBut hs₁.extBut D.i1z) (hl1.extBut hs₁.extBut D.l1z) hx fun h₂ h1₂ hs₂ => wpAny_pure (wpAny_pure ?_))
    refine wpAny_bind (wpAny_bind
          (wpAny_holding ?_))
    show wpAny _ _ (Builtin.SmallTypes.nextOf
          (.ref i2) >>= _) _ _ _
    exact wpAny_bind (nextOf_tuple_end hh ((h2.extBut hs₁.extBut D.i2z).extBut hs₂.extBut D.i12.symm) ((hl2.extBut hs₁.extBut D.l2z).extBut hs₂.extBut D.l2i1) hy fun h₃ e hs₃ he => hE h₃ e (fun c o c1 _ c3 c4 x => hs₃ _ _ c4 (hs₂.extBut _ _ c3 (hs₁.extBut _ _ c1 x))) he)

/-- where zip stands, at whatever place: its own pair free to use, or one handed out that lives -/
def ZSt (h : Heap) (z TI TO i1 i2 l1 l2 S : Addr) (i : Nat) (xs ys : Array Value) : Prop :=
  IsPair h TI (.ref i1) (.ref i2) ∧ h.IsTupleIter i1 l1 i ∧ h.IsTupleIter i2 l2 i ∧ h.IsTuple l1 xs ∧ h.IsTuple l2 ys ∧
    ((IsZip h z TI TO .none ∧ ∃ a b, IsPair h TO a b) ∨ ∃ a f oa, ZipK h z TI TO a f ∧ h.get? a = some oa ∧ a ≠ z ∧ a ≠ i1 ∧ a ≠ i2 ∧ a ≠ S)
theorem ZSt.type {z TI TO i1 i2 l1 l2 S : Addr} {i : Nat} {xs ys : Array Value} (x : ZSt s.heap z TI TO i1 i2 l1 l2 S i xs ys) : s.TypeIs (.ref z) "zip" := by
  obtain ⟨_, _, _, _, _, ⟨h, _⟩ | ⟨_, _, _, h, _⟩⟩ := x
  · exact ⟨_, h, rfl⟩
  · exact ⟨_, h, rfl⟩
/-- the addresses of a zip, all apart from the list that collects -/
structure ZOff (z TI TO i1 i2 l1 l2 S : Addr) : Prop where
  a : z ≠ S
  b : TI ≠ S
  c : TO ≠ S
  d : i1 ≠ S
  e : i2 ≠ S
  f : l1 ≠ S
  g : l2 ≠ S
theorem ZSt.keep {h h' : Heap} {z TI TO i1 i2 l1 l2 S : Addr} {i : Nat} {xs ys : Array Value} (O : ZOff z TI TO i1 i2 l1 l2 S) (x : ZSt h z TI TO i1 i2 l1 l2 S i xs ys) (hk : ∀ b o, b ≠ S → h.get? b = some o → h'.get? b = some o) : ZSt h' z TI TO i1 i2 l1 l2 S i xs ys := by
  obtain ⟨x1, x2, x3, x4, x5, x6⟩ := x
  refine ⟨hk _ _ O.b x1, x2.at fun o e => hk _ _ O.d e, x3.at fun o e => hk _ _ O.e e, x4.at fun o e => hk _ _ O.f e, x5.at fun o e => hk _ _ O.g e, ?_⟩
  rcases x6 with ⟨h1, a, b, h2⟩ | ⟨a, f, oa, h1, h2, h3, h4, h5, h6⟩
  · exact .inl ⟨hk _ _ O.a h1, a, b, hk _ _ O.c h2⟩
  · exact .inr ⟨a, f, oa, hk _ _ O.a h1, hk _ _ h6 h2, h3, h4, h5, h6⟩
theorem zst_item {z TI TO i1 i2 l1 l2 S : Addr} {i : Nat} {xs ys : Array Value} {x y : Value} {Q : Option Value → Shared → Prop} (D : ZipApart z TI TO i1 i2 l1 l2) (hS : S < s.heap.objs.size) (st : ZSt s.heap z TI TO i1 i2 l1 l2 S i xs ys) (hx : xs[i]? = some x) (hy : ys[i]? = some y)
    (hQ : ∀ h', ZSt h' z TI TO i1 i2 l1 l2 S (i + 1) xs ys → IsPair h' s.heap.objs.size x y → h'.objs.size = s.heap.objs.size + 1 →
      (∀ c o, c ≠ z → c ≠ TO → c ≠ i1 → c ≠ i2 → s.heap.get? c = some o → h'.get? c
            = some o) → Q (some (.ref s.heap.objs.size)) { s with heap := h' }) :
    wpAny (model prog w) A
          (pyNext (.ref z)) Q E s := by
  have hT := st.type
  obtain ⟨x1, x2, x3, x4, x5, x6⟩ := st
  have hi1 : i1 < s.heap.objs.size := by obtain ⟨o, e, _⟩ := x2; exact Heap.lt_size e
  have hi2 : i2 < s.heap.objs.size := by obtain ⟨o, e, _⟩ := x3; exact Heap.lt_size e
  rcases x6 with ⟨h1, a, b, h2⟩ | ⟨a, f, oa, h1, h2, h3, h4, h5, h6⟩
  · refine pyNext_zipT_item D h1 x1 h2 x2 x3 x4 x5 hx hy fun h' a1 a2 a3 a4 a5 a6 a7 => hQ h' ⟨a7 _ _ D.TIz D.TITO D.TIi1 D.TIi2 x1, a3, a4, x4.at fun o e => a7 _ _ D.l1z D.l1TO D.l1i1 D.l1i2 e, x5.at fun o e => a7 _ _ D.l2z D.l2TO D.l2i1 D.l2i2 e, .inr ⟨_, false, _, a1, a5, Nat.ne_of_gt (Heap.lt_size h1), Nat.ne_of_gt hi1, Nat.ne_of_gt hi2, Nat.ne_of_gt hS⟩⟩ a5 a6 a7
  · unfold pyNext
    refine wpAny_bind (wpAny_attempt (wpAny_callSpecial?_slot
          (name := Str.ofString "__next__") hT F.slot_zip_next
      (wpAny_call_entry F.slot_zip_next
            hT F.entry_zip_next
        (zk_next_item D h1 h2 h3 x1 x2 x3 x4 x5 hx hy fun h' a1 a3 a4 a5 a6 a7 => wpAny_pure (hQ h' ⟨a7 _ _ D.TIz D.TIi1 D.TIi2 x1, a3, a4, x4.at fun o e => a7 _ _ D.l1z D.l1i1 D.l1i2 e, x5.at fun o e => a7 _ _ D.l2z D.l2i1 D.l2i2 e, .inr ⟨a, true, oa, a1, a7 _ _ h3 h4 h5 h2, h3, h4, h5, h6⟩⟩ a5 a6 fun c o c1 _ c3 c4 e => a7 c o c1 c3 c4 e)) (F.args_zip_next_1 _))))
theorem zst_done {z TI TO i1 i2 l1 l2 S : Addr} {i : Nat} {xs ys : Array Value} {Q : Option Value → Shared → Prop} (hh : A.handled = none) (D : ZipApart z TI TO i1 i2 l1 l2) (st : ZSt s.heap z TI TO i1 i2 l1 l2 S i xs ys) (hend : xs[i]? = none ∨ ys[i]? = none)
    (hQ : ∀ h', (∀ c o, c ≠ z → c ≠ TO → c ≠ i1 → c ≠ i2 → s.heap.get? c = some o → h'.get? c
          = some o) → Q none { s with heap := h' }) : wpAny (model prog w) A (pyNext (.ref z)) Q E s := by
  have hT := st.type
  obtain ⟨x1, x2, x3, x4, x5, x6⟩ := st
  rcases x6 with ⟨h1, a, b, h2⟩ | ⟨a, f, oa, h1, h2, h3, h4, h5, h6⟩
  · exact pyNext_zipT_end hh D h1 x1 h2 x2 x3 x4 x5 hend hQ
  · unfold pyNext
    refine wpAny_bind (wpAny_attempt (wpAny_callSpecial?_slot
          (name := Str.ofString "__next__") hT F.slot_zip_next
      (wpAny_call_entry F.slot_zip_next hT F.entry_zip_next (zk_next_end hh D h1 h2 x1 x2 x3 x4 x5 hend fun h' e hk he => ?_) (F.args_zip_next_1 _))))
    obtain ⟨o, ho, hc⟩ := he
    refine wpAny_bind (wpAny_isInstance (T := "StopIteration")
          (b := true) ⟨o, ho, hc⟩ isSubtype_stop ?_)
    exact wpAny_pure (hQ _ hk)
end
end Mz
namespace Mz
open PySem PySem.Spec PyProof.Rows RZ

/-! ### the list that collects a zip, and tuple(zip(..)) -/
/-- the pairs collected so far -/
structure ZPs (xs ys : Array Value) (lo : Addr) (h : Heap) (as : List Addr) : Prop where
  rise : as.Pairwise (· < ·)
  above : ∀ a ∈ as, lo < a
  pairs : ∀ (j : Nat) (a : Addr), as[j]? = some a → ∃ x y, xs[j]? = some x ∧ ys[j]? = some y ∧ IsPair h a x y
theorem ZPs.there {xs ys : Array Value} {lo : Addr} {h : Heap} {as : List Addr} (g : ZPs xs ys lo h as) {a : Addr} (ha : a ∈ as) : a < h.objs.size := by
  obtain ⟨j, hj⟩ :=
        List.mem_iff_getElem?.mp ha
  obtain ⟨_, _, _, _, e⟩ := g.pairs j a hj
  exact Heap.lt_size e
section
variable {prog : Program} {w : World} {A : Around} {E : Value → Shared → Prop} {s : Shared} {R : Result → Shared → Prop} {xs ys : Array Value}
theorem zip_loop {S z TI TO i1 i2 l1 l2 : Addr} (hh : A.handled = none) (D : ZipApart z TI TO i1 i2 l1 l2) (O : ZOff z TI TO i1 i2 l1 l2 S) (hn : min xs.size ys.size ≤ sizeLine) (res : Value) {h₁ : Heap} {lo : Addr}
    (hlo : z ≤ lo ∧ TO ≤ lo ∧ i1 ≤ lo ∧ i2 ≤ lo ∧ S ≤ lo)
    (hR : ∀ h' tk acc c as, (∀ b o, b ≠ S → b ≠ z → b ≠ TO → b ≠ i1 → b ≠ i2 → h₁.get? b = some o → h'.get? b = some o) → h'.get? S = some { cls := .type "list", dict := none, data := .seq acc c, slots := #[] } → as.length = min xs.size ys.size → ZPs xs ys lo h' as →
      acc.toList = as.map Value.ref → R (.ok
            (.ret res)) { s with heap := h', toks := tk }) :
    ∀ (k i : Nat) (h : Heap) (tk c : Nat) (acc : Array Value) (as : List Addr), min xs.size ys.size - i = k → i ≤ min xs.size ys.size → ZSt h z TI TO i1 i2 l1 l2 S i xs ys → (∀ b o, b ≠ S → b ≠ z → b ≠ TO → b ≠ i1 → b ≠ i2 → h₁.get? b = some o → h.get? b = some o) →
      h.get? S = some { cls := .type "list", dict := none, data := .seq acc c, slots := #[] } → acc.toList = as.map Value.ref → as.length = i → ZPs xs ys lo h as → lo < h.objs.size →
      codeAny (model prog w) A (.builtin "list.extend.loop" ⟨[.ref S, .ref z, res], []⟩) R { s with heap := h, toks := tk } := by
  obtain ⟨o1, o2, o3, o4, o5⟩ := hlo
  intro k
  induction k with
  | zero =>
    intro i h tk c acc as hk hi hst hkeep hS hacc hal hG hIs
    have hin : i = min xs.size ys.size := by omega
    refine codeAny_builtin
          F.entry_extend_loop ?_
    rw [Around.under_plainId
          F.plain_extend_loop _]
    show wpAny _ A.in1 (pyNext (.ref z) >>= _) _ _ _
    have hend : xs[i]? = none ∨ ys[i]? = none := by
      by_cases h : xs.size ≤ ys.size
      · exact .inl (Array.getElem?_eq_none (by omega))
      · exact .inr (Array.getElem?_eq_none (by omega))
    refine wpAny_bind (zst_done (s := { s with heap := h, toks := tk }) (A := A.in1) hh D hst hend fun h' he => ?_)
    refine wpAny_pure (hR h' tk acc c as (fun b o h0 h1 h2 h3 h4 e => he b o h1 h2 h3 h4 (hkeep b o h0 h1 h2 h3 h4 e)) (he S _ (Ne.symm O.a) (Ne.symm O.c) (Ne.symm O.d) (Ne.symm O.e) hS) (by omega) ⟨hG.rise, hG.above, fun j a hj => ?_⟩ hacc)
    obtain ⟨x, y, e1, e2, e3⟩ := hG.pairs j a hj
    have hb := hG.above a (List.mem_of_getElem? hj)
    exact ⟨x, y, e1, e2, he a _ (Nat.ne_of_gt (Nat.lt_of_le_of_lt o1 hb)) (Nat.ne_of_gt (Nat.lt_of_le_of_lt o2 hb)) (Nat.ne_of_gt (Nat.lt_of_le_of_lt o3 hb)) (Nat.ne_of_gt (Nat.lt_of_le_of_lt o4 hb)) e3⟩
  | succ k ih =>
    intro i h tk c acc as hk hi hst hkeep hS hacc hal hG hIs
    have hlt : i < min xs.size ys.size := by omega
    obtain ⟨x, hx⟩ : ∃ x, xs[i]? = some x := ⟨xs[i]'(by omega), Array.getElem?_eq_getElem (by omega)⟩
    obtain ⟨y, hy⟩ : ∃ y, ys[i]? = some y := ⟨ys[i]'(by omega), Array.getElem?_eq_getElem (by omega)⟩
    have hsz : acc.size
          = i := by rw [← Array.length_toList, hacc, List.length_map, hal]
    refine codeAny_builtin
          F.entry_extend_loop ?_
    rw [Around.under_plainId
          F.plain_extend_loop _]
    show wpAny _ A.in1 (pyNext (.ref z) >>= _) _ _ _
    refine wpAny_bind (zst_item (s := { s with heap := h, toks := tk }) (S := S) D (Heap.lt_size hS) hst hx hy fun h' hst' ht hz hkp => ?_)
    dsimp only at ht hz hkp ⊢
    have hS' := hkp S _ (Ne.symm O.a) (Ne.symm O.c) (Ne.symm O.d) (Ne.symm O.e) hS
    have up : ∀ b o, b ≠ S → h'.get? b = some o → (h'.update S (Obj.mapSeq (·.push (Value.ref
          h.objs.size)))).get? b = some o := fun b o hb e => (Heap.get?_update_other _ _ (Ne.symm hb)).trans e
    have hSl : S < h.objs.size
          := Heap.lt_size hS
    show wpAny _ A.in1 (updateSeq S (·.push
          (Value.ref h.objs.size)) >>= _) _ _ _
    refine wpAny_bind ?_
    refine wpAny_updateSeq hS' rfl (wpAny_pure ⟨plainId_quiet F.plain_extend_loop _, ih (i + 1) _ tk _ (acc.push (Value.ref h.objs.size)) (as ++ [h.objs.size]) (by omega) hlt (hst'.keep O up)
      (fun b o h0 h1 h2 h3 h4 e => up b o h0 (hkp b o h1 h2 h3 h4 (hkeep b o h0 h1 h2 h3 h4 e))) (Heap.get?_update_self _ hS' rfl) (by rw [Array.toList_push, hacc, List.map_append]; rfl) (by rw [List.length_append, hal]; rfl) ⟨?_, ?_, ?_⟩ ?_⟩) (by rw [hsz]; omega) (by show (acc.push (Value.ref h.objs.size)).size ≤ sizeLine + 1; rw [Array.size_push, hsz]; omega)
    · refine List.pairwise_append.mpr ⟨hG.rise,
            List.pairwise_singleton _ _, fun a ha b hb => ?_⟩
      rw [List.mem_singleton.mp hb]
      exact hG.there ha
    · intro a ha
      rcases List.mem_append.mp ha
            with ha | ha
      · exact hG.above a ha
      · rw [List.mem_singleton.mp
              ha]; exact hIs
    · intro j b hj
      rcases Nat.lt_trichotomy j as.length
            with h1 | h1 | h1
      · rw [List.getElem?_append_left h1]
              at hj
        obtain ⟨x', y', e1, e2, e3⟩ := hG.pairs j b hj
        have hb := hG.above b
              (List.mem_of_getElem? hj)
        exact ⟨x', y', e1, e2, up b _ (Nat.ne_of_gt (Nat.lt_of_le_of_lt o5 hb)) (hkp b _ (Nat.ne_of_gt (Nat.lt_of_le_of_lt o1 hb)) (Nat.ne_of_gt (Nat.lt_of_le_of_lt o2 hb)) (Nat.ne_of_gt (Nat.lt_of_le_of_lt o3 hb)) (Nat.ne_of_gt (Nat.lt_of_le_of_lt o4 hb)) e3)⟩
      · subst h1
        have hb : h.objs.size
              = b := by simpa using hj
        subst hb
        exact ⟨x, y, by rw [hal]; exact hx, by rw [hal]; exact hy, up _ _ (Nat.ne_of_gt hSl) ht⟩
      · have hnone : (as ++ [h.objs.size])[j]? = none := List.getElem?_eq_none
              (by rw [List.length_append, List.length_singleton]; omega)
        rw [hnone] at hj; cases hj
    · have e : (h'.update S (Obj.mapSeq (·.push (Value.ref
            h.objs.size)))).get? h.objs.size = _ := up _ _ (Nat.ne_of_gt hSl) ht
      exact Nat.lt_trans hIs
            (Heap.lt_size e)

theorem nolen_zip : typeLookup (.type "zip") "__len__" = pure none := by rw [typeLookup_type, builtinLookup_eq_fast]; kernel_rfl
theorem nohint_zip : typeLookup (.type "zip") "__length_hint__" = pure none := by rw [typeLookup_type, builtinLookup_eq_fast]; kernel_rfl
theorem collect_zip {z TI TO i1 i2 l1 l2 : Addr} {Q : List Value → Shared → Prop} (hh : A.handled = none) (D : ZipApart z TI TO i1 i2 l1 l2) (hz : IsZip s.heap z TI TO .none) (hTO : IsPair s.heap TO .none .none) (hTI : IsPair s.heap TI (.ref i1) (.ref i2))
    (h1 : s.heap.IsTupleIter i1 l1 0) (h2 : s.heap.IsTupleIter i2 l2 0) (hl1 : s.heap.IsTuple l1 xs) (hl2 : s.heap.IsTuple l2 ys) (hn : min xs.size ys.size ≤ sizeLine)
    (hQ : ∀ (h' : Heap) (tk : Nat) (as : List Addr), (∀ b o, b ≠ z → b ≠ TO → b ≠ i1 → b ≠ i2 → s.heap.get? b = some o → h'.get? b = some o) → as.length = min xs.size ys.size → ZPs xs ys s.heap.objs.size h' as → Q (as.map Value.ref) { s with heap := h', toks := tk }) :
    wpAny (model prog w) A (collect (.ref z)) Q E s := by
  have lz : z < s.heap.objs.size := Heap.lt_size hz
  have lTI : TI < s.heap.objs.size := Heap.lt_size hTI
  have lTO : TO < s.heap.objs.size := Heap.lt_size hTO
  have li1 : i1 < s.heap.objs.size := by obtain ⟨o, e, _⟩ := h1; exact Heap.lt_size e
  have li2 : i2 < s.heap.objs.size := by obtain ⟨o, e, _⟩ := h2; exact Heap.lt_size e
  have ll1 : l1 < s.heap.objs.size := by obtain ⟨o, e, _⟩ := hl1; exact Heap.lt_size e
  have ll2 : l2 < s.heap.objs.size := by obtain ⟨o, e, _⟩ := hl2; exact Heap.lt_size e
  have hSz : s.heap.objs.size ≠ z := Nat.ne_of_gt lz
  have O : ZOff z TI TO i1 i2 l1 l2 s.heap.objs.size := ⟨Nat.ne_of_lt lz, Nat.ne_of_lt lTI, Nat.ne_of_lt lTO, Nat.ne_of_lt li1, Nat.ne_of_lt li2, Nat.ne_of_lt ll1, Nat.ne_of_lt ll2⟩
  unfold collect
  refine wpAny_bind (wpAny_runValue
        (codeAny_builtin F.entry_proto_collect ?_))
  rw [Around.under_plainId
        F.plain_proto_collect _]
  show wpAny _ A.in1 (newList [] >>= fun l' => again (.builtin "list.__iadd__" ⟨[l', .ref z], []⟩)) _ _ s
  refine wpAny_bind
        (wpAny_newObj_type ?_)
  refine wpAny_pure ⟨plainId_quiet F.plain_list_iadd
        _, codeAny_builtin F.entry_list_iadd ?_⟩
  rw [Around.under_plainId
        F.plain_list_iadd _]
  have hS₁ : (s.heap.push { cls := .type "list", data := .seq ([] : List Value).toArray }).get? s.heap.objs.size
        = some { cls := .type "list", data := .seq ([] : List Value).toArray } := Heap.get?_push_size _ rfl
  have p : ∀ b o, s.heap.get? b = some o → (s.heap.push { cls := .type "list", data := .seq ([] : List Value).toArray }).get? b = some o := fun b o e => Heap.get?_push_of_some _ e
  have st1 : ZSt (s.heap.push { cls := .type "list", data := .seq ([] : List Value).toArray }) z TI TO i1 i2 l1 l2 s.heap.objs.size 0 xs ys := ⟨p _ _ hTI, h1.at fun o e => p _ _ e, h2.at fun o e => p _ _ e, hl1.at fun o e => p _ _ e, hl2.at fun o e => p _ _ e, .inl ⟨p _ _ hz, _, _, p _ _ hTO⟩⟩
  have hT : ({ s with heap := s.heap.push { cls := .type "list", data := .seq ([] : List Value).toArray } } : Shared).TypeIs (.ref z) "zip" := ⟨_, p _ _ hz, rfl⟩
  have e1 : Builtin.List.listSameRef (.ref s.heap.objs.size) (.ref z) = false := by simp [Builtin.List.listSameRef, hSz]
  show wpAny _ A.in1 (Builtin.List.listExtendWith (.ref s.heap.objs.size) (.ref z) (.ref s.heap.objs.size)) _ _ _
  unfold
        Builtin.List.listExtendWith
  refine wpAny_bind
        (wpAny_typeOf hT ?_)
  have e2 : (Value.type "zip" == Value.type "list") = false := by decide
  have e3 : (Value.type "zip" == Value.type "tuple") = false := by decide
  simp only [e1, e2, e3, Bool.or_false, Bool.false_eq_true, if_false]
  refine wpAny_bind (wpAny_pyIter_slot hT F.slot_zip_iter (wpAny_call_entry F.slot_zip_iter hT F.entry_zip_iter ?_ (F.args_zip_iter_1 _)))
  refine wpAny_pure ⟨_, rfl, "zip", _, hT, F.slot_zip_next.lookup, ?_⟩
  refine wpAny_bind
        (wpAny_holding ?_)
  unfold
        Builtin.List.listLengthHint
  refine wpAny_bind (wpAny_specialOf hT nolen_zip ?_)
  show wpAny _ A.in1 (specialOf (Value.ref z) (Str.ofString "__length_hint__") >>= _) _ _ _
  refine wpAny_bind (wpAny_specialOf hT nohint_zip ?_)
  refine wpAny_pure ?_
  show wpAny _ A.in1 (rule "list.extend.makes-room" >>= fun _ =>
        Builtin.List.listTouch (.ref s.heap.objs.size) >>= fun _ =>
    again (.builtin "list.extend.loop" ⟨[.ref s.heap.objs.size, .ref z, .ref s.heap.objs.size], []⟩)) _ _ _
  refine wpAny_bind
        (wpAny_rule ?_)
  refine wpAny_bind ?_
  show wpAny _ A.in1 (updateSeq s.heap.objs.size (·.push .none)
        >>= fun _ => updateSeq s.heap.objs.size (·.pop)) _ _ _
  refine wpAny_bind
        (wpAny_updateSeq hS₁ rfl ?_)
  have hS₂ := Heap.get?_update_self
        (Obj.mapSeq (·.push Value.none)) hS₁ rfl
  refine wpAny_updateSeq
        hS₂ rfl ?_
  have hS₃ := Heap.get?_update_self
        (Obj.mapSeq (·.pop)) hS₂ rfl
  have oth : ∀ b o, b ≠ s.heap.objs.size → (s.heap.push
        { cls := .type "list", data := .seq ([] : List Value).toArray }).get? b = some o →
      (((s.heap.push { cls := .type "list", data := .seq ([] : List Value).toArray }).update s.heap.objs.size
            (Obj.mapSeq (·.push Value.none))).update s.heap.objs.size (Obj.mapSeq (·.pop))).get? b = some o :=
    fun b o hb e => (Heap.get?_update_other _ _ (Ne.symm hb)).trans
          ((Heap.get?_update_other _ _ (Ne.symm hb)).trans e)
  refine wpAny_pure ⟨plainId_quiet F.plain_extend_loop _, zip_loop (s := s) (h₁ := s.heap) (lo := s.heap.objs.size) hh D O hn _ ⟨Nat.le_of_lt lz, Nat.le_of_lt lTO, Nat.le_of_lt li1, Nat.le_of_lt li2, Nat.le_refl _⟩ (fun h' tk acc c as hk hS' hal hG hacc => ?_) _ 0 _ s.toks _ #[] [] rfl (Nat.zero_le _) (st1.keep O oth) (fun b o b0 _ _ _ _ e => oth b o b0 (p b o e)) hS₃ rfl rfl ⟨List.Pairwise.nil, fun a ha => by simp at ha, fun j a hj => by simp at hj⟩ ?_⟩
  · show wpAny _ A (load s.heap.objs.size >>= _) _ _ _
    refine wpAny_bind
          (wpAny_load hS' ?_)
    refine wpAny_pure ?_
    show Q acc.toList _
    rw [hacc]
    exact hQ h' tk as (fun b o b1 b2 b3 b4 e => hk b o (Nat.ne_of_lt (Heap.lt_size e)) b1 b2 b3 b4 e) hal hG
  · exact Heap.lt_size hS₃
theorem code_tuple_new_zip {z TI TO i1 i2 l1 l2 : Addr} {Q₁ : Value → Shared → Prop} (hh : A.handled = none) (D : ZipApart z TI TO i1 i2 l1 l2) (hz : IsZip s.heap z TI TO .none) (hTO : IsPair s.heap TO .none .none) (hTI : IsPair s.heap TI (.ref i1) (.ref i2))
    (h1 : s.heap.IsTupleIter i1 l1 0) (h2 : s.heap.IsTupleIter i2 l2 0) (hl1 : s.heap.IsTuple l1 xs) (hl2 : s.heap.IsTuple l2 ys) (hn : min xs.size ys.size ≤ sizeLine)
    (h : ∀ (h' : Heap) (tk : Nat) (as : List Addr), (∀ b o, b ≠ z → b ≠ TO → b ≠ i1 → b ≠ i2 → s.heap.get? b = some o → h'.get? b = some o) → as.length = min xs.size ys.size → ZPs xs ys s.heap.objs.size h' as →
      Q₁ (.ref h'.objs.size) { s with heap := h'.push { cls := .type "tuple", data := .seq (as.map Value.ref).toArray }, toks := tk }) :
    codeAny (model prog w) A (.call (.builtin "tuple.__new__") ⟨[.type "tuple", .ref z], []⟩) (wants Q₁ E) s := by
  refine codeAny_of_tree ?_
  show wpAny _ A.in1 (do checkBuiltinCall "tuple.__new__" ⟨[.type "tuple", .ref z], []⟩; again (.builtin "tuple.__new__" ⟨[.type "tuple", .ref z], []⟩)) _ _ s
  refine wpAny_bind (wpAny_of_eq (F.newCall_tuple_1 _) (wpAny_pure
        ⟨plainId_quiet F.plain_tuple_new _, codeAny_builtin F.entry_tuple_new ?_⟩))
  rw [Around.under_plainId
        F.plain_tuple_new _]
  have hsub := sub_tuple_self
  have hinit :=
        init_tuple_lookup
  have hmh := madeHere_tuple
  have hTI' : s.TypeIs (.ref z) "zip" := ⟨_, hz, rfl⟩
  have hh1 : A.in1.handled
        = none := hh
  wp_walk using wpAny_typeOf hTI', collect_zip (A := A.in1) hh1 D hz hTO hTI h1 h2 hl1 hl2 hn
  intro h' tk as hk hl hG
  show wpAny _ _ (Builtin.Tuple.tupleExact (as.map Value.ref).toArray >>= fun v => ret v) _ _ _
  unfold
        Builtin.Tuple.tupleExact
  refine wpAny_bind (wpAny_newObj_type ?_ (by show (as.map Value.ref).toArray.size ≤ sizeLine; simp only [List.size_toArray, List.length_map]; omega))
  exact wpAny_pure (h h' tk as hk hl hG)
theorem call_tuple_zip {z TI TO i1 i2 l1 l2 : Addr} {Q : Value → Shared → Prop} (hh : A.handled = none) (D : ZipApart z TI TO i1 i2 l1 l2) (hz : IsZip s.heap z TI TO .none) (hTO : IsPair s.heap TO .none .none) (hTI : IsPair s.heap TI (.ref i1) (.ref i2))
    (h1 : s.heap.IsTupleIter i1 l1 0) (h2 : s.heap.IsTupleIter i2 l2 0) (hl1 : s.heap.IsTuple l1 xs) (hl2 : s.heap.IsTuple l2 ys) (hn : min xs.size ys.size ≤ sizeLine)
    (hQ : ∀ (h' : Heap) (tk : Nat) (as : List Addr), (∀ b o, b ≠ z → b ≠ TO → b ≠ i1 → b ≠ i2 → s.heap.get? b = some o → h'.get? b = some o) → as.length = min xs.size ys.size → ZPs xs ys s.heap.objs.size h' as →
      Q (.ref h'.objs.size) { s with heap := h'.push { cls := .type "tuple", data := .seq (as.map Value.ref).toArray }, toks := tk }) :
    wpAny (model prog w) A (call (.type "tuple") [.ref z]) Q E s := by
  refine callType_codes (Q₁ := fun obj s₁ => s₁.TypeIs obj "tuple"
        ∧ Q obj s₁) F.called_tuple (F.typeCall_tuple_1 _) F.entry_object_init
    (code_tuple_new_zip (A := A.in1) hh D hz hTO hTI h1 h2 hl1 hl2 hn fun h' tk as hk hl hG => ⟨⟨_, Heap.get?_push_size _ rfl, rfl⟩, hQ h' tk as hk hl hG⟩) fun obj s₁ h₁ => ?_
  exact ⟨h₁.1, F.args_object_init_2 obj _, object_init_meets F.called_tuple.init.lookup
        F.called_tuple.made (by decide) prog w A.in1 _ s₁ ⟨h₁.1, rfl, h₁.2⟩⟩
end
end Mz
namespace Mp
open PySem PySem.Spec PyProof.Rows L2 RZ

/-! ### tuple(zip(a, b)) over two tuples: a new tuple of new pairs -/
section
variable {X : Cx} {g : Gx} {pos : Pos}
/-- objects that stand in the heap, untracked, are tracked one after another -/
theorem lay_pairs {pins : List (Addr × Obj)} {st : L2.St} {s : Shared} {h' : Heap} {tk : Nat} : ∀ (as : List Addr) (ps : List (V × V)) (H : Hp) (G : Heap), as.Nodup → Inv X pins st H { s with heap := G, toks := tk } → (∀ b, b ∉ as → G.get? b = h'.get? b) → (∀ b ∈ as, G.get? b = none) → (∀ b ∈ as, H b = none) → as.length = ps.length →
    (∀ (j : Nat) (a : Addr) (p : V × V), as[j]? = some a → ps[j]? = some p → ∃ u v, RelV p.1 u ∧ RelV p.2 v ∧ IsPair h' a u v) →
    ∃ H', Inv X pins st H' { s with heap := h', toks := tk } ∧ (∀ b, b ∉ as → H' b = H b) ∧ ∀ (j : Nat) (a : Addr) (p : V × V), as[j]? = some a → ps[j]? = some p → H' a = some (.tup [p.1, p.2])
  | [], ps, H, G, _, I, e, _, _, _, _ => ⟨H, I.kept (t' := tk) fun b u q => by rw [← e b (by simp)]; exact q, fun _ _ => rfl, fun j a p q => by simp at q⟩
  | a :: as, [], _, _, _, _, _, _, _, l, _ => by simp at l
  | a :: as, p :: ps, H, G, nd, I, e, hn, hH, l, hp => by
    obtain ⟨na, nd'⟩ := List.nodup_cons.mp nd
    obtain ⟨G2, g1, g2⟩ := restrict h' fun b => decide (b ∉ as)
    have g1' : ∀ b, b ∉ as → G2.get? b = h'.get? b := fun b hb => g1 b (decide_eq_true hb)
    have g2' : ∀ b ∈ as, G2.get? b = none := fun b hb => g2 b (decide_eq_false fun q => q hb)
    obtain ⟨u, v, ru, rv, hT⟩ := hp 0 a p rfl rfl
    have k : ∀ b o, G.get? b = some o → G2.get? b = some o := fun b o q => by
      have hb : b ∉ a :: as := fun z => by rw [hn b z] at q; cases q
      rw [g1' b fun z => hb (List.mem_cons_of_mem _ z), ← e b hb]
      exact q
    have hT2 : IsPair G2 a u v := (g1' a na).trans hT
    have I2 : Inv X pins st (upd H a (.tup [p.1, p.2])) { s with heap := G2, toks := tk } := Inv.laidN (s := { s with heap := G, toks := tk }) (t' := tk) I k (hn a List.mem_cons_self) (hH a List.mem_cons_self)
      (show ObjOk X.prog X.w _ G2 a (.tup [p.1, p.2]) from ⟨by show 2 ≤ sizeLine; decide, [u, v], .cons ru (.cons rv .nil), ⟨_, hT2, rfl, _, rfl⟩⟩)
    have ne : ∀ b ∈ as, b ≠ a := fun b hb z => na (z ▸ hb)
    obtain ⟨H', I3, q1, q2⟩ := lay_pairs as ps _ G2 nd' I2 g1' g2' (fun b hb => by rw [upd_ne (ne b hb)]; exact hH b (List.mem_cons_of_mem _ hb)) (by simpa using l) fun j a' p' x y => hp (j + 1) a' p' x y
    refine ⟨H', I3, fun b hb => ?_, fun j a' p' x y => ?_⟩
    · rw [q1 b fun z => hb (List.mem_cons_of_mem _ z), upd_ne fun z => hb (by rw [z]; exact List.mem_cons_self)]
    · cases j with
      | zero =>
        cases x
        cases y
        rw [q1 a na]
        exact upd_same
      | succ j => exact q2 j a' p' x y

/-- the reading of tuple(zip(a, b)) -/
def tTupZip (K : PySem.W.Frag) (ta : TA) : TE := fun st H Q => ta st H fun vs H1 => ∃ a b xs ys, vs = [.ref a, .ref b] ∧ SqT K H1 a xs ∧ SqT K H1 b ys ∧
  ∀ (as : List Addr) (H2 : Hp) (q : Addr), as.length = min xs.length ys.length → as.length ≤ sizeLine → (∀ b ∈ as, H1 b = none) → (∀ b, b ∉ as → H2 b = H1 b) →
    (∀ (j : Nat) (a : Addr) (x y : V), as[j]? = some a → xs[j]? = some x → ys[j]? = some y → H2 a = some (.tup [x, y])) → H2 q = none → Q (.ref q) (upd H2 q (.tup (as.map .ref)))
theorem vals_addrs : ∀ (as : List Addr), Vals (as.map V.ref) (as.map Value.ref)
  | [] => .nil
  | _ :: as => .cons rfl (vals_addrs as)
theorem pe_tupZip {e e2 : Expr} {ta : TA} {p p2 pos2 : Pos} (hc : X.calm = true) (hg : Gl X "tuple") (hm : X.mg "tuple" = none) (hg2 : Gl X "zip") (hm2 : X.mg "zip" = none) (ha : PA X [e, e2] ta)
    (hs : starEach [e, e2] X.env = (false, eval e X.env) :: starEach [e2] X.env := by rfl) (hpl : (backTo pos2 (starEach [e2] X.env)).any (·.1) = false := by rfl)
    (hs2 : starEach [.Call (.Name "zip" p2) [e, e2] [] pos2] X.env = (false, eval (.Call (.Name "zip" p2) [e, e2] [] pos2) X.env) :: starEach [] X.env := by rfl) :
    PE X (.Call (.Name "tuple" p) [.Call (.Name "zip" p2) [e, e2] [] pos2] [] pos) (tTupZip X.K ta) := by
  refine ⟨fun pins s
        σ H Q I h => ?_⟩
  refine Call_ (ld_blt I hg hm boot_tuple (PyProof.Rows.callWith_type1 (args_cons (Call_ (ld_blt I hg2 hm2 PyProof.Rows.boot_zip (PyProof.Rows.callWith_type1 (thn (ha.run pos2 pins s σ H _ I h) fun us s1 ⟨vs, H1, I1, r1, q1⟩ => ?_) hs hpl))) hs2) hs2 rfl))
  obtain ⟨a, b, xs, ys,
        ex, hqx, hqy, q⟩ := q1
  subst ex
  cases r1 with
  | cons r rr =>
    cases rr with
    | cons r' rr =>
      cases rr
      cases r
      cases r'
      obtain ⟨its, rv, p1, hzx⟩ := I1.tuple hqx
      obtain ⟨its2, rv2, p3, hzy⟩ := I1.tuple hqy
      obtain ⟨o1, ho1, _⟩ := id p1
      obtain ⟨o2, ho2, _⟩ := id p3
      have D := PySem.W.ktu_apart s1.heap.objs.size a b (Heap.lt_size ho1) (Heap.lt_size ho2)
      refine call_zipT (show s1.heap.IsTuple a its.toArray from p1) (show s1.heap.IsTuple b its2.toArray from p3) fun h0 hz hTI hTO h1 h2 hsz hk => args_nil ?_
      have t1 : h0.IsTuple a its.toArray := (show s1.heap.IsTuple a its.toArray from p1).at fun o e => hk _ _ e
      have t2 : h0.IsTuple b its2.toArray := (show s1.heap.IsTuple b its2.toArray from p3).at fun o e => hk _ _ e
      have lx := rv.length
      have ly := rv2.length
      have hn : min its.toArray.size its2.toArray.size ≤ sizeLine := by simp only [List.size_toArray]; omega
      refine Mz.call_tuple_zip (s := { s1 with heap := h0 }) (I1.ok.hd hc) D hz hTO hTI h1 h2 t1 t2 hn fun h' tk as hk' hl hG => ?_
      dsimp only at hk' hG ⊢
      have above : ∀ c ∈ as, s1.heap.objs.size + 5 < c := fun c hcm => by have := hG.above c hcm; rw [hsz] at this; exact this
      have hHn : ∀ c ∈ as, H1 c = none := fun c hcm => I1.hok.fresh (Nat.le_of_lt (Nat.lt_of_le_of_lt (Nat.le_add_right _ 5) (above c hcm)))
      obtain ⟨G, g1, g2⟩ := restrict h' fun b => decide (b ∉ as)
      have g1' : ∀ b, b ∉ as → G.get? b = h'.get? b := fun b hb => g1 b (decide_eq_true hb)
      have I2 : Inv X pins σ H1 { s1 with heap := G, toks := tk } := I1.kept (t' := tk) fun c u e => by
        have hlt : c < s1.heap.objs.size := Heap.lt_size e
        rw [g1' c fun z => Nat.lt_irrefl c (Nat.lt_trans hlt (Nat.lt_of_le_of_lt (Nat.le_add_right _ 5) (above c z)))]
        exact hk' c u (Nat.ne_of_lt (Nat.lt_of_lt_of_le hlt (Nat.le_add_right _ 4))) (Nat.ne_of_lt (Nat.lt_of_lt_of_le hlt (Nat.le_add_right _ 3))) (Nat.ne_of_lt hlt) (Nat.ne_of_lt (Nat.lt_of_lt_of_le hlt (Nat.le_add_right _ 1))) (hk c u e)
      have nd : as.Nodup := hG.rise.imp fun h => Nat.ne_of_lt h
      obtain ⟨ps, hps⟩ : ∃ ps : List (V × V), ps = List.zip xs ys := ⟨_, rfl⟩
      have lps : as.length = ps.length := by rw [hl, hps, List.length_zip, List.size_toArray, List.size_toArray, lx, ly]
      obtain ⟨H2, I3, e1, e2⟩ := lay_pairs (h' := h') as ps H1 G nd I2 g1' (fun c hcm => g2 c (decide_eq_false fun z => z hcm)) hHn lps fun j c pr x y => by
        rw [hps, List.getElem?_zip_eq_some] at y
        obtain ⟨u, v, f1, f2, f3⟩ := hG.pairs j c x
        obtain ⟨u', f4, f5⟩ := rv.get y.1
        obtain ⟨v', f6, f7⟩ := rv2.get y.2
        have f1' : its[j]? = some u := by simpa using f1
        have f2' : its2[j]? = some v := by simpa using f2
        rw [f4] at f1'
        rw [f6] at f2'
        cases f1'
        cases f2'
        exact ⟨_, _, f5, f7, f3⟩
      have lz : as.length ≤ sizeLine := by rw [hl]; exact hn
      refine ⟨.ref h'.objs.size, upd H2 h'.objs.size (.tup (as.map .ref)), I3.laid (t' := tk) (fun c o e => Heap.get?_push_of_some _ e) (Nat.le_refl _) (show ObjOk X.prog X.w _ _ _ (.tup (as.map .ref)) from ⟨by rw [List.length_map]; exact lz, as.map Value.ref, vals_addrs as, IsTup.new _ _⟩), rfl,
        q as H2 _ (by rw [hl, List.size_toArray, List.size_toArray, lx, ly]) lz hHn e1 (fun j c x y z1 z2 z3 => e2 j c (x, y) z1 (by rw [hps, List.getElem?_zip_eq_some]; exact ⟨z2, z3⟩)) (I3.hok.fresh (Nat.le_refl _))⟩

theorem RVs.of_get {r : List Addr} {H : Hp} : ∀ {xs : List Val} {vs : List V}, xs.length = vs.length → (∀ (j : Nat) x v, xs[j]? = some x → vs[j]? = some v → RV g r H x v) → RVs g r H xs vs
  | [], [], _, _ => .nil
  | [], _ :: _, e, _ => by simp at e
  | _ :: _, [], e, _ => by simp at e
  | x :: xs, v :: vs, e, h => .cons (h 0 x v rfl rfl) (RVs.of_get (by simpa using e) fun j a b p q => h (j + 1) a b p q)
/-- tuple(zip(a, b)) -/
def eTupZip (a b : ME) : ME := fun sl S => (a sl S).bind fun p => (b sl p.2).bind fun q => (tupOf p.1).bind fun xs => (tupOf q.1).map fun ys => (.tup (zipL xs ys), q.2)
theorem d_tupZip {e e2 : Expr} {m m2 : ME} {p p2 pos2 : Pos} (hK : g.K = X.K) (hc : X.calm = true) (hg : Gl X "tuple") (hm : X.mg "tuple" = none) (hg2 : Gl X "zip") (hm2 : X.mg "zip" = none) (ha : PE X e (tD g m)) (hb : PE X e2 (tD g m2))
    (hs : starEach [e, e2] X.env = (false, eval e X.env) :: starEach [e2] X.env := by rfl) (hs' : starEach [e2] X.env = (false, eval e2 X.env) :: starEach [] X.env := by rfl) (hpl : (backTo pos2 (starEach [e2] X.env)).any (·.1) = false := by rfl)
    (hs2 : starEach [.Call (.Name "zip" p2) [e, e2] [] pos2] X.env = (false, eval (.Call (.Name "zip" p2) [e, e2] [] pos2) X.env) :: starEach [] X.env := by rfl) :
    PE X (.Call (.Name "tuple" p) [.Call (.Name "zip" p2) [e, e2] [] pos2] [] pos) (tD g (eTupZip m m2)) := by
  refine PE.weak (pe_tupZip hc hg hm hg2 hm2 (d_cons ha (d_cons hb d_nil hs') hs) hs hpl hs2) fun st H Q h => ?_
  obtain ⟨z, r, S, sl, v, S', R0, e, q⟩ := h
  simp only [eTupZip, Option.bind_eq_some_iff, Option.map_eq_some_iff] at e
  obtain ⟨⟨v1, S1⟩, e1, ⟨w, S2⟩, e3, xs, f1, ys, f2, f3⟩ := e
  cases f3
  dsimp only at e3 f1 f2 q
  refine ⟨z, r, S, sl, [v1, w], S2, R0, by simp [esCons, esNil, e1, e3], fun r1 H1 hv s1 sr1 rv => ?_⟩
  cases rv with
  | cons a b =>
    cases b with
    | cons b c =>
      cases c
      obtain ⟨p, vs, rfl, h1, h2, h3⟩ := tupOf_at a f1
      obtain ⟨p', ws, rfl, k1, k2, k3⟩ := tupOf_at b f2
      have h1' := h1
      have k1' := k1
      rw [show (g.at z).K = X.K from hK] at h1' k1'
      refine ⟨_, _, _, _, rfl, h1', k1', fun as H2 q' la lz hn ho hp hq => ?_⟩
      have more : ∀ b o, H1 b = some o → H2 b = some o := fun b o e => by
        rw [ho b fun hb => by rw [hn b hb] at e; cases e]
        exact e
      have s2 : Step r1 H1 r1 H2 := ⟨fun b o e _ => more b o e, ⟨[], by simp⟩, fun _ x => .inl x, fun b o u e => more b _ e⟩
      have sr2 : SR (g.at z) r1 H2 _ := sr1.more more
      have h3' := h3.mono s2 sr1.own
      have k3' := k3.mono s2 sr1.own
      have rs : RVs (g.at z) r1 H2 (zipL xs ys) (as.map .ref) := by
        refine RVs.of_get ?_ fun j x v hx hv => ?_
        · rw [zipL_len, List.length_map, la, h3.length, k3.length]
        · obtain ⟨x1, y1, hx1, hy1, rfl⟩ := zipL_get _ _ _ _ hx
          rw [List.getElem?_map, Option.map_eq_some_iff] at hv
          obtain ⟨c, hc1, rfl⟩ := hv
          obtain ⟨v1, hv1, rv1⟩ := h3'.get hx1
          obtain ⟨v2, hv2, rv2⟩ := k3'.get hy1
          exact .tup (.inl (.inl (hp j c v1 v2 hc1 hv1 hv2))) (by show 2 ≤ sizeLine; decide) (.cons rv1 (.cons rv2 .nil))
      exact q r1 _ _ (s1.trans (s2.trans (Step.new1 hq))) (sr2.beside hq) (RV.newT sr2 hq (by rw [zipL_len, h3.length, k3.length, ← la]; exact lz) rs)
end
end Mp
namespace Mp
open PySem PySem.Spec
      PyProof.Rows L2

/-! ### a comprehension's conditions: none, one -/
/-- no condition -/
def tYesM : MT := fun _ S => some (true, S)
section
variable {X : Cx} {g : Gx}
theorem dts_nil : PTs X [] (tDt g tYesM) := by
  refine ⟨fun pins s st H Q I h => pts_nil.run pins s st H Q I ?_⟩
  obtain ⟨z, r, S, sl, v, S', R, e, q⟩ := h
  cases e
  exact q r H (.refl r H) R.sr
theorem dts_one {c : Expr} {t : MT} (h : PT X c (tDt g t)) : PTs X [c] (tDt g t) := pts_one h
end
end Mp
namespace K5
open PySem PySem.Spec PyProof.Rows L2 Mp
abbrev NK := NestedKey

/-! ### keys: data, equality, membership -/
theorem toDS_ofK (S : Sto) : ∀ k : NK, toDS S (ofK k) = toD (ofK k)
  | .none => rfl
  | .num _ => rfl
  | .text _ => rfl
  | .tup _ => rfl
mutual
theorem toD_ofK : ∀ k : NK, toD (ofK k) = some k.data
  | .none => rfl
  | .num _ => rfl
  | .text _ => rfl
  | .tup ks => by rw [ofK, toD, toDs_ofKs ks]; rfl
theorem toDs_ofKs : ∀ ks : List NK, toDs (ofKs ks) = some (NestedKey.datas ks)
  | [] => rfl
  | k :: ks => by rw [ofKs, toDs, toD_ofK k, toDs_ofKs ks]; rfl
end
mutual
theorem eqv_self : ∀ a : NK, PyData.eqv a.data a.data = true
  | .none => by simp [NestedKey.data, PyData.eqv]
  | .num i => by simp [NestedKey.data, PyData.eqv]
  | .text x => by simp [NestedKey.data, PyData.eqv]
  | .tup ks => by simpa [NestedKey.data, PyData.eqv] using eqvs_self ks
theorem eqvs_self : ∀ a : List NK, PyData.eqvAll (NestedKey.datas a) (NestedKey.datas a) = true
  | [] => by simp [NestedKey.datas, PyData.eqvAll]
  | k :: ks => by simp [NestedKey.datas, PyData.eqvAll, eqv_self k, eqvs_self ks]
end
theorem eqv_iff (a b : NK) : PyData.eqv a.data b.data = decide (a = b) := by
  by_cases h : a = b
  · subst h; simp [eqv_self]
  · simp only [h, decide_false]
    cases e : PyData.eqv a.data b.data with
    | false => rfl
    | true => exact absurd (eqv_keys a b e) h
theorem eqvs_iff (a b : List NK) : PyData.eqvAll (NestedKey.datas a) (NestedKey.datas b) = decide (a = b) := by
  by_cases h : a = b
  · subst h; simp [eqvs_self]
  · simp only [h, decide_false]
    cases e : PyData.eqvAll (NestedKey.datas a) (NestedKey.datas b) with
    | false => rfl
    | true => exact absurd (eqv_keyss a b e) h
theorem datas_eq (ks : List NK) : NestedKey.datas ks = ks.map NestedKey.data := by
  induction ks with
  | nil => rfl
  | cons k ks ih => rw [NestedKey.datas, ih]; rfl
/-- a key that may be asked for anything here: its texts are fine, it is not deep -/
def Fine (k : NK) : Prop := k.data.canLay0 = true ∧ k.depth ≤ 6
theorem canLayAll0_of : ∀ {ks : List NK}, (∀ k ∈ ks, k.data.canLay0 = true) → PyData.canLayAll0 (NestedKey.datas ks) = true
  | [], _ => rfl
  | k :: ks, h => by
    rw [NestedKey.datas, PyData.canLayAll0, h k List.mem_cons_self, canLayAll0_of fun x hx => h x (List.mem_cons_of_mem _ hx)]
    rfl
theorem fEq_ofK {neg : Bool} {S : Sto} {a b : NK} (ha : Fine a) (hb : Fine b) : fEq neg S (ofK a) (ofK b) = some (.bl (neg ^^ decide (a = b))) := by
  have e : eqOk a.data b.data = true := by
    unfold eqOk
    rw [ha.1, hb.1, data_depth, data_depth]
    have := ha.2
    simp only [Bool.true_and, decide_eq_true_eq]
    omega
  simp only [fEq, toDS_ofK, toD_ofK, Option.bind_some, e, if_true, eqv_iff]
theorem fEq_lst {neg : Bool} {S : Sto} {a b : List NK} (ha : ∀ k ∈ a, Fine k) (hb : ∀ k ∈ b, Fine k) (hd : (PyData.list (NestedKey.datas a)).depth ≤ 64) : fEq neg S (.lst (ofKs a)) (.lst (ofKs b)) = some (.bl (neg ^^ decide (a = b))) := by
  have e : eqOk (PyData.list (NestedKey.datas a)) (PyData.list (NestedKey.datas b)) = true := by
    unfold eqOk
    simp only [PyData.canLay0, canLayAll0_of fun k hk => (ha k hk).1, canLayAll0_of fun k hk => (hb k hk).1, Bool.true_and, decide_eq_true_eq]
    omega
  have d1 : toDS S (.lst (ofKs a)) = some (.list (NestedKey.datas a)) := by simp [toDS, toD, toDs_ofKs]
  have d2 : toDS S (.lst (ofKs b)) = some (.list (NestedKey.datas b)) := by simp [toDS, toD, toDs_ofKs]
  simp only [fEq, d1, d2, Option.bind_some, e, if_true, PyData.eqv, eqvs_iff]
theorem any_eqv (a : NK) (ks : List NK) : ((NestedKey.datas ks).any fun z => PyData.eqv z a.data) = decide (a ∈ ks) := by
  rw [datas_eq, List.any_map]
  induction ks with
  | nil => simp
  | cons k ks ih =>
    rw [List.any_cons, ih]
    simp only [Function.comp, eqv_iff, List.mem_cons]
    by_cases h : k = a
    · subst h; simp
    · simp [h, Ne.symm h]
theorem fIn_core {neg : Bool} {S : Sto} {a : NK} {ks : List NK} {d : PyData} (hd : itemsD d = some (NestedKey.datas ks)) (ha : Fine a) (hk : ∀ k ∈ ks, Fine k) : ((toDS S (ofK a)).bind fun d' => (some d).bind fun e => (itemsD e).bind fun ds => if d'.canLay0 && PyData.canLayAll0 ds && decide (min (PyData.depthAll ds) d'.depth ≤ 64) then some (Val.bl (neg ^^ (ds.any fun z => PyData.eqv z d'))) else none) = some (.bl (neg ^^ decide (a ∈ ks))) := by
  have e : (a.data.canLay0 && PyData.canLayAll0 (NestedKey.datas ks) && decide (min (PyData.depthAll (NestedKey.datas ks)) a.data.depth ≤ 64)) = true := by
    rw [ha.1, canLayAll0_of fun k hk' => (hk k hk').1, data_depth]
    have := ha.2
    simp only [Bool.true_and, decide_eq_true_eq]
    omega
  simp only [toDS_ofK, toD_ofK, Option.bind_some, hd, e, if_true, any_eqv]
theorem fIn_tup {neg : Bool} {S : Sto} {a : NK} {ks : List NK} (ha : Fine a) (hk : ∀ k ∈ ks, Fine k) : fIn neg S (ofK a) (.tup (ofKs ks)) = some (.bl (neg ^^ decide (a ∈ ks))) := by
  have h := fIn_core (neg := neg) (S := S) (d := .tuple (NestedKey.datas ks)) rfl ha hk
  have d1 : toDS S (.tup (ofKs ks)) = some (.tuple (NestedKey.datas ks)) := by simp [toDS, toD, toDs_ofKs]
  unfold fIn
  split
  · rename_i h2; cases h2
  · rw [d1]; exact h
theorem fIn_lst {neg : Bool} {S : Sto} {a : NK} {ks : List NK} (ha : Fine a) (hk : ∀ k ∈ ks, Fine k) : fIn neg S (ofK a) (.lst (ofKs ks)) = some (.bl (neg ^^ decide (a ∈ ks))) := by
  have h := fIn_core (neg := neg) (S := S) (d := .list (NestedKey.datas ks)) rfl ha hk
  have d1 : toDS S (.lst (ofKs ks)) = some (.list (NestedKey.datas ks)) := by simp [toDS, toD, toDs_ofKs]
  unfold fIn
  split
  · rename_i h2; cases h2
  · rw [d1]; exact h
theorem fIn_ptp {neg : Bool} {S : Sto} {a : NK} {ks : List NK} (ha : Fine a) (hk : ∀ k ∈ ks, Fine k) : fIn neg S (ofK a) (.ptp (ofKs ks)) = some (.bl (neg ^^ decide (a ∈ ks))) := by
  have h := fIn_core (neg := neg) (S := S) (d := .tuple (NestedKey.datas ks)) rfl ha hk
  have d1 : toDS S (.ptp (ofKs ks)) = some (.tuple (NestedKey.datas ks)) := by simp [toDS, toD, toDs_ofKs]
  unfold fIn
  split
  · rename_i h2; cases h2
  · rw [d1]; exact h

/-! ### walks that leave the store as it is -/
theorem filter_yes {α : Type} (l : List α) : (l.filter fun _ => true) = l := by
  induction l with
  | nil => rfl
  | cons a l ih => rw [List.filter_cons, if_pos rfl, ih]
theorem lc_pure {α : Type} {i : Nat} {tt : MT} {m : ME} {s : Src} {sl : Sl} {S : Sto} (f : α → Val) (p : α → Bool) (h : α → Val) (hs : s.ok S = true) : ∀ (l : List α), (∀ x ∈ l, tt (sl.set i (some (f x))) S = some (p x, S)) → (∀ x ∈ l, p x = true → m (sl.set i (some (f x))) S = some (h x, S)) →
    lcX (.nm i) tt m s sl (l.map f) S = some ((l.filter p).map h, S)
  | [], _, _ => by simp [lcX, hs]
  | x :: l, h2, h3 => by
    have ih := lc_pure f p h hs l (fun y hy => h2 y (List.mem_cons_of_mem _ hy)) (fun y hy => h3 y (List.mem_cons_of_mem _ hy))
    have a := h2 x List.mem_cons_self
    have b := h3 x List.mem_cons_self
    cases hp : p x with
    | true =>
      rw [hp] at a
      simp only [List.map_cons, lcX, hs, if_true, Tn.m, gNm, Option.bind_some, a, b hp, ih, List.filter_cons, hp]
    | false =>
      rw [hp] at a
      simp only [List.map_cons, lcX, hs, if_true, Tn.m, gNm, Option.bind_some, a, ih, List.filter_cons, hp, Bool.false_eq_true, if_false]
theorem eLc_pure {α : Type} {i : Nat} {it : MI} {tt : MT} {m : ME} {vs : List Nat} {sl : Sl} {S : Sto} (l : List α) (f : α → Val) (p : α → Bool) (h : α → Val) (hit : it sl S = some (⟨l.map f, none⟩, S)) (h2 : ∀ x ∈ l, tt ((wipeS sl vs).set i (some (f x))) S = some (p x, S)) (h3 : ∀ x ∈ l, p x = true → m ((wipeS sl vs).set i (some (f x))) S = some (h x, S)) :
    eLc (.nm i) it tt m vs sl S = some (.lst ((l.filter p).map h), S) := by
  simp only [eLc, hit, Option.bind_some, lc_pure f p h (s := ⟨l.map f, none⟩) rfl l h2 h3]
theorem eLc_all {α : Type} {i : Nat} {it : MI} {m : ME} {vs : List Nat} {sl : Sl} {S : Sto} (l : List α) (f : α → Val) (h : α → Val) (hit : it sl S = some (⟨l.map f, none⟩, S)) (h3 : ∀ x ∈ l, m ((wipeS sl vs).set i (some (f x))) S = some (h x, S)) :
    eLc (.nm i) it tYesM m vs sl S = some (.lst (l.map h), S) := by
  rw [eLc_pure l f (fun _ => true) h hit (fun _ _ => rfl) fun x hx _ => h3 x hx, filter_yes]
theorem lc2_pure {α β : Type} {i j : Nat} {it1 : MI} {m : ME} {vs1 : List Nat} {s : Src} {sl : Sl} {S : Sto} (f : α → Val) (inner : α → List β) (f1 : β → Val) (h : α → β → Val) (hs : s.ok S = true) : ∀ (l : List α), (∀ x ∈ l, it1 (sl.set i (some (f x))) S = some (⟨(inner x).map f1, none⟩, S)) →
    (∀ x ∈ l, ∀ y ∈ inner x, m ((wipeS (sl.set i (some (f x))) vs1).set j (some (f1 y))) S = some (h x y, S)) → lc2X (.nm i) tYesM it1 (.nm j) tYesM m vs1 s sl (l.map f) S = some (l.flatMap (fun x => (inner x).map (h x)), S)
  | [], _, _ => by simp [lc2X, hs]
  | x :: l, h2, h3 => by
    have ih := lc2_pure f inner f1 h hs l (fun y hy => h2 y (List.mem_cons_of_mem _ hy)) (fun y hy => h3 y (List.mem_cons_of_mem _ hy))
    have a := h2 x List.mem_cons_self
    have b := lc_pure (i := j) (tt := tYesM) (m := m) (s := ⟨(inner x).map f1, none⟩) (sl := wipeS (sl.set i (some (f x))) vs1) (S := S) f1 (fun _ => true) (h x) rfl (inner x) (fun _ _ => rfl) fun y hy _ => h3 x List.mem_cons_self y hy
    rw [filter_yes] at b
    simp only [List.map_cons, lc2X, hs, if_true, Tn.m, gNm, Option.bind_some, tYesM, a, ih, List.flatMap_cons]
    rw [b]
    simp only [Option.bind_some, ih]
theorem eLc2_pure {α β : Type} {i j : Nat} {it it1 : MI} {m : ME} {vs vs1 : List Nat} {sl : Sl} {S : Sto} (l : List α) (f : α → Val) (inner : α → List β) (f1 : β → Val) (h : α → β → Val) (hit : it sl S = some (⟨l.map f, none⟩, S)) (h2 : ∀ x ∈ l, it1 ((wipeS sl vs).set i (some (f x))) S = some (⟨(inner x).map f1, none⟩, S))
    (h3 : ∀ x ∈ l, ∀ y ∈ inner x, m ((wipeS ((wipeS sl vs).set i (some (f x))) vs1).set j (some (f1 y))) S = some (h x y, S)) (hl : (l.flatMap fun x => (inner x).map (h x)).length ≤ sizeLine) : eLc2 (.nm i) it tYesM it1 (.nm j) tYesM m vs vs1 sl S = some (.lst (l.flatMap fun x => (inner x).map (h x)), S) := by
  simp only [eLc2, hit, Option.bind_some, lc2_pure f inner f1 h (s := ⟨l.map f, none⟩) rfl l h2 h3, hl, if_true]
/-- a for that goes through, with what holds between its turns -/
theorem for_inv {α : Type} {tg : MG} {body : MS} {s : Src} (P : Sl → Sto → Prop) (hs : s.n = none) (f : α → Val) : ∀ (l : List α) {sl : Sl} {S : Sto}, (∀ x ∈ l, ∀ sl S, P sl S → ∃ sl1 sl2 S2, tg sl S (f x) = some sl1 ∧ body sl1 S = some (.nxt, sl2, S2) ∧ P sl2 S2) → P sl S →
    ∃ sl' S', forX tg body s (l.map f) sl S = some (.nxt, sl', S') ∧ P sl' S'
  | [], sl, S, _, hP => ⟨sl, S, by simp [forX, Src.ok, hs], hP⟩
  | x :: l, sl, S, h, hP => by
    obtain ⟨sl1, sl2, S2, e1, e2, hP2⟩ := h x List.mem_cons_self sl S hP
    obtain ⟨sl', S', e, hQ⟩ := for_inv P hs f l (fun y hy => h y (List.mem_cons_of_mem _ hy)) hP2
    exact ⟨sl', S', by simp only [List.map_cons, forX, Src.ok, hs, if_true, e1, Option.bind_some, e2, e], hQ⟩
/-- a comprehension whose parts change the store, with what holds so far -/
theorem lc_step {N i : Nat} {m : ME} {s : Src} {sl : Sl} (I : List Val → Sto → Prop) (hs : s.n = none) : ∀ (l : List Val) {done : List Val} {S : Sto}, (∀ x ∈ l, ∀ done S, done.length < N → I done S → ∃ v S', m (sl.set i (some x)) S = some (v, S') ∧ I (done ++ [v]) S') → done.length + l.length ≤ N → I done S →
    ∃ vs S', lcX (.nm i) tYesM m s sl l S = some (vs, S') ∧ I (done ++ vs) S' ∧ vs.length = l.length
  | [], done, S, _, _, h => ⟨[], S, by simp [lcX, Src.ok, hs], by simpa using h, rfl⟩
  | x :: l, done, S, st, hl, h => by
    obtain ⟨v, S1, e1, h1⟩ := st x List.mem_cons_self done S (by simp at hl; omega) h
    obtain ⟨vs, S2, e2, h2, h3⟩ := lc_step I hs l (fun y hy => st y (List.mem_cons_of_mem _ hy)) (by simp at hl ⊢; omega) h1
    refine ⟨v :: vs, S2, ?_, by simpa using h2, by simp [h3]⟩
    simp only [lcX, Src.ok, hs, if_true, Tn.m, gNm, Option.bind_some, tYesM, e1]
    rw [e2]
    rfl

/-! ### tables -/
abbrev txt (x : Str) : NK := .text x
def pK (i c : Str) : NK := .tup [.text i, .text c]
def rK (r : List Str) : NK := .tup (r.map txt)
theorem rK_inj {a b : List Str} (h : rK a = rK b) : a = b := by
  have e : a.map txt = b.map txt := by injection h
  have q : ∀ a b : List Str, a.map txt = b.map txt → a = b := fun a => by
    induction a with
    | nil => intro b e; cases b with
      | nil => rfl
      | cons y b => simp at e
    | cons x a ih => intro b e; cases b with
      | nil => simp at e
      | cons y b =>
        simp only [List.map_cons, List.cons.injEq, NestedKey.text.injEq] at e
        rw [e.1, ih b e.2]
  exact q a b e
theorem pK_inj {a b c d : Str} (h : pK a b = pK c d) : a = c ∧ b = d := by
  have e : [NestedKey.text a, NestedKey.text b] = [NestedKey.text c, NestedKey.text d] := by injection h
  simp at e
  exact e
structure Tab where
  items : List Str
  rows : List (List Str)
def poolH : List Str := ["a", "door", "room", "time", "zzzzzzzz"]
def poolW : List Str := ["x", "y", "z", "big", "abcdefgh"]
def wideH : List Str := ["a", "door", "room", "time", "zzzzzzzz", "zone"]
def wideW : List Str := ["x", "y", "z", "big", "abcdefgh", "near", "wide"]
theorem poolH_in : ∀ x ∈ poolH, x ∈ wideH := by decide
theorem poolW_in : ∀ x ∈ poolW, x ∈ wideW := by decide
structure Tab.Ok (T : Tab) : Prop where
  nd : T.items.Nodup
  it : ∀ i ∈ T.items, i ∈ wideH
  len : ∀ r ∈ T.rows, r.length = T.items.length
  wd : ∀ r ∈ T.rows, ∀ c ∈ r, c ∈ wideW
  few : T.rows.length ≤ 24
theorem wideH_ok : ∀ x ∈ wideH, PyData.strOk x = true := by decide +kernel
theorem wideW_ok : ∀ x ∈ wideW, PyData.strOk x = true := by decide +kernel
def prs (T : Tab) (r : List Str) : List NK := List.zipWith pK T.items r
def allP (T : Tab) : List NK := T.rows.flatMap (prs T)
def pairsOf (T : Tab) : List NK := sortKeys (allP T)
def struckB (T : Tab) (r : List Str) (G : List NK) : Bool := (prs T r).any fun p => decide (p ∈ G)
def alive (T : Tab) (G : List NK) : List (List Str) := T.rows.filter fun r => !struckB T r G
def living (T : Tab) (G : List NK) : List NK := (alive T G).flatMap (prs T)
def dead (T : Tab) (G : List NK) : List NK := (pairsOf T).filter fun p => decide (p ∉ living T G)
/-- a pair as it may stand in a table -/
def Pr (k : NK) : Prop := ∃ i ∈ wideH, ∃ c ∈ wideW, k = pK i c
theorem Pr.fine {k : NK} (h : Pr k) : Fine k := by
  obtain ⟨i, hi, c, hc, rfl⟩ := h
  refine ⟨?_, ?_⟩
  · simp [pK, NestedKey.data, NestedKey.datas, PyData.canLay0, PyData.canLayAll0, wideH_ok i hi, wideW_ok c hc]
  · simp [pK, NestedKey.depth, NestedKey.depthAll]
theorem rK_fine {r : List Str} (h : ∀ c ∈ r, c ∈ wideW) : Fine (rK r) := by
  constructor
  · simp only [rK, NestedKey.data, PyData.canLay0]
    exact canLayAll0_of fun k hk => by
      obtain ⟨c, hc, rfl⟩
            := List.mem_map.mp hk
      simp [NestedKey.data, PyData.canLay0, wideW_ok c (h c hc)]
  · have : ∀ l : List Str, NestedKey.depthAll (l.map txt) ≤ 1 := fun l => by
      induction l with
      | nil => simp [NestedKey.depthAll]
      | cons a l ih => simp [NestedKey.depthAll, NestedKey.depth]; omega
    simp only [rK, NestedKey.depth]
    have := this r
    omega
theorem Pr.cases : ∀ k, Pr k ↔ k ∈ wideH.flatMap fun i => wideW.map fun c => pK i c := fun k => by
  simp only [List.mem_flatMap, List.mem_map, Pr]
  constructor
  · rintro ⟨i, hi, c, hc, rfl⟩; exact ⟨i, hi, c, hc, rfl⟩
  · rintro ⟨i, hi, c, hc, rfl⟩; exact ⟨i, hi, c, hc, rfl⟩
theorem prs_pr {T : Tab} (ok : T.Ok) {r : List Str} (hr : r ∈ T.rows) {k : NK} (h : k ∈ prs T r) : Pr k := by
  unfold prs at h
  obtain ⟨n, hn, e⟩ := List.mem_iff_getElem.mp h
  rw [List.getElem_zipWith] at e
  exact ⟨_, ok.it _ (List.getElem_mem _), _, ok.wd r hr _ (List.getElem_mem _), e.symm⟩
theorem allP_pr {T : Tab} (ok : T.Ok) {k : NK} (h : k ∈ allP T) : Pr k := by
  obtain ⟨r, hr, h⟩ := List.mem_flatMap.mp h
  exact prs_pr ok hr h
theorem mem_sortKeys {k : NK} {ks : List NK} : k ∈ sortKeys ks ↔ k ∈ ks := ((sortKeys_perm ks).mem_iff).trans mem_uniq
theorem mem_pairsOf {T : Tab} {k : NK} : k ∈ pairsOf T ↔ k ∈ allP T := mem_sortKeys
theorem pairsOf_pr {T : Tab} (ok : T.Ok) {k : NK} (h : k ∈ pairsOf T) : Pr k := allP_pr ok (mem_pairsOf.mp h)
theorem alike_pr {a b : NK} (ha : Pr a) (hb : Pr b) : PySem.W.alike a.data b.data = true := by
  obtain ⟨i, _, c, _, rfl⟩ := ha
  obtain ⟨j, _, d, _, rfl⟩ := hb
  simp [pK, NestedKey.data, NestedKey.datas, PySem.W.alike, PySem.W.alikeAll]
theorem alikeAll_of : ∀ (xs ys : List PyData), (∀ x ∈ xs, ∀ y ∈ ys, PySem.W.alike x y = true) → PySem.W.alikeAll xs ys = true
  | [], _, _ => by simp [PySem.W.alikeAll]
  | _ :: _, [], _ => by simp [PySem.W.alikeAll]
  | x :: xs, y :: ys, h => by
    rw [PySem.W.alikeAll, h x List.mem_cons_self y List.mem_cons_self, alikeAll_of xs ys fun a ha b hb => h a (List.mem_cons_of_mem _ ha) b (List.mem_cons_of_mem _ hb)]
    rfl
theorem alike_tup {as bs : List NK} (h : ∀ a ∈ as, ∀ b ∈ bs, PySem.W.alike a.data b.data = true) : PySem.W.alike (NestedKey.tup as).data (NestedKey.tup bs).data = true := by
  rw [NestedKey.data, NestedKey.data, PySem.W.alike, datas_eq, datas_eq]
  refine alikeAll_of _ _ fun x hx y hy => ?_
  obtain ⟨a, ha, rfl⟩ := List.mem_map.mp hx
  obtain ⟨b, hb, rfl⟩
        := List.mem_map.mp hy
  exact h a ha b hb
theorem alike_rK (a b : List Str) : PySem.W.alike (rK a).data (rK b).data = true := alike_tup fun x hx y hy => by
  obtain ⟨c, _, rfl⟩ := List.mem_map.mp hx
  obtain ⟨d, _, rfl⟩ := List.mem_map.mp hy
  simp [NestedKey.data, PySem.W.alike]
theorem alikeKeys_of {ks : List NK} (h : ∀ a ∈ ks, ∀ b ∈ ks, PySem.W.alike a.data b.data = true) : alikeKeys ks = true := by
  unfold alikeKeys
  rw [List.all_eq_true]
  intro a ha
  rw [List.all_eq_true]
  exact fun b hb => h a ha b hb
theorem sortOk_of {ks : List NK} (h : ∀ a ∈ ks, ∀ b ∈ ks, PySem.W.alike a.data b.data = true) (ht : ∀ k ∈ ks, ∃ xs, k = .tup xs) (hd : ∀ k ∈ ks, Fine k) : sortOk ks = true := by
  unfold sortOk
  rw [alikeKeys_of h]
  have e : sortableKeys ks = true := by
    unfold sortableKeys
    rw [Bool.or_eq_true, List.all_eq_true]
    left
    intro k hk
    obtain ⟨xs, rfl⟩ := ht k hk
    rfl
  rw [e]
  simp only [Bool.true_and, List.all_eq_true, decide_eq_true_eq]
  exact fun k hk => Nat.le_trans (hd k hk).2 (by decide)
theorem setOk_of {ks : List NK} (ht : ∀ k ∈ ks, ∃ xs, k = .tup xs) (hd : ∀ k ∈ ks, Fine k) (hl : (uniq ks).length < 64) : setOk ks = true := by
  unfold setOk
  rw [Bool.and_eq_true, List.all_eq_true, decide_eq_true_eq]
  refine ⟨fun k hk => ?_, hl⟩
  obtain ⟨xs, rfl⟩ := ht k hk
  have := (hd _ hk).2
  simp only [keyOk, Bool.and_true, decide_eq_true_eq]
  omega
theorem Pr.tup {k : NK} (h : Pr k) : ∃ xs, k = .tup xs := by
  obtain ⟨i, _, c, _, rfl⟩ := h
  exact ⟨_, rfl⟩
theorem uniq_pr {ks : List NK} (h : ∀ k ∈ ks, Pr k) : (uniq ks).length ≤ 42 := by
  have : (uniq ks).length ≤ (wideH.flatMap fun i => wideW.map fun c => pK i c).length := (nodup_uniq ks).length_le_of_subset fun k hk => (Pr.cases k).mp (h k (mem_uniq.mp hk))
  refine Nat.le_trans this ?_
  decide
theorem sort_pr {ks : List NK} (h : ∀ k ∈ ks, Pr k) : sortOk ks = true := sortOk_of (fun a ha b hb => alike_pr (h a ha) (h b hb)) (fun k hk => (h k hk).tup) fun k hk => (h k hk).fine
theorem set_pr {ks : List NK} (h : ∀ k ∈ ks, Pr k) : setOk ks = true := setOk_of (fun k hk => (h k hk).tup) (fun k hk => (h k hk).fine) (by have := uniq_pr h; omega)
theorem fSortSet_pr {S : Sto} {ks : List NK} (h : ∀ k ∈ ks, Pr k) : fSortSet S [.lst (ofKs ks)] = some (.lst (ofKs (sortKeys ks))) := by
  simp only [fSortSet, seqOf, lstOf, Option.bind_some, toKs_ofKs, sort_pr h, set_pr h, Bool.and_self, if_true]
theorem fSortSet_prT {S : Sto} {ks : List NK} (h : ∀ k ∈ ks, Pr k) : fSortSet S [.tup (ofKs ks)] = some (.lst (ofKs (sortKeys ks))) := by
  simp only [fSortSet, seqOf, Option.bind_some, toKs_ofKs, sort_pr h, set_pr h, Bool.and_self, if_true]
/-- ordered, each once -/
theorem keyLe_sorted (ks : List NK) : (sortKeys ks).Pairwise fun a b => keyLe a b = true := List.pairwise_mergeSort keyLe_total.trans (fun a b => by rw [Bool.or_eq_true]; exact keyLe_total.total a b) _
theorem nodup_sortKeys (ks : List NK) : (sortKeys ks).Nodup := (sortKeys_perm ks).symm.nodup (nodup_uniq ks)
theorem sorted_ext {a b : List NK} (al : ∀ x ∈ a, ∀ y ∈ b, PySem.W.alike x.data y.data = true) (sa : a.Pairwise fun a b => keyLe a b = true) (sb : b.Pairwise fun a b => keyLe a b = true) (na : a.Nodup) (nb : b.Nodup) (m : ∀ k, k ∈ a ↔ k ∈ b) : a = b :=
  ((List.perm_ext_iff_of_nodup na nb).mpr m).eq_of_pairwise (fun x y hx hy h1 h2 => keyLe_anti (al x hx y hy) h1 h2) sa sb
theorem filter_sortKeys {ks : List NK} (h : ∀ k ∈ ks, Pr k) (p : NK → Bool) : (sortKeys ks).filter p = sortKeys (ks.filter p) := by
  refine sorted_ext (fun x hx y hy => alike_pr (h x ?_) (h y ?_)) ((keyLe_sorted ks).filter _) (keyLe_sorted _) ((nodup_sortKeys ks).filter _) (nodup_sortKeys _) fun k => ?_
  · exact mem_sortKeys.mp (List.mem_filter.mp hx).1
  · exact (List.mem_filter.mp (mem_sortKeys.mp hy)).1
  · rw [List.mem_filter, mem_sortKeys, mem_sortKeys, List.mem_filter]
theorem sortKeys_ext {as bs : List NK} (h : ∀ k ∈ as, Pr k) (m : ∀ k, k ∈ as ↔ k ∈ bs) : sortKeys as = sortKeys bs :=
  sorted_ext (fun x hx y hy => alike_pr (h x (mem_sortKeys.mp hx)) (h y ((m y).mpr (mem_sortKeys.mp hy)))) (keyLe_sorted _) (keyLe_sorted _) (nodup_sortKeys _) (nodup_sortKeys _) fun k => by rw [mem_sortKeys, mem_sortKeys, m]
end K5
namespace Pilot
open PySem PySem.Spec PyProof.Rows L2 Mp
abbrev top (i : Nat) : Stmt := PySem.Challenge.pw_chosenlast_k15_whole_tables_compared.main.body.getD i (.Pass ⟨0, 0, 0, 0⟩)
abbrev s_pairs_in : Stmt := top 10
theorem sc_pairs_in : FnScope ["table", "row"] ["table", "row"] (defScope s_pairs_in) := ⟨rfl, rfl, rfl, by decide +kernel, rfl, by decide +kernel, by decide +kernel⟩
def b_pairs_in : MS := sRet (eTupZip (eOp2 fIx (eVar 0) (eCon (.int 0))) (eVar 1))
section
variable {P : Program} {w : World} {K : PySem.W.Frag} {mg : Str → Option Value} {base : Heap} {g : Gx}
theorem ok_pairs_in {f : Addr} {fd : FuncData} (F : Fun K "pairs_in" "pairs_in" s_pairs_in f fd) (hK : g.K = K) (m1 : mg "tuple" = none) (m2 : mg "zip" = none) : FnOk P w K mg base CX0 1 f fd ["table", "row"] (spD g (defM false b_pairs_in 2 2)) := by
  refine ok_def F sc_pairs_in rfl fun cdv A outer s H E hr => ?_
  exact ds_one (ds_ret (d_tupZip hK rfl rfl m1 rfl m2 (d_ix hK (d_var (i := 0)) d_int) (d_var (i := 1))))
abbrev s_pairs_of : Stmt := top 9
theorem sc_pairs_of : FnScope ["table", "items", "rows", "row", "i"] ["table"] (defScope s_pairs_of) := ⟨rfl, rfl, rfl, by decide +kernel, rfl, by decide +kernel, by decide +kernel⟩
def b_pairs_of : MS := sSeq (sAsg (gTp [1, 2]) (eVar 0)) (sRet (eFn fTupOf (esCons (eFn fSortSet (esCons (eLc2 (.nm 3) (iSeq (eVar 2)) tYesM (iRng1M (eFn fLen (esCons (eVar 1) esNil))) (.nm 4) tYesM (eTup (esCons (eOp2 fIx (eVar 1) (eVar 4)) (esCons (eOp2 fIx (eVar 3) (eVar 4)) esNil))) [3, 4] [4]) esNil)) esNil)))
theorem ok_pairs_of {f : Addr} {fd : FuncData} (F : Fun K "pairs_of" "pairs_of" s_pairs_of f fd) (hK : g.K = K) (m1 : mg "tuple" = none) (m2 : mg "sorted" = none) (m3 : mg "set" = none) (m4 : mg "range" = none) (m5 : mg "len" = none) : FnOk P w K mg base CX0 1 f fd ["table"] (spD g (defM false b_pairs_of 5 1)) := by
  refine ok_def F sc_pairs_of rfl fun cdv A outer s H E hr => ?_
  refine ds_cons (ds_asg (d_var (i := 0)) (dg_tp hK rfl (dgs_cons (i := 1) sc_pairs_of.nd rfl (by first | exact Or.inl rfl | exact Or.inr rfl) (dgs_cons (i := 2) sc_pairs_of.nd rfl (by first | exact Or.inl rfl | exact Or.inr rfl) dgs_nil)))) ?_
  refine ds_one (ds_ret (d_typ (c_tuple hK) rfl m1 (by decide +kernel) (d_cons (d_sortSet hK rfl ?_ rfl m2 rfl m3 ?_) d_nil)))
  · have := hr.un
    show (A.deeper (envOfC "pairs_of" (defScope s_pairs_of) s.heap.objs.size f cdv)).units + 20 < cLine
    omega
  · refine d_lc2 (own := [("row", 3), ("i", 4)]) hK rfl sc_pairs_of.nd (di_seq hK (d_var (i := 2))) (show BlkOk ["table", "items", "rows", "row", "i"] (defScope s_pairs_of) _ _ from ⟨rfl, by decide +kernel, by decide +kernel, by decide +kernel, by decide +kernel⟩) (by decide) (by decide) (by decide) (fun _ _ _ _ _ => pg_name sc_pairs_of.nd rfl (by first | exact Or.inl rfl | exact Or.inr rfl)) (fun _ _ _ _ _ => dts_nil) (fun _ _ _ _ _ => di_rng1 rfl m4 (d_blt (c_len hK) rfl m5 (by decide +kernel) (d_cons (d_var (i := 1)) d_nil))) (fun _ _ _ _ _ => pg_name sc_pairs_of.nd rfl (by first | exact Or.inl rfl | exact Or.inr rfl)) (fun _ _ _ _ _ => dts_nil) (fun _ _ _ _ _ => d_tup (d_cons (d_ix hK (d_var (i := 1)) (d_var (i := 4))) (d_cons (d_ix hK (d_var (i := 3)) (d_var (i := 4))) d_nil)) (esN_cons (esN_cons esN_nil)))
abbrev s_cand : Stmt := top 8
theorem sc_cand : FnScope ["table", "item", "items", "rows", "place", "row"] ["table", "item"] (defScope s_cand) := ⟨rfl, rfl, rfl, by decide +kernel, rfl, by decide +kernel, by decide +kernel⟩
def b_cand : MS := sSeq (sAsg (gTp [2, 3]) (eVar 0)) (sSeq (sIf (tTru (eOp2 (fIn true) (eVar 1) (eVar 2))) sStuck sSkip) (sSeq (sSet 4 (eMeth isP fIdx (eVar 2) (esCons (eVar 1) esNil)))
  (sRet (eFn fTupOf (esCons (eFn fSortTxt (esCons (eLc (.nm 5) (iSeq (eVar 3)) tYesM (eOp2 fIx (eVar 5) (eVar 4)) [5]) esNil)) esNil)))))
theorem ok_cand {f : Addr} {fd : FuncData} (F : Fun K "candidates_of" "candidates_of" s_cand f fd) (hK : g.K = K) (m1 : mg "tuple" = none) (m2 : mg "sorted" = none) (m3 : mg "set" = none) : FnOk P w K mg base CX0 1 f fd ["table", "item"] (spD g (defM false b_cand 6 2)) := by
  refine ok_def F sc_cand rfl fun cdv A outer s H E hr => ?_
  have hu : (A.deeper (envOfC "candidates_of" (defScope s_cand) s.heap.objs.size f cdv)).units + 200 < cLine := by have := hr.un; omega
  refine ds_cons (ds_asg (d_var (i := 0)) (dg_tp hK rfl (dgs_cons (i := 2) sc_cand.nd rfl (by first | exact Or.inl rfl | exact Or.inr rfl) (dgs_cons (i := 3) sc_cand.nd rfl (by first | exact Or.inl rfl | exact Or.inr rfl) dgs_nil)))) ?_
  refine ds_cons (ds_if (d_tcmp hK (o_in (neg := true) hK (Nat.lt_of_le_of_lt (Nat.add_le_add_left (by decide) _) hu)) (d_var (i := 1)) (d_var (i := 2)) rfl fIn_bl) (ds_one ds_stuck) ds_nil) ?_
  refine ds_cons (ds_set (i := 4) sc_cand.nd rfl (by first | exact Or.inl rfl | exact Or.inr rfl) (d_idx hK (d_var (i := 2)) (d_cons (d_var (i := 1)) d_nil))) ?_
  refine ds_one (ds_ret (d_typ (c_tuple hK) rfl m1 (by decide +kernel) (d_cons (d_sortTxt rfl (Nat.lt_of_le_of_lt (Nat.add_le_add_left (by decide) _) hu) rfl m2 rfl m3 ?_) d_nil)))
  exact d_lc (own := [("row", 5)]) hK rfl sc_cand.nd (di_seq hK (d_var (i := 3))) (show BlkOk ["table", "item", "items", "rows", "place", "row"] (defScope s_cand) _ _ from ⟨rfl, by decide +kernel, by decide +kernel, by decide +kernel, by decide +kernel⟩) (by decide) (fun _ _ _ _ _ => pg_name sc_cand.nd rfl (by first | exact Or.inl rfl | exact Or.inr rfl)) (fun _ _ _ _ _ => dts_nil) (fun _ _ _ _ _ => d_ix hK (d_var (i := 5)) (d_var (i := 4)))
end
end Pilot
namespace Pilot
open PySem PySem.Spec PyProof.Rows L2 Mp
section
variable {P : Program} {w : World} {K : PySem.W.Frag} {mg : Str → Option Value} {base : Heap} {g : Gx}
/-- a def that may be called: its promise, its name, how it binds -/
structure Cal1 (P : Program) (w : World) (K : PySem.W.Frag) (mg : Str → Option Value) (base : Heap) (g : Gx) (k : Nat) (x : Str) (ps : List Str) (m : MF) : Prop where
  ex : ∃ f fd, FnOk P w K mg base CX0 k f fd ps (spD g m) ∧ mg x = some (.ref f) ∧ PySem.W.keepIn K (.ref f) = true ∧ Binds K fd ps []
def m_pairs_in : MF := defM false b_pairs_in 2 2
def m_pairs_of : MF := defM false b_pairs_of 5 1
abbrev s_struck : Stmt := top 16
theorem sc_struck : FnScope ["table", "row", "struck", "pair"] ["table", "row", "struck"] (defScope s_struck) := ⟨rfl, rfl, rfl, by decide +kernel, rfl, by decide +kernel, by decide +kernel⟩
def b_struck : MS := sRet (eFn (fQuant false) (esCons (eLc (.nm 3) (iSeq (eCall m_pairs_in (esCons (eVar 0) (esCons (eVar 1) esNil)))) tYesM (eOp2 (fIn false) (eVar 3) (eVar 2)) [3]) esNil))
def m_struck : MF := defM false b_struck 4 3
theorem ok_struck {f : Addr} {fd : FuncData} (F : Fun K "is_struck" "is_struck" s_struck f fd) (hK : g.K = K) (m1 : mg "any" = none) (C1 : Cal1 P w K mg base g 1 "pairs_in" ["table", "row"] m_pairs_in) : FnOk P w K mg base CX0 2 f fd ["table", "row", "struck"] (spD g m_struck) := by
  obtain ⟨f1, fd1, F1, g1, k1, b1⟩ := C1.ex
  refine ok_def F sc_struck rfl fun cdv A outer s H E hr => ?_
  have hu : (A.deeper (envOfC "is_struck" (defScope s_struck) s.heap.objs.size f cdv)).units + 200 < cLine := by have := hr.un; omega
  refine ds_one (ds_ret (d_blt (c_any rfl) rfl m1 (by decide +kernel) (d_cons ?_ d_nil)))
  exact d_lc (own := [("pair", 3)]) hK rfl sc_struck.nd (di_seq hK (d_call F1 hr (by decide) rfl g1 k1 b1 (d_cons (d_var (i := 0)) (d_cons (d_var (i := 1)) d_nil)))) (show BlkOk ["table", "row", "struck", "pair"] (defScope s_struck) _ _ from ⟨rfl, by decide +kernel, by decide +kernel, by decide +kernel, by decide +kernel⟩) (by decide) (fun _ _ _ _ _ => pg_name sc_struck.nd rfl (by first | exact Or.inl rfl | exact Or.inr rfl)) (fun _ _ _ _ _ => dts_nil) (fun _ _ _ _ _ => d_cmp (o_in (neg := false) hK (Nat.lt_of_le_of_lt (Nat.add_le_add_left (by decide) _) hu)) (d_var (i := 3)) (d_var (i := 2)) rfl)
abbrev s_req : Stmt := top 13
theorem sc_req : FnScope ["table", "pairs", "known", "pair"] ["table", "pairs"] (defScope s_req) := ⟨rfl, rfl, rfl, by decide +kernel, rfl, by decide +kernel, by decide +kernel⟩
def b_req : MS := sSeq (sSet 2 (eCall m_pairs_of (esCons (eVar 0) esNil))) (sFor (gNm 3) (iSeq (eVar 1)) (sIf (tTru (eOp2 (fIn true) (eVar 3) (eVar 2))) sStuck sSkip))
def m_req : MF := defM false b_req 4 2
theorem ok_req {f : Addr} {fd : FuncData} (F : Fun K "require_pairs" "require_pairs" s_req f fd) (hK : g.K = K) (C1 : Cal1 P w K mg base g 1 "pairs_of" ["table"] m_pairs_of) : FnOk P w K mg base CX0 2 f fd ["table", "pairs"] (spD g m_req) := by
  obtain ⟨f1, fd1, F1, g1, k1, b1⟩ := C1.ex
  refine ok_def F sc_req rfl fun cdv A outer s H E hr => ?_
  have hu : (A.deeper (envOfC "require_pairs" (defScope s_req) s.heap.objs.size f cdv)).units + 200 < cLine := by have := hr.un; omega
  refine ds_cons (ds_set (i := 2) sc_req.nd rfl (by first | exact Or.inl rfl | exact Or.inr rfl) (d_call F1 hr (by decide) rfl g1 k1 b1 (d_cons (d_var (i := 0)) d_nil))) ?_
  exact ds_one (ds_for PassesOwn.never rfl (di_seq hK (d_var (i := 1))) (dg_nm (i := 3) sc_req.nd rfl (by first | exact Or.inl rfl | exact Or.inr rfl)) (ds_one (ds_if (d_tcmp hK (o_in (neg := true) hK (Nat.lt_of_le_of_lt (Nat.add_le_add_left (by decide) _) hu)) (d_var (i := 3)) (d_var (i := 2)) rfl fIn_bl) (ds_one ds_stuck) ds_nil)))
abbrev s_alive : Stmt := top 15
theorem sc_alive : FnScope ["table", "struck", "row"] ["table", "struck"] (defScope s_alive) := ⟨rfl, rfl, rfl, by decide +kernel, rfl, by decide +kernel, by decide +kernel⟩
def b_alive : MS := sSeq (sExp (eCall m_req (esCons (eVar 0) (esCons (eVar 1) esNil)))) (sRet (eFn fTupOf (esCons (eLc (.nm 2) (iSeq (eOp2 fIx (eVar 0) (eCon (.int 1)))) (tNotD (tTru (eCall m_struck (esCons (eVar 0) (esCons (eVar 2) (esCons (eVar 1) esNil)))))) (eVar 2) [2]) esNil)))
def m_alive : MF := defM false b_alive 3 2
theorem ok_alive {f : Addr} {fd : FuncData} (F : Fun K "alive_rows" "alive_rows" s_alive f fd) (hK : g.K = K) (m1 : mg "tuple" = none) (C1 : Cal1 P w K mg base g 2 "require_pairs" ["table", "pairs"] m_req) (C2 : Cal1 P w K mg base g 2 "is_struck" ["table", "row", "struck"] m_struck) : FnOk P w K mg base CX0 3 f fd ["table", "struck"] (spD g m_alive) := by
  obtain ⟨f1, fd1, F1, g1, k1, b1⟩ := C1.ex
  obtain ⟨f2, fd2, F2, g2, k2, b2⟩ := C2.ex
  refine ok_def F sc_alive rfl fun cdv A outer s H E hr => ?_
  refine ds_cons (ds_exp (d_call F1 hr (by decide) rfl g1 k1 b1 (d_cons (d_var (i := 0)) (d_cons (d_var (i := 1)) d_nil)))) ?_
  refine ds_one (ds_ret (d_typ (c_tuple hK) rfl m1 (by decide +kernel) (d_cons ?_ d_nil)))
  exact d_lc (own := [("row", 2)]) hK rfl sc_alive.nd (di_seq hK (d_ix hK (d_var (i := 0)) d_int)) (show BlkOk ["table", "struck", "row"] (defScope s_alive) _ _ from ⟨rfl, by decide +kernel, by decide +kernel, by decide +kernel, by decide +kernel⟩) (by decide) (fun _ _ _ _ _ => pg_name sc_alive.nd rfl (by first | exact Or.inl rfl | exact Or.inr rfl)) (fun _ _ _ _ _ => dts_one (d_not (d_tru hK (d_call F2 hr (by decide) rfl g2 k2 b2 (d_cons (d_var (i := 0)) (d_cons (d_var (i := 2)) (d_cons (d_var (i := 1)) d_nil))))))) (fun _ _ _ _ _ => d_var (i := 2))
end
end Pilot
namespace Pilot
open PySem PySem.Spec PyProof.Rows L2 Mp
section
variable {P : Program} {w : World} {K : PySem.W.Frag} {mg : Str → Option Value} {base : Heap} {g : Gx}
abbrev s_dead : Stmt := top 17
theorem sc_dead : FnScope ["table", "struck", "living", "row", "pair"] ["table", "struck"] (defScope s_dead) := ⟨rfl, rfl, rfl, by decide +kernel, rfl, by decide +kernel, by decide +kernel⟩
def b_dead : MS := sSeq (sSet 2 (eLc2 (.nm 3) (iSeq (eCall m_alive (esCons (eVar 0) (esCons (eVar 1) esNil)))) tYesM (iSeq (eCall m_pairs_in (esCons (eVar 0) (esCons (eVar 3) esNil)))) (.nm 4) tYesM (eVar 4) [3, 4] [4]))
  (sRet (eFn fTupOf (esCons (eLc (.nm 4) (iSeq (eCall m_pairs_of (esCons (eVar 0) esNil))) (tTru (eOp2 (fIn true) (eVar 4) (eVar 2))) (eVar 4) [4]) esNil)))
def m_dead : MF := defM false b_dead 5 2
theorem ok_dead {f : Addr} {fd : FuncData} (F : Fun K "dead_pairs" "dead_pairs" s_dead f fd) (hK : g.K = K) (m1 : mg "tuple" = none) (C1 : Cal1 P w K mg base g 3 "alive_rows" ["table", "struck"] m_alive) (C2 : Cal1 P w K mg base g 1 "pairs_in" ["table", "row"] m_pairs_in) (C3 : Cal1 P w K mg base g 1 "pairs_of" ["table"] m_pairs_of) : FnOk P w K mg base CX0 4 f fd ["table", "struck"] (spD g m_dead) := by
  obtain ⟨f1, fd1, F1, g1, k1, b1⟩ := C1.ex
  obtain ⟨f2, fd2, F2, g2, k2, b2⟩ := C2.ex
  obtain ⟨f3, fd3, F3, g3, k3, b3⟩ := C3.ex
  refine ok_def F sc_dead rfl fun cdv A outer s H E hr => ?_
  have hu : (A.deeper (envOfC "dead_pairs" (defScope s_dead) s.heap.objs.size f cdv)).units + 200 < cLine := by have := hr.un; omega
  refine ds_cons (ds_set (i := 2) sc_dead.nd rfl (by first | exact Or.inl rfl | exact Or.inr rfl) ?_) ?_
  · exact d_lc2 (own := [("row", 3), ("pair", 4)]) hK rfl sc_dead.nd (di_seq hK (d_call F1 hr (by decide) rfl g1 k1 b1 (d_cons (d_var (i := 0)) (d_cons (d_var (i := 1)) d_nil)))) (show BlkOk ["table", "struck", "living", "row", "pair"] (defScope s_dead) _ _ from ⟨rfl, by decide +kernel, by decide +kernel, by decide +kernel, by decide +kernel⟩) (by decide) (by decide) (by decide) (fun _ _ _ _ _ => pg_name sc_dead.nd rfl (by first | exact Or.inl rfl | exact Or.inr rfl)) (fun _ _ _ _ _ => dts_nil) (fun _ _ _ _ _ => di_seq hK (d_call F2 hr (by decide) rfl g2 k2 b2 (d_cons (d_var (i := 0)) (d_cons (d_var (i := 3)) d_nil)))) (fun _ _ _ _ _ => pg_name sc_dead.nd rfl (by first | exact Or.inl rfl | exact Or.inr rfl)) (fun _ _ _ _ _ => dts_nil) (fun _ _ _ _ _ => d_var (i := 4))
  refine ds_one (ds_ret (d_typ (c_tuple hK) rfl m1 (by decide +kernel) (d_cons ?_ d_nil)))
  exact d_lc (own := [("pair", 4)]) hK rfl sc_dead.nd (di_seq hK (d_call F3 hr (by decide) rfl g3 k3 b3 (d_cons (d_var (i := 0)) d_nil))) (show BlkOk ["table", "struck", "living", "row", "pair"] (defScope s_dead) _ _ from ⟨rfl, by decide +kernel, by decide +kernel, by decide +kernel, by decide +kernel⟩) (by decide) (fun _ _ _ _ _ => pg_name sc_dead.nd rfl (by first | exact Or.inl rfl | exact Or.inr rfl)) (fun _ _ _ _ _ => dts_one (d_tcmp hK (o_in (neg := true) hK (Nat.lt_of_le_of_lt (Nat.add_le_add_left (by decide) _) hu)) (d_var (i := 4)) (d_var (i := 2)) rfl fIn_bl)) (fun _ _ _ _ _ => d_var (i := 4))
abbrev s_break : Stmt := top 18
theorem sc_break : FnScope ["table", "struck", "pairs"] ["table", "struck", "pairs"] (defScope s_break) := ⟨rfl, rfl, rfl, by decide +kernel, rfl, by decide +kernel, by decide +kernel⟩
def b_break : MS := sRet (eOp2 (fEq false) (eCall m_alive (esCons (eVar 0) (esCons (eTupV (esStar (eVar 1) (esStar (eVar 2) esNil))) esNil))) (eTupV esNil))
def m_break : MF := defM false b_break 3 3
theorem ok_break {f : Addr} {fd : FuncData} (F : Fun K "does_break" "does_break" s_break f fd) (hK : g.K = K) (C1 : Cal1 P w K mg base g 3 "alive_rows" ["table", "struck"] m_alive) : FnOk P w K mg base CX0 4 f fd ["table", "struck", "pairs"] (spD g m_break) := by
  obtain ⟨f1, fd1, F1, g1, k1, b1⟩ := C1.ex
  refine ok_def F sc_break rfl fun cdv A outer s H E hr => ?_
  have hu : (A.deeper (envOfC "does_break" (defScope s_break) s.heap.objs.size f cdv)).units + 200 < cLine := by have := hr.un; omega
  exact ds_one (ds_ret (d_cmp (o_eq hK (Nat.lt_of_le_of_lt (Nat.add_le_add_left (by decide) _) hu)) (d_call F1 hr (by decide) rfl g1 k1 b1 (d_cons (d_var (i := 0)) (d_cons (d_tupV (d_star hK (d_var (i := 1)) (d_star hK (d_var (i := 2)) d_nil))) d_nil))) (d_tupV d_nil) rfl))
end
end Pilot
namespace Pilot
open PySem PySem.Spec PyProof.Rows L2 Mp
section
variable {P : Program} {w : World} {K : PySem.W.Frag} {mg : Str → Option Value} {base : Heap} {g : Gx}
def b_joined : MS := sRet (eFn fTupOf (esCons (eFn fSortSet (esCons (eOp2 fAdd (eVar 0) (eVar 1)) esNil)) esNil))
def m_joined : MF := defM false b_joined 2 2
abbrev s_draw : Stmt := top 37
theorem sc_draw : FnScope ["_law_reader_here", "_law_many", "_law_digit", "_law_spot", "_law_cell", "_law_mixed"] ["_law_reader_here", "_law_many"] (defScope s_draw) := ⟨rfl, rfl, rfl, by decide +kernel, rfl, by decide +kernel, by decide +kernel⟩
def eFld (x : Str) : ME := eOp2 fDGet (eVar 0) (eCon (.str x))
def eI (i : Int) : ME := eCon (.int i)
def b_draw1 : MS := sDPutM (eVar 0) (eCon (.str "draws")) (eOp2 fAdd (eFld "draws") (eI 1))
def b_draw2 : MS := sIf (tTru (eOp2 (fOrd .Gt) (eFld "rest") (eI 0))) (sSeq (sSet 2 (eOp2 fMod (eFld "rest") (eVar 1))) (sSeq (sDPutM (eVar 0) (eCon (.str "rest")) (eOp2 fDiv (eFld "rest") (eVar 1))) (sRet (eVar 2)))) sSkip
def b_draw3 : MS := sSet 3 (eFld "next")
def b_draw3b : MS := sDPutM (eVar 0) (eCon (.str "next")) (eOp2 fAdd (eVar 3) (eI 1))
def b_draw3c : MS := sSet 4 (eIfE (tTru (eOp2 (fEq true) (eFld "cells") (eLst esNil))) (eOp2 fIx (eFld "cells") (eOp2 fMod (eVar 3) (eFn fLen (esCons (eFld "cells") esNil)))) (eI 29))
def b_draw4 : MS := sIf (tAndD (tTru (eOp2 (fOrd .GtE) (eVar 4) (eOp2 fPow (eI 10) (eI 18)))) (tTru (eOp2 (fOrd .Lt) (eVar 3) (eFn fLen (esCons (eFld "cells") esNil))))) (sSeq (sDPutM (eVar 0) (eCon (.str "rest")) (eOp2 fDiv (eVar 4) (eVar 1))) (sRet (eOp2 fMod (eVar 4) (eVar 1)))) sSkip
def b_draw5 : MS := sSet 5 (eOp2 fMod (eOp2 fAdd (eOp2 fAdd (eOp2 fMod (eVar 4) (eI 1000000447)) (eOp2 fMul (eI 140009) (eFld "draws"))) (eI 71)) (eI 2147483489))
def b_draw6 : MS := sSet 5 (eOp2 fMod (eOp2 fAdd (eOp2 fAdd (eOp2 fMul (eVar 5) (eVar 5)) (eOp2 fMul (eI 4099093) (eFld "draws"))) (eI 37)) (eI 2147483477))
def b_draw7 : MS := sRet (eOp2 fMod (eOp2 fDiv (eOp2 fMod (eOp2 fAdd (eOp2 fMul (eVar 5) (eVar 5)) (eOp2 fMul (eI 83) (eVar 5))) (eI 2147483423)) (eI 16)) (eVar 1))
def b_draw : MS := sSeq b_draw1 (sSeq b_draw2 (sSeq b_draw3 (sSeq b_draw3b (sSeq b_draw3c (sSeq b_draw4 (sSeq b_draw5 (sSeq b_draw6 b_draw7)))))))
def m_draw : MF := defM true b_draw 6 2
section
variable {X : Cx} {pos : Pos}
theorem d_fld {x : Str} {p1 : Pos} {j : Nat} {p2 : Pos} (hK : g.K = X.K) (hw : g.w = X.w) (hu : X.A.units + 200 < cLine) (hv : PE X (.Name "_law_reader_here" p1) (tD g (eVar 0))) : PE X (.Subscript (.Name "_law_reader_here" p1) (.Constant (.str x) j p2) pos) (tD g (eFld x)) :=
  d_dget hK hw (Nat.lt_of_le_of_lt (Nat.add_le_add_left (by decide) _) hu) hv d_str
end
theorem ok_draw {f : Addr} {fd : FuncData} (F : Fun K "_law_draw" "_law_draw" s_draw f fd) (hK : g.K = K) (hw : g.w = w) (m1 : mg "len" = none) : FnOk P w K mg base CX0 1 f fd ["_law_reader_here", "_law_many"] (spD g m_draw) := by
  refine ok_def F sc_draw rfl fun cdv A outer s H E hr => ?_
  have hu : (A.deeper (envOfC "_law_draw" (defScope s_draw) s.heap.objs.size f cdv)).units + 200 < cLine := by have := hr.un; omega
  have hu12 := Nat.lt_of_le_of_lt (Nat.add_le_add_left (show 12 ≤ 200 by decide) _) hu
  have hu64 := Nat.lt_of_le_of_lt (Nat.add_le_add_left (show 64 ≤ 200 by decide) _) hu
  refine ds_cons (ds_dput hK hw hu12 (d_var (i := 0)) d_str (d_bin (o_add hK) (d_fld hK hw hu (d_var (i := 0))) d_int)) ?_
  refine ds_cons (ds_if (d_tcmp hK (o_ord hK hu64) (d_fld hK hw hu (d_var (i := 0))) d_int rfl fOrd_bl) ?_ ds_nil) ?_
  · refine ds_cons (ds_set (i := 2) sc_draw.nd rfl (by first | exact Or.inl rfl | exact Or.inr rfl) (d_bin o_mod (d_fld hK hw hu (d_var (i := 0))) (d_var (i := 1)))) ?_
    refine ds_cons (ds_dput hK hw hu12 (d_var (i := 0)) d_str (d_bin o_div (d_fld hK hw hu (d_var (i := 0))) (d_var (i := 1)))) ?_
    exact ds_one (ds_ret (d_var (i := 2)))
  refine ds_cons (ds_set (i := 3) sc_draw.nd rfl (by first | exact Or.inl rfl | exact Or.inr rfl) (d_fld hK hw hu (d_var (i := 0)))) ?_
  refine ds_cons (ds_dput hK hw hu12 (d_var (i := 0)) d_str (d_bin (o_add hK) (d_var (i := 3)) d_int)) ?_
  refine ds_cons (ds_set (i := 4) sc_draw.nd rfl (by first | exact Or.inl rfl | exact Or.inr rfl) (d_ifE ?_ ?_ d_int)) ?_
  · exact d_tcmp hK (o_ne hK hu64) (d_fld hK hw hu (d_var (i := 0))) (d_lst d_nil esN_nil) rfl fEq_bl
  · refine d_ix hK (d_fld hK hw hu (d_var (i := 0))) (d_bin o_mod (d_var (i := 3)) ?_)
    exact d_blt (c_len hK) rfl m1 (by decide +kernel) (d_cons (d_fld hK hw hu (d_var (i := 0))) d_nil)
  refine ds_cons (ds_if (PW.pt (d_and ?_ (d_and1 ?_))) ?_ ds_nil) ?_
  · exact d_tcmp hK (o_ord hK hu64) (d_var (i := 4)) (d_bin o_pow d_int d_int) rfl fOrd_bl
  · refine d_tcmp hK (o_ord hK hu64) (d_var (i := 3)) ?_ rfl fOrd_bl
    exact d_blt (c_len hK) rfl m1 (by decide +kernel) (d_cons (d_fld hK hw hu (d_var (i := 0))) d_nil)
  · refine ds_cons (ds_dput hK hw hu12 (d_var (i := 0)) d_str (d_bin o_div (d_var (i := 4)) (d_var (i := 1)))) ?_
    exact ds_one (ds_ret (d_bin o_mod (d_var (i := 4)) (d_var (i := 1))))
  refine ds_cons (ds_set (i := 5) sc_draw.nd rfl (by first | exact Or.inl rfl | exact Or.inr rfl) (d_bin o_mod (d_bin (o_add hK) (d_bin (o_add hK) (d_bin o_mod (d_var (i := 4)) d_int) (d_bin o_mul d_int (d_fld hK hw hu (d_var (i := 0))))) d_int) d_int)) ?_
  refine ds_cons (ds_set (i := 5) sc_draw.nd rfl (by first | exact Or.inl rfl | exact Or.inr rfl) (d_bin o_mod (d_bin (o_add hK) (d_bin (o_add hK) (d_bin o_mul (d_var (i := 5)) (d_var (i := 5))) (d_bin o_mul d_int (d_fld hK hw hu (d_var (i := 0))))) d_int) d_int)) ?_
  exact ds_one (ds_ret (d_bin o_mod (d_bin o_div (d_bin o_mod (d_bin (o_add hK) (d_bin o_mul (d_var (i := 5)) (d_var (i := 5))) (d_bin o_mul d_int (d_var (i := 5)))) d_int) d_int) (d_var (i := 1))))
abbrev s_subset : Stmt := top 39
theorem sc_subset : FnScope ["_law_reader_here", "_law_parts", "_law_way", "_law_part"] ["_law_reader_here", "_law_parts"] (defScope s_subset) := ⟨rfl, rfl, rfl, by decide +kernel, rfl, by decide +kernel, by decide +kernel⟩
def b_subset : MS := sSeq (sSet 2 (eCall m_draw (esCons (eVar 0) (esCons (eI 4) esNil)))) (sRet (eFn fTupOf (esCons (eLc (.nm 3) (iSeq (eVar 1)) (tAndD (tTru (eOp2 (fOrd .Gt) (eVar 2) (eI 0))) (tTru (eOp2 (fEq false) (eCall m_draw (esCons (eVar 0) (esCons (eOp2 fAdd (eI 1) (eOp2 fMul (eI 2) (eVar 2))) esNil))) (eI 0)))) (eVar 3) [3]) esNil)))
def m_subset : MF := defM false b_subset 4 2
theorem ok_subset {f : Addr} {fd : FuncData} (F : Fun K "_law_subset" "_law_subset" s_subset f fd) (hK : g.K = K) (hw : g.w = w) (m1 : mg "tuple" = none) (C1 : Cal1 P w K mg base g 1 "_law_draw" ["_law_reader_here", "_law_many"] m_draw) : FnOk P w K mg base CX0 2 f fd ["_law_reader_here", "_law_parts"] (spD g m_subset) := by
  obtain ⟨f1, fd1, F1, g1, k1, b1⟩ := C1.ex
  refine ok_def F sc_subset rfl fun cdv A outer s H E hr => ?_
  have hu : (A.deeper (envOfC "_law_subset" (defScope s_subset) s.heap.objs.size f cdv)).units + 200 < cLine := by have := hr.un; omega
  have hu64 := Nat.lt_of_le_of_lt (Nat.add_le_add_left (show 64 ≤ 200 by decide) _) hu
  refine ds_cons (ds_set (i := 2) sc_subset.nd rfl (by first | exact Or.inl rfl | exact Or.inr rfl) (d_call F1 hr (by decide) rfl g1 k1 b1 (d_cons (d_var (i := 0)) (d_cons d_int d_nil)))) ?_
  refine ds_one (ds_ret (d_typ (c_tuple hK) rfl m1 (by decide +kernel) (d_cons ?_ d_nil)))
  refine d_lc (own := [("_law_part", 3)]) hK rfl sc_subset.nd (di_seq hK (d_var (i := 1))) (show BlkOk ["_law_reader_here", "_law_parts", "_law_way", "_law_part"] (defScope s_subset) _ _ from ⟨rfl, by decide +kernel, by decide +kernel, by decide +kernel, by decide +kernel⟩) (by decide) (fun _ _ _ _ _ => pg_name sc_subset.nd rfl (by first | exact Or.inl rfl | exact Or.inr rfl)) (fun _ _ _ _ _ => dts_one (PW.pt (d_and ?_ (d_and1 ?_)))) (fun _ _ _ _ _ => d_var (i := 3))
  · exact d_tcmp hK (o_ord hK hu64) (d_var (i := 2)) d_int rfl fOrd_bl
  · refine d_tcmp hK (o_eq hK hu64) ?_ d_int rfl fEq_bl
    exact d_call F1 hr (by decide) rfl g1 k1 b1 (d_cons (d_var (i := 0)) (d_cons (d_bin (o_add hK) d_int (d_bin o_mul d_int (d_var (i := 2)))) d_nil))
abbrev s_reader : Stmt := top 36
theorem sc_reader : FnScope ["_law_script"] ["_law_script"] (defScope s_reader) := ⟨rfl, rfl, rfl, by decide +kernel, rfl, by decide +kernel, by decide +kernel⟩
def x_reader : List Str := ["cells", "next", "rest", "draws"]
def b_reader : MS := sRet (eDisp (x_reader.map Sum.inr) (esAll [eFn fLstOf (esCons (eSl (eVar 0) oNo (oSo (eI 63))) esNil), eI 0, eI 0, eI 0]))
def m_reader : MF := defM true b_reader 1 1
theorem ok_reader {f : Addr} {fd : FuncData} (F : Fun K "_law_reader" "_law_reader" s_reader f fd) (hK : g.K = K) (m1 : mg "list" = none) : FnOk P w K mg base CX0 1 f fd ["_law_script"] (spD g m_reader) := by
  refine ok_def F sc_reader rfl fun cdv A outer s H E hr => ?_
  refine ds_one (ds_ret (d_disp (xs := x_reader) (ms := [eFn fLstOf (esCons (eSl (eVar 0) oNo (oSo (eI 63))) esNil), eI 0, eI 0, eI 0]) ?_ rfl (by decide) (by decide)))
  refine pps_cons d_str ?_ (pps_cons d_str d_int (pps_cons d_str d_int (pps_cons d_str d_int pps_nil)))
  exact d_typ (c_list hK) rfl m1 (by decide +kernel) (d_cons (d_sl hK (d_var (i := 0)) do_no (do_so d_int)) d_nil)
end
end Pilot
namespace Pilot
open PySem PySem.Spec PyProof.Rows L2 Mp
section
variable {P : Program} {w : World} {K : PySem.W.Frag} {mg : Str → Option Value} {base : Heap} {g : Gx}
theorem fIs_bl' {neg : Bool} : ∀ S x y v, fIs neg S x y = some v → ∃ k, v = .bl k := fun S x y v e => by
  unfold fIs at e
  split at e <;> first | (cases e; exact ⟨_, rfl⟩) | cases e
def m_cand : MF := defM false b_cand 6 2
def n_items : List Str := ["_law_grid", "_law_gone", "_law_dead", "_law_head", "_law_every", "_law_one", "_law_part", "_law_rest", "_law_other"]
def c_brk (i : Nat) : ME := eCall m_break (esCons (eVar 0) (esCons (eVar 1) (esCons (eVar i) esNil)))
def b_items : MS := sSeq (sSet 2 (eCall m_dead (esCons (eVar 0) (esCons (eVar 1) esNil)))) (sSeq (sFor (gNm 3) (iSeq (eOp2 fIx (eVar 0) (eI 0)))
  (sSeq (sSet 4 (eFn fTupOf (esCons (eLc (.nm 5) (iSeq (eCall m_cand (esCons (eVar 0) (esCons (eVar 3) esNil)))) tYesM (eTup (esCons (eVar 3) (esCons (eVar 5) esNil))) [5]) esNil)))
  (sSeq (sIf (tTru (eOp2 (fIs true) (c_brk 4) (eCon (.bl true)))) (sRet (eCon (.bl false))) sSkip)
  (sFor (gNm 6) (iSeq (eVar 4)) (sSeq (sSet 7 (eFn fTupOf (esCons (eLc (.nm 8) (iSeq (eVar 4)) (tTru (eOp2 (fEq true) (eVar 8) (eVar 6))) (eVar 8) [8]) esNil)))
    (sIf (tTru (eOp2 (fEq true) (c_brk 7) (eOp2 (fIn false) (eVar 6) (eVar 2)))) (sRet (eCon (.bl false))) sSkip)))))) (sRet (eCon (.bl true))))
def m_items : MF := defM false b_items 9 2
end
end Pilot
namespace K5
open PySem PySem.Spec PyProof.Rows L2 Mp Pilot

/-! ### what the parts of a def give -/
section
variable {sl sl1 : Sl} {S S1 S2 : Sto} {v w x y : Val} {vs xs : List Val}
theorem var_ev {i : Nat} (h : sl[i]? = some (some v)) : eVar i sl S = some (v, S) := by simp only [eVar, h]
theorem con_ev : eCon v sl S = some (v, S) := rfl
theorem nil_ev : esNil sl S = some ([], S) := rfl
theorem cons_ev {m : ME} {ms : MEs} (h1 : m sl S = some (v, S1)) (h2 : ms sl S1 = some (vs, S2)) : esCons m ms sl S = some (v :: vs, S2) := by simp only [esCons, h1, h2, Option.bind_some]
theorem star_ev {m : ME} {ms : MEs} (h1 : m sl S = some (v, S1)) (h3 : seqOf S1 v = some xs) (h2 : ms sl S1 = some (vs, S2)) : esStar m ms sl S = some (xs ++ vs, S2) := by simp only [esStar, h1, h2, h3, Option.bind_some]
theorem tup_ev {ms : MEs} (h : ms sl S = some (vs, S1)) : eTup ms sl S = some (.tup vs, S1) := by simp only [eTup, h, Option.bind_some]
theorem tupV_ev {ms : MEs} (h : ms sl S = some (vs, S1)) (hl : vs.length ≤ sizeLine) : eTupV ms sl S = some (.tup vs, S1) := by simp only [eTupV, h, Option.bind_some, hl, if_true]
theorem lst_ev {ms : MEs} (h : ms sl S = some (vs, S1)) : eLst ms sl S = some (.lst vs, S1) := by simp only [eLst, h, Option.bind_some]
theorem lstM_ev {ms : MEs} (h : ms sl S = some (vs, S1)) : eLstM ms sl S = some (.ref S1.length, S1 ++ [.lst vs]) := by simp only [eLstM, h, Option.bind_some]
theorem op2_ev {f : Sto → Val → Val → Option Val} {a b : ME} (h1 : a sl S = some (x, S1)) (h2 : b sl S1 = some (y, S2)) (h3 : f S2 x y = some v) : eOp2 f a b sl S = some (v, S2) := by simp only [eOp2, h1, h2, h3, Option.bind_some]
theorem fn_ev {f : FN} {ms : MEs} (h1 : ms sl S = some (vs, S1)) (h2 : f S1 vs = some v) : eFn f ms sl S = some (v, S1) := by simp only [eFn, h1, h2, Option.bind_some]
theorem call_ev {m : MF} {ms : MEs} {r : Val × Sto} (h1 : ms sl S = some (vs, S1)) (h2 : m vs S1 = some r) : eCall m ms sl S = some r := by simp only [eCall, h1, h2, Option.bind_some]
theorem tru_ev {a : ME} {b : Bool} (h : a sl S = some (.bl b, S1)) : tTru a sl S = some (b, S1) := by simp only [tTru, h, truth, Option.bind_some]
theorem not_ev {a : MT} {b : Bool} (h : a sl S = some (b, S1)) : tNotD a sl S = some (!b, S1) := by simp only [tNotD, h, Option.bind_some]
theorem and_f {a b : MT} (h : a sl S = some (false, S1)) : tAndD a b sl S = some (false, S1) := by simp only [tAndD, h, Option.bind_some, Bool.false_eq_true, if_false]
theorem and_t {a b : MT} {r : Bool × Sto} (h : a sl S = some (true, S1)) (h2 : b sl S1 = some r) : tAndD a b sl S = some r := by simp only [tAndD, h, h2, Option.bind_some, if_true]
theorem or_t {a b : MT} (h : a sl S = some (true, S1)) : tOrD a b sl S = some (true, S1) := by simp only [tOrD, h, Option.bind_some, if_true]
theorem or_f {a b : MT} {r : Bool × Sto} (h : a sl S = some (false, S1)) (h2 : b sl S1 = some r) : tOrD a b sl S = some r := by simp only [tOrD, h, h2, Option.bind_some, Bool.false_eq_true, if_false]
theorem ifE_t {c : MT} {a b : ME} {r : Val × Sto} (h : c sl S = some (true, S1)) (h2 : a sl S1 = some r) : eIfE c a b sl S = some r := by simp only [eIfE, h, h2, Option.bind_some, if_true]
theorem ifE_f {c : MT} {a b : ME} {r : Val × Sto} (h : c sl S = some (false, S1)) (h2 : b sl S1 = some r) : eIfE c a b sl S = some r := by simp only [eIfE, h, h2, Option.bind_some, Bool.false_eq_true, if_false]
theorem seq_ev {a b : MS} {r : Option (Fl × Sl × Sto)} (h1 : a sl S = some (.nxt, sl1, S1)) (h2 : b sl1 S1 = r) : sSeq a b sl S = r := by simp only [sSeq, h1, h2, Option.bind_some]
theorem set_ev {i : Nat} {m : ME} (h : m sl S = some (v, S1)) : sSet i m sl S = some (.nxt, sl.set i (some v), S1) := by simp only [sSet, h, Option.bind_some]
theorem exp_ev {m : ME} (h : m sl S = some (v, S1)) : sExp m sl S = some (.nxt, sl, S1) := by simp only [sExp, h, Option.bind_some]
theorem ret_ev {m : ME} (h : m sl S = some (v, S1)) : sRet m sl S = some (.ret v, sl, S1) := by simp only [sRet, h, Option.bind_some]
theorem skip_ev : sSkip sl S = some (.nxt, sl, S) := rfl
theorem if_t {c : MT} {a b : MS} {r : Option (Fl × Sl × Sto)} (h : c sl S = some (true, S1)) (h2 : a sl S1 = r) : sIf c a b sl S = r := by simp only [sIf, h, h2, Option.bind_some, if_true]
theorem if_f {c : MT} {a b : MS} {r : Option (Fl × Sl × Sto)} (h : c sl S = some (false, S1)) (h2 : b sl S1 = r) : sIf c a b sl S = r := by simp only [sIf, h, h2, Option.bind_some, Bool.false_eq_true, if_false]
theorem asg_ev {tg : MG} {m : ME} (h : m sl S = some (v, S1)) (h2 : tg sl S1 v = some sl1) : sAsg tg m sl S = some (.nxt, sl1, S1) := by simp only [sAsg, h, h2, Option.bind_some]
theorem par_ev {i j : Nat} {a b : ME} (h1 : a sl S = some (v, S1)) (h2 : b sl S1 = some (w, S2)) : sPar i j a b sl S = some (.nxt, (sl.set i (some v)).set j (some w), S2) := by simp only [sPar, h1, h2, Option.bind_some]
theorem seqT_ev {m : ME} (h : m sl S = some (.tup xs, S1)) : iSeq m sl S = some (⟨xs, none⟩, S1) := by simp only [iSeq, h, Option.bind_some]
theorem seqP_ev {m : ME} (h : m sl S = some (.ptp xs, S1)) : iSeq m sl S = some (⟨xs, none⟩, S1) := by simp only [iSeq, h, Option.bind_some]
theorem seqL_ev {m : ME} (h : m sl S = some (.lst xs, S1)) : iSeq m sl S = some (⟨xs, none⟩, S1) := by simp only [iSeq, h, Option.bind_some]
theorem rng_ev {m : ME} {n : Nat} (h : m sl S = some (.int n, S1)) (hn : n ≤ 16000000) : iRng1M m sl S = some (⟨rngL 0 n, none⟩, S1) := by
  have : -(2 ^ 62) ≤ (n : Int) ∧ (n : Int) ≤ 16000000 := by omega
  simp only [iRng1M, h, Option.bind_some, this, and_self, if_true, Int.toNat_natCast]
theorem for_ev {tg : MG} {it : MI} {body : MS} {s : Src} {r : Option (Fl × Sl × Sto)} (h : it sl S = some (s, S1)) (h2 : forX tg body s s.l sl S1 = r) : sFor tg it body sl S = r := by simp only [sFor, h, h2, Option.bind_some]
theorem leave_self : leaveS S.length v S = some (v, S) := by simp [leaveS]
theorem def_ret {keep : Bool} {body : MS} {n np : Nat} (hl : xs.length = np) (hb : body (xs.map some ++ List.replicate (n - np) none) S = some (.ret v, sl, S)) : defM keep body n np xs S = some (v, S) := by
  simp only [defM, hl, if_true, hb, Option.bind_some]
  cases keep
  · simp only [Bool.false_eq_true, if_false, leave_self]
  · rfl
theorem def_nxt {keep : Bool} {body : MS} {n np : Nat} (hl : xs.length = np) (hb : body (xs.map some ++ List.replicate (n - np) none) S = some (.nxt, sl, S)) : defM keep body n np xs S = some (.non, S) := by
  simp only [defM, hl, if_true, hb, Option.bind_some]
  cases keep
  · simp only [Bool.false_eq_true, if_false, leave_self]
  · rfl
theorem def_keep {body : MS} {n np : Nat} (hl : xs.length = np) (hb : body (xs.map some ++ List.replicate (n - np) none) S = some (.ret v, sl, S1)) : defM true body n np xs S = some (v, S1) := by
  simp only [defM, hl, if_true, hb, Option.bind_some]
theorem def_leave {body : MS} {n np : Nat} (hl : xs.length = np) (hb : body (xs.map some ++ List.replicate (n - np) none) S = some (.ret v, sl, S1)) (h : leaveS S.length v S1 = some (w, S2)) : defM false body n np xs S = some (w, S2) := by
  simp only [defM, hl, if_true, hb, Option.bind_some, Bool.false_eq_true, if_false, h]
end

/-! ### the program's defs -/
abbrev sV (r : List Str) : List Val := r.map Val.str
abbrev vR (r : List Str) : Val := .tup (sV r)
abbrev gV (G : List NK) : Val := .tup (ofKs G)
def vT (T : Tab) : Val := .tup [.ptp (sV T.items), .tup (T.rows.map vR)]
theorem ofKs_txt (r : List Str) : ofKs (r.map txt) = sV r := by
  induction r with
  | nil => rfl
  | cons x r ih => rw [List.map_cons, ofKs, ih]; rfl
theorem ofK_rK (r : List Str) : ofK (rK r) = vR r := by rw [rK, ofK, ofKs_txt]
theorem zipL_str : ∀ a b : List Str, zipL (sV a) (sV b) = ofKs (List.zipWith pK a b)
  | [], _ => rfl
  | _ :: _, [] => rfl
  | x :: a, y :: b => by
    show Val.tup [.str x, .str y] :: zipL (sV a) (sV b) = _
    rw [zipL_str a b]; rfl
theorem ix0 {a : Val} {l : List Val} : L2.atI (a :: l) 0 = some a := by
  have := L2.atI_nat (xs := a :: l) (j := 0) (v := a) rfl
  simpa using this
theorem ix1 {a b : Val} {l : List Val} : L2.atI (a :: b :: l) 1 = some b := by
  have := L2.atI_nat (xs := a :: b :: l) (j := 1) (v := b) rfl
  simpa using this
variable {S : Sto} {T : Tab}
theorem ixT0 {sl : Sl} {i : Nat} (h : sl[i]? = some (some (vT T))) : eOp2 fIx (eVar i) (eCon (.int 0)) sl S = some (.ptp (sV T.items), S) := op2_ev (var_ev h) con_ev ix0
theorem ixT1 {sl : Sl} {i : Nat} (h : sl[i]? = some (some (vT T))) : eOp2 fIx (eVar i) (eCon (.int 1)) sl S = some (.tup (T.rows.map vR), S) := op2_ev (var_ev h) con_ev ix1
theorem sp_pairs_in {r : List Str} : m_pairs_in [vT T, vR r] S = some (gV (prs T r), S) := by
  refine def_ret (sl := _) rfl (ret_ev ?_)
  have h0 : eOp2 fIx (eVar 0) (eCon (.int 0)) ([vT T, vR r].map some ++ List.replicate (2 - 2) none) S = some (.ptp (sV T.items), S) := ixT0 rfl
  have h1 : eVar 1 ([vT T, vR r].map some ++ List.replicate (2 - 2) none) S = some (vR r, S) := var_ev rfl
  simp only [eTupZip, h0, h1, Option.bind_some, tupOf, zipL_str, Option.map_some]
  rfl
theorem rng_map (n : Nat) : rngL 0 n = (List.range n).map fun i => Val.int ((i : Nat) : Int) := by
  unfold rngL
  refine List.map_congr_left
        fun i _ => ?_
  rw [Int.zero_add]
theorem zip_range : ∀ (a b : List Str), a.length = b.length → ofKs (List.zipWith pK a b) = (List.range a.length).map fun i => Val.tup [.str (a.getD i (⟨#[]⟩ : Str)), .str (b.getD i (⟨#[]⟩ : Str))]
  | [], [], _ => rfl
  | [], _ :: _, h
        => by simp at h
  | _ :: _,
        [], h => by simp at h
  | x :: a, y :: b, h => by
    rw [List.length_cons, List.range_succ_eq_map,
          List.map_cons, List.map_map]
    have := zip_range a b (by simpa using h)
    rw [List.zipWith_cons_cons, ofKs, this]
    rfl
theorem atI_str {a : List Str} {i : Nat} (h : i < a.length) : L2.atI (sV a) ((i : Nat) : Int) = some (.str (a.getD i (⟨#[]⟩ : Str))) := by
  refine L2.atI_nat ?_
  rw [List.getElem?_map, List.getElem?_eq_getElem h,
        List.getD_eq_getElem?_getD, List.getElem?_eq_getElem h]
  rfl
theorem ofKs_flat : ∀ (l : List (List Str)) (f : List Str → List NK), ofKs (l.flatMap f) = l.flatMap fun r => ofKs (f r)
  | [], _ => rfl
  | r :: l, f => by
    rw [List.flatMap_cons, List.flatMap_cons, ofKs_map, List.map_append, ← ofKs_map, ← ofKs_map, ofKs_flat l f]
theorem prs_len {r : List Str} (ok : T.Ok) (hr : r ∈ T.rows) : (prs T r).length = T.items.length := by
  rw [prs, List.length_zipWith, ok.len r hr, Nat.min_self]
theorem items_len (ok : T.Ok) : T.items.length ≤ 6 := (ok.nd.length_le_of_subset fun i hi => ok.it i hi : _ ≤ wideH.length)
theorem flat_len {α β : Type} (f : α → List β) (k : Nat) : ∀ l : List α, (∀ x ∈ l, (f x).length ≤ k) → (l.flatMap f).length ≤ l.length * k
  | [], _ => by simp
  | x :: l, h => by
    have ih := flat_len f k l fun y hy => h y (List.mem_cons_of_mem _ hy)
    have := h x List.mem_cons_self
    rw [List.flatMap_cons, List.length_append, List.length_cons, Nat.succ_mul]
    omega
theorem allP_len (ok : T.Ok) : (allP T).length ≤ 144 := by
  have := flat_len (prs T) 6 T.rows fun r hr => by rw [prs_len ok hr]; exact items_len ok
  have h2 := ok.few
  show (T.rows.flatMap (prs T)).length ≤ 144
  omega
theorem len_ofKs (ks : List NK) : (ofKs ks).length = ks.length := by rw [ofKs_map, List.length_map]
theorem sizes : 4000 ≤ sizeLine := by unfold sizeLine; decide
theorem sp_pairs_of (ok : T.Ok) : m_pairs_of [vT T] S = some (gV (pairsOf T), S) := by
  refine def_ret (sl := _) rfl (seq_ev (asg_ev (sl1 := [some (vT T), some (.ptp (sV T.items)), some (.tup (T.rows.map vR)), none, none]) (var_ev rfl) rfl) (ret_ev (fn_ev (vs := [.lst (ofKs (pairsOf T))]) (S1 := S) (cons_ev (fn_ev (vs := [.lst (ofKs (allP T))]) (S1 := S) (cons_ev ?_ nil_ev) (fSortSet_pr fun k hk => allP_pr ok hk)) nil_ev) rfl)))
  have e : ofKs (allP T) = T.rows.flatMap fun r => (List.range T.items.length).map fun i => Val.tup [.str (T.items.getD i (⟨#[]⟩ : Str)), .str (r.getD i (⟨#[]⟩ : Str))] := by
    rw [allP, ofKs_flat, List.flatMap_def, List.flatMap_def]
    congr 1
    refine List.map_congr_left fun r hr => ?_
    exact zip_range _ _ (ok.len r hr).symm
  rw [e]
  refine eLc2_pure T.rows vR (fun _ => List.range T.items.length) (fun i => Val.int ((i : Nat) : Int)) _ (seqT_ev (var_ev rfl)) (fun r hr => ?_) (fun r hr i hi => ?_) ?_
  · rw [← rng_map]
    have hl : (sV T.items).length = T.items.length := List.length_map ..
    refine rng_ev (fn_ev (vs := [.ptp (sV T.items)]) (cons_ev (var_ev rfl) nil_ev) ?_) (by have := items_len ok; omega)
    show some (Val.int ((sV T.items).length : Int)) = _
    rw [hl]
  · have hi' : i < T.items.length := List.mem_range.mp hi
    exact tup_ev (cons_ev (op2_ev (var_ev rfl) (var_ev rfl) (show L2.atI (sV T.items) ((i : Nat) : Int) = _ from atI_str hi')) (cons_ev (op2_ev (var_ev rfl) (var_ev rfl) (show L2.atI (sV r) ((i : Nat) : Int) = _ from atI_str (by rw [ok.len r hr]; exact hi'))) nil_ev))
  · rw [← e, len_ofKs]
    have := allP_len ok
    have := sizes
    omega
theorem ofKs_one (f : NK → Val) : ∀ ks : List NK, ofKs ks = ks.map ofK := ofKs_map
theorem sp_struck {r : List Str} {G : List NK} (ok : T.Ok) (hr : r ∈ T.rows) (hG : ∀ k ∈ G, Pr k) : m_struck [vT T, vR r, gV G] S = some (.bl (struckB T r G), S) := by
  refine def_ret (sl := _) rfl (ret_ev (fn_ev (vs := [.lst ((prs T r).map fun p => Val.bl (decide (p ∈ G)))]) (S1 := S) (cons_ev ?_ nil_ev) ?_))
  · refine eLc_all (prs T r) ofK _ ?_ fun p hp => ?_
    · rw [← ofKs_map]
      exact seqT_ev (call_ev (cons_ev (var_ev rfl) (cons_ev (var_ev rfl) nil_ev)) sp_pairs_in)
    · refine op2_ev (x := ofK p) (y := gV G) (var_ev rfl) (var_ev rfl) ?_
      rw [fIn_tup (prs_pr ok hr hp).fine fun k hk => (hG k hk).fine, Bool.false_xor]
  · have : ∀ l : List NK, toB (l.map fun p => Val.bl (decide (p ∈ G))) = some (l.map fun p => decide (p ∈ G)) := fun l => by
      induction l with
      | nil => rfl
      | cons a l ih => simp only [List.map_cons, toB, ih, Option.map_some]
    simp only [fQuant, lstOf, Option.bind_some, this, Option.map_some, Bool.false_eq_true, if_false, List.any_map]
    rfl
theorem sp_req {G : List NK} (ok : T.Ok) (hG : ∀ k ∈ G, k ∈ allP T) : m_req [vT T, gV G] S = some (.non, S) := by
  obtain ⟨sl', S', e, hS, _⟩ := for_inv (tg := gNm 3) (body := sIf (tTru (eOp2 (fIn true) (eVar 3) (eVar 2))) sStuck sSkip) (s := ⟨G.map ofK, none⟩) (fun sl S' => S' = S ∧ ∃ x, sl = [some (vT T), some (gV G), some (gV (pairsOf T)), x]) rfl ofK G (sl := [some (vT T), some (gV G), some (gV (pairsOf T)), none]) (S := S) (fun p hp sl S' h => by
    obtain ⟨rfl, x, rfl⟩ := h
    refine ⟨_, _, S', rfl, if_f (tru_ev (op2_ev (x := ofK p) (y := gV (pairsOf T)) (var_ev rfl) (var_ev rfl) ?_)) skip_ev, rfl, _, rfl⟩
    rw [fIn_tup (allP_pr ok (hG p hp)).fine fun k hk => (pairsOf_pr ok hk).fine, decide_eq_true (mem_pairsOf.mpr (hG p hp))]
    rfl) ⟨rfl, none, rfl⟩
  subst hS
  refine def_nxt (sl := sl') rfl (seq_ev (set_ev (call_ev (cons_ev (var_ev rfl) nil_ev) (sp_pairs_of ok))) (for_ev (s := ⟨G.map ofK, none⟩) (S1 := S') ?_ e))
  rw [← ofKs_map]
  exact seqT_ev (var_ev rfl)
theorem sp_alive {G : List NK} (ok : T.Ok) (hG : ∀ k ∈ G, k ∈ allP T) : m_alive [vT T, gV G] S = some (.tup ((alive T G).map vR), S) := by
  refine def_ret (sl := _) rfl (seq_ev (exp_ev (call_ev (cons_ev (var_ev rfl) (cons_ev (var_ev rfl) nil_ev)) (sp_req ok hG))) (ret_ev (fn_ev (vs := [.lst ((alive T G).map vR)]) (S1 := S) (cons_ev ?_ nil_ev) rfl)))
  exact eLc_pure T.rows vR (fun r => !struckB T r G) vR (seqT_ev (ixT1 rfl)) (fun r hr => not_ev (tru_ev (call_ev (cons_ev (var_ev rfl) (cons_ev (var_ev rfl) (cons_ev (var_ev rfl) nil_ev))) (sp_struck ok hr fun k hk => allP_pr ok (hG k hk))))) fun r hr _ => var_ev rfl
theorem living_pr {G : List NK} (ok : T.Ok) {k : NK} (h : k ∈ living T G) : k ∈ allP T := by
  obtain ⟨r, hr, h⟩ := List.mem_flatMap.mp h
  exact List.mem_flatMap.mpr ⟨r, (List.mem_filter.mp hr).1, h⟩
theorem living_len {G : List NK} (ok : T.Ok) : (living T G).length ≤ 144 := by
  have := flat_len (prs T) 6 (alive T G) fun r hr => by rw [prs_len ok (List.mem_filter.mp hr).1]; exact items_len ok
  have h2 : (alive T G).length ≤ T.rows.length := List.length_filter_le ..
  have h3 := ok.few
  show ((alive T G).flatMap (prs T)).length ≤ 144
  omega
theorem sp_dead {G : List NK} (ok : T.Ok) (hG : ∀ k ∈ G, k ∈ allP T) : m_dead [vT T, gV G] S = some (gV (dead T G), S) := by
  refine def_ret (sl := _) rfl (seq_ev (set_ev (v := .lst (ofKs (living T G))) (S1 := S) ?_) (ret_ev (fn_ev (vs := [.lst ((dead T G).map ofK)]) (S1 := S) (cons_ev ?_ nil_ev) (by rw [gV, ofKs_map]; rfl))))
  · have e : ofKs (living T G) = (alive T G).flatMap fun r => (prs T r).map ofK := by
      rw [living, ofKs_flat]
      congr 1
      funext r
      exact ofKs_map _
    rw [e]
    refine eLc2_pure (alive T G) vR (fun r => prs T r) ofK (fun _ p => ofK p) (seqT_ev (call_ev (cons_ev (var_ev rfl) (cons_ev (var_ev rfl) nil_ev)) (sp_alive ok hG))) (fun r hr => ?_) (fun r hr p hp => var_ev rfl) ?_
    · rw [← ofKs_map]
      exact seqT_ev (call_ev (cons_ev (var_ev rfl) (cons_ev (var_ev rfl) nil_ev)) sp_pairs_in)
    · rw [← e, len_ofKs]
      have := living_len (G := G) ok
      have := sizes
      omega
  · refine eLc_pure (pairsOf T) ofK (fun p => decide (p ∉ living T G)) ofK ?_ (fun p hp => tru_ev (op2_ev (x := ofK p) (y := .lst (ofKs (living T G))) (var_ev rfl) (var_ev rfl) ?_)) fun p hp _ => var_ev rfl
    · rw [← ofKs_map]
      exact seqT_ev (call_ev (cons_ev (var_ev rfl) nil_ev) (sp_pairs_of ok))
    · rw [fIn_lst (pairsOf_pr ok hp).fine fun k hk => (allP_pr ok (living_pr ok hk)).fine]
      simp
def breaks (T : Tab) (G H : List NK) : Bool := decide (alive T (G ++ H) = [])
theorem ofKs_rows (l : List (List Str)) : ofKs (l.map rK) = l.map vR := by
  rw [ofKs_map, List.map_map]
  exact List.map_congr_left fun r _ => ofK_rK r
theorem rows_fine (ok : T.Ok) {k : NK} {G : List NK} (h : k ∈ (alive T G).map rK) : Fine k := by
  obtain ⟨r, hr, rfl⟩ := List.mem_map.mp h
  exact rK_fine (ok.wd r (List.mem_filter.mp hr).1)
theorem fineTup {ks : List NK} (h : ∀ k ∈ ks, Fine k) (hd : ∀ k ∈ ks, k.depth ≤ 5) : Fine (.tup ks) := by
  refine ⟨?_, ?_⟩
  · simp only [NestedKey.data, PyData.canLay0]
    exact canLayAll0_of fun k hk => (h k hk).1
  · have : ∀ l : List NK, (∀ k ∈ l, k.depth ≤ 5) → NestedKey.depthAll l ≤ 5 := fun l => by
      induction l with
      | nil => intro _; simp [NestedKey.depthAll]
      | cons a l ih =>
        intro q
        have a1 := q a List.mem_cons_self
        have a2 := ih fun k hk => q k (List.mem_cons_of_mem _ hk)
        simp only
              [NestedKey.depthAll]
        omega
    simp only [NestedKey.depth]
    have := this ks hd
    omega
theorem rK_depth (r : List Str) : (rK r).depth ≤ 3 := by
  have : ∀ l : List Str, NestedKey.depthAll (l.map txt) ≤ 1 := fun l => by
    induction l with
    | nil => simp [NestedKey.depthAll]
    | cons a l ih => simp [NestedKey.depthAll, NestedKey.depth]; omega
  simp only [rK, NestedKey.depth]
  have := this r
  omega
theorem Pr.depth {k : NK} (h : Pr k) : k.depth ≤ 3 := by
  obtain ⟨i, _, c, _, rfl⟩ := h
  simp [pK, NestedKey.depth, NestedKey.depthAll]
theorem rows_fineT (ok : T.Ok) (G : List NK) : Fine (.tup ((alive T G).map rK)) := fineTup (fun k hk => rows_fine ok hk) fun k hk => by
  obtain ⟨r, _, rfl⟩ := List.mem_map.mp hk
  have := rK_depth r
  omega
theorem prs_fineT {G : List NK} (h : ∀ k ∈ G, Pr k) : Fine (.tup G) := fineTup (fun k hk => (h k hk).fine) fun k hk => by have := (h k hk).depth; omega
theorem sp_break {G H : List NK} (ok : T.Ok) (hG : ∀ k ∈ G, k ∈ allP T) (hH : ∀ k ∈ H, k ∈ allP T) (hl : G.length + H.length ≤ 4000) : m_break [vT T, gV G, gV H] S = some (.bl (breaks T G H), S) := by
  have hGH : ∀ k ∈ G ++ H, k ∈ allP T := fun k hk => (List.mem_append.mp hk).elim (hG k) (hH k)
  have ea : ofKs G ++ (ofKs H ++ []) = ofKs (G ++ H) := by rw [List.append_nil, ofKs_map, ofKs_map, ofKs_map, List.map_append]
  refine def_ret (sl := _) rfl (ret_ev (op2_ev (x := .tup ((alive T (G ++ H)).map vR)) (y := .tup []) (S1 := S) (call_ev (vs := [vT T, gV (G ++ H)]) (S1 := S) (cons_ev (var_ev rfl) (cons_ev (tupV_ev (vs := ofKs (G ++ H)) (S1 := S) ?_ ?_) nil_ev)) (sp_alive ok hGH)) (tupV_ev nil_ev (Nat.zero_le _)) ?_))
  · rw [← ea]
    exact star_ev (v := gV G) (var_ev rfl) rfl (star_ev (v := gV H) (var_ev rfl) rfl nil_ev)
  · rw [len_ofKs, List.length_append]
    have := sizes
    omega
  · have h := fEq_ofK (neg := false) (S := S) (rows_fineT ok (G ++ H)) (b := .tup []) (fineTup (ks := []) (fun _ h => by cases h) fun _ h => by cases h)
    rw [ofK, ofK, ofKs_rows] at h
    rw [show (Val.tup [] : Val) = .tup (ofKs []) from rfl, h, breaks, Bool.false_xor]
    congr 2
    refine decide_eq_decide.mpr ?_
    constructor
    · intro q
      injection q with q
      exact List.map_eq_nil_iff.mp q
    · intro q
      rw [q]; rfl
def cands (T : Tab) (n : Nat) : List Str := sortTxt (T.rows.map fun r => r.getD n (⟨#[]⟩ : Str))
theorem toT_sV : ∀ r : List Str, toT (sV r) = some r
  | [] => rfl
  | x :: r => by
    show (toT (sV r)).map (fun ys => x :: ys) = _
    rw [toT_sV r]; rfl
theorem sp_cand {x : Str} (ok : T.Ok) (hx : x ∈ T.items) : m_cand [vT T, .str x] S = some (.tup (sV (cands T (T.items.idxOf x))), S) := by
  have hi : T.items.idxOf x < T.items.length := List.idxOf_lt_length_of_mem hx
  refine def_ret (sl := _) rfl (seq_ev (asg_ev (sl1 := [some (vT T), some (.str x), some (.ptp (sV T.items)), some (.tup (T.rows.map vR)), none, none]) (var_ev rfl) rfl) (seq_ev (if_f (S1 := S) (tru_ev (op2_ev (x := .str x) (y := .ptp (sV T.items)) (S1 := S) (var_ev rfl) (var_ev rfl) ?_)) skip_ev) (seq_ev (set_ev (v := .int ((T.items.idxOf x : Nat) : Int)) (S1 := S) ?_) (ret_ev (fn_ev (vs := [.lst (sV (cands T (T.items.idxOf x)))]) (S1 := S) (cons_ev (fn_ev (vs := [.lst (sV (T.rows.map fun r => r.getD (T.items.idxOf x) (⟨#[]⟩ : Str)))]) (S1 := S) (cons_ev ?_ nil_ev) ?_) nil_ev) rfl)))))
  · have h := fIn_ptp (neg := true) (S := S) (a := txt x) (ks := T.items.map txt) ⟨by simp [NestedKey.data, PyData.canLay0, wideH_ok x (ok.it x hx)], by simp [NestedKey.depth]⟩ (fun k hk => by
      obtain ⟨y, hy, rfl⟩ := List.mem_map.mp hk
      exact ⟨by simp [NestedKey.data, PyData.canLay0, wideH_ok y (ok.it y hy)], by simp [NestedKey.depth]⟩)
    rw [ofKs_txt, decide_eq_true (List.mem_map_of_mem hx)] at h
    exact h
  · have e1 : fIdx S (.ptp (sV T.items)) [.str x] = some (.int ((T.items.idxOf x : Nat) : Int), S) := by
      simp only [fIdx, toT_sV, Option.bind_some, hx, if_true]
    have e2 : ∀ sl : Sl, sl[2]? = some (some (.ptp (sV T.items))) → sl[1]? = some (some (.str x)) → eMeth isP fIdx (eVar 2) (esCons (eVar 1) esNil) sl S = some (.int ((T.items.idxOf x : Nat) : Int), S) := fun sl a b => by
      simp only [eMeth, var_ev (S := S) a, Option.bind_some, isP, if_true, cons_ev (var_ev (S := S) b) nil_ev, e1]
    exact e2 _ rfl rfl
  · rw [show sV (T.rows.map fun r => r.getD (T.items.idxOf x) (⟨#[]⟩ : Str)) = T.rows.map fun r => Val.str (r.getD (T.items.idxOf x) (⟨#[]⟩ : Str)) from List.map_map ..]
    refine eLc_all T.rows vR _ (seqT_ev (var_ev rfl)) fun r hr => op2_ev (var_ev rfl) (var_ev rfl) (show L2.atI (sV r) ((T.items.idxOf x : Nat) : Int) = _ from ?_)
    exact atI_str (by rw [ok.len r hr]; exact hi)
  · have hl : (T.rows.map fun r => r.getD (T.items.idxOf x) (⟨#[]⟩ : Str)).length < 4000 := by
      rw [List.length_map]
      have := ok.few
      omega
    simp only [fSortTxt, lstOf, Option.bind_some, toT_sV, hl, if_true]
    rfl
end K5
namespace Mp
open PySem PySem.Spec
      PyProof.Rows L2
section
variable {X : Cx} {g : Gx} {pos : Pos}
/-- a and b, whose first is a truth value, as a value -/
def eAndB (a b : ME) : ME := fun sl S => (a sl S).bind fun p => match p.1 with
  | .bl true => b sl p.2
  | .bl false => some (.bl false, p.2)
  | _ => none
theorem d_andB {a b : Expr} {rest : List Expr} {ma mb : ME} (ha : PE X a (tD g ma)) (hb : PE X (.BoolOp .And (b :: rest) pos) (tD g mb)) : PE X (.BoolOp .And (a :: b :: rest) pos) (tD g (eAndB ma mb)) := by
  refine PE.weak (pe_and ha hb) fun st H Q h => ?_
  obtain ⟨z, r, S, sl, v, S', R, e, q⟩ := h
  simp only [eAndB, Option.bind_eq_some_iff] at e
  obtain ⟨⟨k, S1⟩, e1, e3⟩ := e
  refine ⟨z, r, S, sl, k, S1, R, e1, fun r1 H1 hv st1 sr1 rv => ?_⟩
  dsimp only at e3
  split at e3
  · cases rv
    refine ⟨true, rfl, ?_⟩
    exact ⟨z, r1, S1, sl, v, S', R.step st1 sr1, e3, fun r2 H2 hw st2 sr2 rw => q r2 H2 hw (st1.trans st2) sr2 rw⟩
  · cases rv
    cases e3
    exact ⟨false, rfl, q r1 H1 _ st1 sr1 (.bl false)⟩
  · cases e3
/-- name = [..], the name a local one -/
theorem ds_setLc {i : Nat} {y : Str} {py : Pos} {spos : Pos} {elt tg iter : Expr} {ifs : List Expr} {scope : Scope} {own : List (Str × Nat)} {it : MI} {t : Tn} {tt : MT} {m : ME} (hK : g.K = X.K) (hc : X.calm = true) (hN : X.N.Nodup) (hy : X.N[i]? = some y) (hyl : X.env.scope.names.lookup y = some .local)
    (hsw : swapsWith (.ListComp elt [⟨tg, iter, ifs, 0⟩] scope pos) (some (.Name y py)) spos.line X.env = pure true) (hi : PI X tg iter (iD g it)) (ok : BlkOk X.N X.env.scope scope own) (hm : ∀ i ∈ t.all, i ∈ own.map (·.2))
    (hg : ∀ (s : Shared) (H : Hp) (C : Addr) (cl : List (Str × Addr)) (fp : List Addr), PG (X.blk s H scope (compEnvC scope cl C X.env) fp) tg (t.t X.K)) (ht : ∀ (s : Shared) (H : Hp) (C : Addr) (cl : List (Str × Addr)) (fp : List Addr), PTs (X.blk s H scope (compEnvC scope cl C X.env) fp) ifs (tDt g tt))
    (he : ∀ (s : Shared) (H : Hp) (C : Addr) (cl : List (Str × Addr)) (fp : List Addr), PE (X.blk s H scope (compEnvC scope cl C X.env) fp) elt (tD g m)) (hs : ∀ x, foldedSetIterable iter X.env x = pure x := by intro _; rfl) :
    PS X (.Assign [.Name y py] (.ListComp elt [⟨tg, iter, ifs, 0⟩] scope pos) spos) (tDS g (sSet i (eLc t it tt m (own.map (·.2))))) := by
  refine PS.weak (ps_setLc (i := i) hc hN hy hyl hsw hi ok hg ht he hs) fun D st H h => ?_
  obtain ⟨z, r, S, sl, f, sl', S', R, e, q⟩ := h
  simp only [sSet, eLc, Option.bind_eq_some_iff] at e
  obtain ⟨⟨v, S1⟩, ⟨p, e1, w, e2, e3⟩, e4⟩ := e
  cases e3
  cases e4
  have e' : ((it sl S).bind fun p => lcX t tt m p.1 (wipeS sl (own.map (·.2))) p.1.l p.2) = some (w.1, w.2) := by simp [e1, e2]
  refine lc_read hK hm R e' fun r' H' A ys st' sr' hD hnr hnz hn hl rv _ => ?_
  exact q r' H' _ st' ⟨sr', (R.sl.mono st' R.sr.own).set (.lst hD hnr hnz hl (RVs.fewz (g := g.at (A :: z)) (fun p hp => List.mem_cons_of_mem _ hp) rv)) i⟩
theorem d_andB1 {a : Expr} {ma : ME} (ha : PE X a (tD g ma)) : PE X (.BoolOp .And [a] pos) (tD g ma) := pe_one ha
end
end Mp
namespace Pilot
open PySem PySem.Spec PyProof.Rows L2 Mp
section
variable {P : Program} {w : World} {K : PySem.W.Frag} {mg : Str → Option Value} {base : Heap} {g : Gx}
abbrev es1 (a : ME) : MEs := esCons a esNil
abbrev es2 (a b : ME) : MEs := esCons a (esCons b esNil)
abbrev es3 (a b c : ME) : MEs := esCons a (esCons b (esCons c esNil))
abbrev s_table : Stmt := top 38
def n_table : List Str := ["_law_reader_here", "_law_wide", "_law_most", "_law_pool", "_law_words", "_law_k", "_law_heads", "_law_head", "_law_widths", "_law_found", "_law_width", "_law_first", "_law_entry"]
theorem sc_table : FnScope n_table ["_law_reader_here", "_law_wide", "_law_most"] (defScope s_table) := ⟨rfl, rfl, rfl, by decide +kernel, rfl, by decide +kernel, by decide +kernel⟩
def c_draw (a : ME) : ME := eCall m_draw (es2 (eVar 0) a)
def esS (xs : List Str) : MEs := esAll (xs.map fun x => eCon (.str x))
theorem esN_S : ∀ xs : List Str, EsN (esS xs) xs.length
  | [] => esN_nil
  | x :: xs => show EsN (esCons (eCon (.str x)) (esS xs)) (xs.length + 1) from esN_cons (esN_S xs)
def t_1 : MS := sAsg (gTp [3, 4]) (eTup (es2 (eLstM (esS ["a", "door", "room", "time", "zzzzzzzz"])) (eLst (esS ["x", "y", "z", "big", "abcdefgh"]))))
def t_2 : MS := sSet 6 (eFn fSortL (es1 (eLc (.nm 5) (iRng1M (eOp2 fAdd (eI 1) (c_draw (eVar 1)))) tYesM (eMeth isL fPop (eVar 3) (es1 (c_draw (eFn fLen (es1 (eVar 3)))))) [5])))
def t_3 : MS := sPar 8 9 (eLc (.nm 7) (iSeq (eVar 6)) tYesM (eOp2 fAdd (eI 2) (c_draw (eI 4))) [7]) eNewN
def t_4 : MS := sFor (gNm 5) (iRng1M (eOp2 fAdd (eI 1) (c_draw (eVar 2)))) (sDPutM (eVar 9) (eFn fTupOf (es1 (eLc (.nm 10) (iSeq (eVar 8)) tYesM (eOp2 fIx (eVar 4) (c_draw (eVar 10))) [10]))) (eCon (.bl true)))
def t_5 : MS := sSet 11 (eFn fMinD (es1 (eVar 9)))
def t_6c : MT := tTru (eOp2 (fOrd .Lt) (eFn fLenTxt (es1 (eLock 9 (eLc (.nm 12) (iKeysN (eVar 9)) tYesM (eOp2 fIx (eVar 12) (eVar 5)) [12])))) (eI 2))
def t_6k : ME := eOp2 fAdd (eOp2 fAdd (eSl (eVar 11) oNo (oSo (eVar 5))) (eTup (es1 (eIfE (tTru (eOp2 (fEq false) (eOp2 fIx (eVar 11) (eVar 5)) (eCon (.str "x")))) (eCon (.str "y")) (eCon (.str "x")))))) (eSl (eVar 11) (oSo (eOp2 fAdd (eVar 5) (eI 1))) oNo)
def t_6 : MS := sFor (gNm 5) (iRng1M (eFn fLen (es1 (eVar 6)))) (sIf t_6c (sDPutM (eVar 9) t_6k (eCon (.bl true))) sSkip)
def t_7 : MS := sRet (eTup (es2 (eFn fTupP (es1 (eVar 6))) (eFn fTupOf (es1 (eFn fSortD (es1 (eVar 9)))))))
def b_table : MS := sSeq t_1 (sSeq t_2 (sSeq t_3 (sSeq t_4 (sSeq t_5 (sSeq t_6 t_7)))))
def m_table : MF := defM false b_table 13 3
theorem ok_table {f : Addr} {fd : FuncData} (F : Fun K "_law_table" "_law_table" s_table f fd) (hK : g.K = K) (hw : g.w = w) (m1 : mg "tuple" = none) (m2 : mg "sorted" = none) (m3 : mg "set" = none) (m4 : mg "range" = none) (m5 : mg "len" = none) (m6 : mg "min" = none) (C1 : Cal1 P w K mg base g 1 "_law_draw" ["_law_reader_here", "_law_many"] m_draw) : FnOk P w K mg base CX0 2 f fd ["_law_reader_here", "_law_wide", "_law_most"] (spD g m_table) := by
  obtain ⟨f1, fd1, F1, g1, k1, b1⟩ := C1.ex
  refine ok_def F sc_table rfl fun cdv A outer s H E hr => ?_
  have hu : (A.deeper (envOfC "_law_table" (defScope s_table) s.heap.objs.size f cdv)).units + 200 < cLine := by have := hr.un; omega
  have hu12 := Nat.lt_of_le_of_lt (Nat.add_le_add_left (show 12 ≤ 200 by decide) _) hu
  have hu20 := Nat.lt_of_le_of_lt (Nat.add_le_add_left (show 20 ≤ 200 by decide) _) hu
  have hu64 := Nat.lt_of_le_of_lt (Nat.add_le_add_left (show 64 ≤ 200 by decide) _) hu
  refine ds_cons (ds_asg (d_tup (d_cons (d_lstM (n := 5) (d_cons d_str (d_cons d_str (d_cons d_str (d_cons d_str (d_cons d_str d_nil))))) (esN_S _)) (d_cons (d_lst (n := 5) (d_cons d_str (d_cons d_str (d_cons d_str (d_cons d_str (d_cons d_str d_nil))))) (esN_S _)) d_nil)) (esN_cons (esN_cons esN_nil))) (dg_tp hK rfl (dgs_cons (i := 3) sc_table.nd rfl (by first | exact Or.inl rfl | exact Or.inr rfl) (dgs_cons (i := 4) sc_table.nd rfl (by first | exact Or.inl rfl | exact Or.inr rfl) dgs_nil)))) ?_
  refine ds_cons (ds_set (i := 6) sc_table.nd rfl (by first | exact Or.inl rfl | exact Or.inr rfl) (d_blt (c_sort hK hu20) rfl m2 (by decide +kernel) (d_cons ?_ d_nil))) ?_
  · refine d_lc (own := [("_law_k", 5)]) hK rfl sc_table.nd (di_rng1 rfl m4 (d_bin (o_add hK) d_int (d_call F1 hr (by decide) rfl g1 k1 b1 (d_cons (d_var (i := 0)) (d_cons (d_var (i := 1)) d_nil))))) (show BlkOk n_table (defScope s_table) _ _ from ⟨rfl, by decide +kernel, by decide +kernel, by decide +kernel, by decide +kernel⟩) (by decide) (fun _ _ _ _ _ => pg_name sc_table.nd rfl (by first | exact Or.inl rfl | exact Or.inr rfl)) (fun _ _ _ _ _ => dts_nil) (fun _ _ _ _ _ => d_pop (d_var (i := 3)) (d_cons ?_ d_nil))
    exact d_call F1 hr (by decide) rfl g1 k1 b1 (d_cons (d_var (i := 0)) (d_cons (d_blt (c_len hK) rfl m5 (by decide +kernel) (d_cons (d_var (i := 3)) d_nil)) d_nil))
  refine ds_cons (ds_par (i := 8) (j := 9) rfl sc_table.nd rfl rfl (by decide) rfl rfl ?_ (d_newN hw) rfl) ?_
  · exact d_lc (own := [("_law_head", 7)]) hK rfl sc_table.nd (di_seq hK (d_var (i := 6))) (show BlkOk n_table (defScope s_table) _ _ from ⟨rfl, by decide +kernel, by decide +kernel, by decide +kernel, by decide +kernel⟩) (by decide) (fun _ _ _ _ _ => pg_name sc_table.nd rfl (by first | exact Or.inl rfl | exact Or.inr rfl)) (fun _ _ _ _ _ => dts_nil) (fun _ _ _ _ _ => d_bin (o_add hK) d_int (d_call F1 hr (by decide) rfl g1 k1 b1 (d_cons (d_var (i := 0)) (d_cons d_int d_nil))))
  refine ds_cons (ds_for PassesOwn.never rfl (di_rng1 rfl m4 (d_bin (o_add hK) d_int (d_call F1 hr (by decide) rfl g1 k1 b1 (d_cons (d_var (i := 0)) (d_cons (d_var (i := 2)) d_nil))))) (dg_nm (i := 5) sc_table.nd rfl (by first | exact Or.inl rfl | exact Or.inr rfl)) (ds_one (ds_dput hK hw hu12 (d_var (i := 9)) (d_typ (c_tuple hK) rfl m1 (by decide +kernel) (d_cons ?_ d_nil)) d_bl))) ?_
  · exact d_lc (own := [("_law_width", 10)]) hK rfl sc_table.nd (di_seq hK (d_var (i := 8))) (show BlkOk n_table (defScope s_table) _ _ from ⟨rfl, by decide +kernel, by decide +kernel, by decide +kernel, by decide +kernel⟩) (by decide) (fun _ _ _ _ _ => pg_name sc_table.nd rfl (by first | exact Or.inl rfl | exact Or.inr rfl)) (fun _ _ _ _ _ => dts_nil) (fun _ _ _ _ _ => d_ix hK (d_var (i := 4)) (d_call F1 hr (by decide) rfl g1 k1 b1 (d_cons (d_var (i := 0)) (d_cons (d_var (i := 10)) d_nil))))
  refine ds_cons (ds_set (i := 11) sc_table.nd rfl (by first | exact Or.inl rfl | exact Or.inr rfl) (d_blt (c_minD hK hw rfl hu20) rfl m6 (by decide +kernel) (d_cons (d_var (i := 9)) d_nil))) ?_
  refine ds_cons (ds_for PassesOwn.never rfl (di_rng1 rfl m4 (d_blt (c_len hK) rfl m5 (by decide +kernel) (d_cons (d_var (i := 6)) d_nil))) (dg_nm (i := 5) sc_table.nd rfl (by first | exact Or.inl rfl | exact Or.inr rfl)) (ds_one (ds_if (d_tcmp hK (o_ord hK hu64) ?_ d_int rfl fOrd_bl) ?_ ds_nil))) ?_
  · refine d_lenTxt rfl rfl m5 rfl m3 (d_lock ?_)
    exact d_lc (own := [("_law_entry", 12)]) hK rfl sc_table.nd (di_keysN hw (d_var (i := 9))) (show BlkOk n_table (defScope s_table) _ _ from ⟨rfl, by decide +kernel, by decide +kernel, by decide +kernel, by decide +kernel⟩) (by decide) (fun _ _ _ _ _ => pg_name sc_table.nd rfl (by first | exact Or.inl rfl | exact Or.inr rfl)) (fun _ _ _ _ _ => dts_nil) (fun _ _ _ _ _ => d_ix hK (d_var (i := 12)) (d_var (i := 5)))
  · refine ds_one (ds_dput hK hw hu12 (d_var (i := 9)) ?_ d_bl)
    refine d_bin (o_add hK) (d_bin (o_add hK) (d_sl hK (d_var (i := 11)) do_no (do_so (d_var (i := 5)))) (d_tup (d_cons ?_ d_nil) (esN_cons esN_nil))) (d_sl hK (d_var (i := 11)) (do_so (d_bin (o_add hK) (d_var (i := 5)) d_int)) do_no)
    exact d_ifE (d_tcmp hK (o_eq hK hu64) (d_ix hK (d_var (i := 11)) (d_var (i := 5))) d_str rfl fEq_bl) d_str d_str
  exact ds_one (ds_ret (d_tup (d_cons (d_typ c_tupleP rfl m1 (by decide +kernel) (d_cons (d_var (i := 6)) d_nil)) (d_cons (d_typ (c_tuple hK) rfl m1 (by decide +kernel) (d_cons (d_blt (c_sortD hK hw rfl hu20) rfl m2 (by decide +kernel) (d_cons (d_var (i := 9)) d_nil)) d_nil)) d_nil)) (esN_cons (esN_cons esN_nil))))
end
end Pilot
namespace Pilot
open PySem PySem.Spec PyProof.Rows L2 Mp
section
variable {P : Program} {w : World} {K : PySem.W.Frag} {mg : Str → Option Value} {base : Heap} {g : Gx}
def sNo : MS := sRet (eCon (.bl false))
def n_two : List Str := ["_law_grid", "_law_one", "_law_other", "_law_both", "_law_left", "_law_right", "_law_entry", "_law_dead", "_law_part"]
def c_al (i : Nat) : ME := eCall m_alive (es2 (eVar 0) (eVar i))
def c_de (i : Nat) : ME := eCall m_dead (es2 (eVar 0) (eVar i))
def c_br (a b : ME) : ME := eCall m_break (es3 (eVar 0) a b)
def w_1 : MS := sAsg (gTp [3, 4, 5]) (eTup (es3 (eCall m_joined (es2 (eVar 1) (eVar 2))) (c_al 1) (c_al 2)))
def w_2 : MS := sIf (tTru (eOp2 (fEq true) (c_al 3) (eFn fTupOf (es1 (eLc (.nm 6) (iSeq (eVar 4)) (tTru (eOp2 (fIn false) (eVar 6) (eVar 5))) (eVar 6) [6]))))) sNo sSkip
def w_3 : MS := sSet 7 (c_de 3)
def w_4 : MS := sIf (tTru (eOp2 (fEq true) (eLc (.nm 8) (iSeq (eOp2 fAdd (c_de 1) (eVar 3))) (tTru (eOp2 (fIn true) (eVar 8) (eVar 7))) (eVar 8) [8]) (eLst esNil))) sNo sSkip
def w_5 : MS := sIf (tTru (eOp2 (fEq true) (c_br (eVar 1) (eVar 2)) (eOp2 (fEq false) (c_al 3) (eTup esNil)))) sNo sSkip
def w_6 : MS := sIf (tTru (eOp2 (fEq true) (c_br (eVar 3) (eTup esNil)) (c_br (eVar 2) (eVar 1)))) sNo sSkip
def w_7 : MS := sRet (eAndB (eOp2 (fEq false) (c_al 7) (c_al 3)) (eOp2 (fEq false) (c_de 7) (eVar 7)))
def b_two : MS := sSeq w_1 (sSeq w_2 (sSeq w_3 (sSeq w_4 (sSeq w_5 (sSeq w_6 w_7)))))
def m_two : MF := defM false b_two 9 3
def n_cp : List Str := ["_law_grid", "_law_gone", "_law_dead", "_law_held", "_law_entry", "_law_part", "_law_fresh", "_law_other", "_law_more"]
def c_po : ME := eCall m_pairs_of (es1 (eVar 0))
def p_1 : MS := sAsg (gTp [2, 3]) (eTup (es2 (c_de 1) eNewN))
def p_2 : MS := sFor (gNm 4) (iSeq (c_al 1)) (sExp (eMeth isDn fUpd (eVar 3) (es1 (eLc (.nm 5) (iSeq (eCall m_pairs_in (es2 (eVar 0) (eVar 4)))) tYesM (eTup (es2 (eVar 5) (eCon (.bl true)))) [5]))))
def p_3 : MS := sIf (tTru (eOp2 (fEq true) (eFn fTupOf (es1 (eFn fSortD (es1 (eVar 3))))) (eFn fTupOf (es1 (eLc (.nm 5) (iSeq c_po) (tTru (eOp2 (fIn true) (eVar 5) (eVar 2))) (eVar 5) [5]))))) sNo sSkip
def p_4a : MS := sSet 6 (eCall m_dead (es2 (eVar 0) (eCall m_joined (es2 (eVar 1) (eTup (es1 (eVar 5)))))))
def p_4b : MS := sSet 8 (eLc (.nm 7) (iSeq (eVar 6)) (tAndD (tTru (eOp2 (fIn true) (eVar 7) (eVar 2))) (tTru (eOp2 (fEq true) (eVar 7) (eVar 5)))) (eVar 7) [7])
def p_4c : MS := sIf (tOrD (tTru (eOp2 (fIn true) (eVar 5) (eVar 6))) (tTru (eOp2 (fEq true) (eLc (.nm 7) (iSeq (eVar 8)) (tTru (eOp2 (fEq false) (eOp2 fIx (eVar 7) (eI 0)) (eOp2 fIx (eVar 5) (eI 0)))) (eVar 7) [7]) (eLst esNil)))) sNo sSkip
def p_4d : MS := sIf (tAndD (tTru (eOp2 (fIn false) (eVar 5) (eVar 2))) (tTru (eOp2 (fEq true) (eVar 8) (eLst esNil)))) sNo sSkip
def p_4 : MS := sFor (gNm 5) (iSeq c_po) (sSeq p_4a (sSeq p_4b (sSeq p_4c p_4d)))
def b_cp : MS := sSeq p_1 (sSeq p_2 (sSeq p_3 (sSeq p_4 (sRet (eCon (.bl true))))))
def m_cp : MF := defM false b_cp 9 2
def n_law : List Str := ["_law_script", "_law_reader_here", "_law_turn", "_law_grid", "_law_k", "_law_lots", "_law_one", "_law_other", "_law_gone"]
def l_1 : MS := sSet 1 (eCall m_reader (es1 (eVar 0)))
def l_a : MS := sSet 3 (eCall m_table (es3 (eVar 1) (eI 4) (eOp2 fIx (eLst (es3 (eI 20) (eI 8) (eI 8))) (eVar 2))))
def l_b : MS := sSet 5 (eFn fSortSet (es1 (eOp2 fAdd (eLc (.nm 4) (iRng1M (eI 2)) tYesM (eCall m_subset (es2 (eVar 1) (eCall m_pairs_of (es1 (eVar 3))))) [4]) (eLst (es1 (eTup esNil))))))
def l_c : MS := sFor (gNm 6) (iSeq (eVar 5)) (sIf (tTru (eOp2 (fEq true) (eLc (.nm 7) (iSeq (eVar 5)) (tNotD (tTru (eCall m_two (es3 (eVar 3) (eVar 6) (eVar 7))))) (eVar 7) [7]) (eLst esNil))) sNo sSkip)
def l_d : MS := sFor (gNm 8) (iSeq (eVar 5)) (sIf (tOrD (tNotD (tTru (eCall m_cp (es2 (eVar 3) (eVar 8))))) (tNotD (tTru (eCall m_items (es2 (eVar 3) (eVar 8)))))) sNo sSkip)
def l_2 : MS := sFor (gNm 2) (iRng1M (eI 3)) (sSeq l_a (sSeq l_b (sSeq l_c l_d)))
def b_law : MS := sSeq l_1 (sSeq l_2 (sRet (eCon (.bl true))))
def m_law : MF := defM true b_law 9 1
end
end Pilot
namespace K5
open PySem PySem.Spec PyProof.Rows L2 Mp Pilot
variable {S : Sto} {T : Tab}
/-- struck pairs of the table -/
structure Sub (T : Tab) (G : List NK) : Prop where
  sub : ∀ k ∈ G, k ∈ allP T
  few : G.length ≤ 200
theorem Sub.pr {G : List NK} (ok : T.Ok) (h : Sub T G) : ∀ k ∈ G, Pr k := fun k hk => allP_pr ok (h.sub k hk)
theorem sorted_len {ks : List NK} (h : ∀ k ∈ ks, Pr k) : (sortKeys ks).length ≤ 42 := by
  rw [(sortKeys_perm ks).length_eq]
  exact uniq_pr h
theorem Sub.join {G H : List NK} (ok : T.Ok) (hG : Sub T G) (hH : Sub T H) : Sub T (sortKeys (G ++ H)) := by
  have h1 : ∀ k ∈ G ++ H, k ∈ allP T := fun k hk => (List.mem_append.mp hk).elim (hG.sub k) (hH.sub k)
  refine ⟨fun k hk => h1 k (mem_sortKeys.mp hk), ?_⟩
  have := sorted_len fun k hk => allP_pr ok (h1 k hk)
  omega
theorem dead_sub {G : List NK} (ok : T.Ok) : Sub T (dead T G) := by
  refine ⟨fun k hk => mem_pairsOf.mp (List.mem_filter.mp hk).1, ?_⟩
  have h1 : (dead T G).length ≤ (pairsOf T).length := List.length_filter_le ..
  have := sorted_len (ks := allP T) fun k hk => allP_pr ok hk
  have h2 : (pairsOf T).length = (sortKeys (allP T)).length := rfl
  omega
theorem sub_nil : Sub T [] := ⟨fun k h => (List.not_mem_nil h).elim, Nat.zero_le _⟩
/-! ### which rows are alive -/
theorem mem_alive {G : List NK} {r : List Str} : r ∈ alive T G ↔ r ∈ T.rows ∧ ∀ p ∈ prs T r, p ∉ G := by
  simp only [alive, List.mem_filter, struckB, Bool.not_eq_true', List.any_eq_false, decide_eq_true_eq]
theorem alive_ext {G H : List NK} (h : ∀ r ∈ T.rows, (∀ p ∈ prs T r, p ∉ G) ↔ ∀ p ∈ prs T r, p ∉ H) : alive T G = alive T H := by
  refine List.filter_congr fun r hr => ?_
  have e := h r hr
  have q : ∀ G : List NK, (!struckB T r G) = decide (∀ p ∈ prs T r, p ∉ G) := fun G => by
    rw [Bool.eq_iff_iff,
          decide_eq_true_eq]
    simp only [struckB, Bool.not_eq_true', List.any_eq_false, decide_eq_true_eq]
  rw [q, q, decide_eq_decide.mpr e]
theorem alive_join {G H : List NK} : alive T (sortKeys (G ++ H)) = alive T (G ++ H) := alive_ext fun r _ => by simp only [mem_sortKeys]
theorem alive_swap {G H : List NK} : alive T (G ++ H) = alive T (H ++ G) := alive_ext fun r _ => by
  simp only [List.mem_append, or_comm]
theorem mem_allP {k : NK} : k ∈ allP T ↔ ∃ r ∈ T.rows, k ∈ prs T r := List.mem_flatMap
theorem mem_living {G : List NK} {k : NK} : k ∈ living T G ↔ ∃ r ∈ alive T G, k ∈ prs T r := List.mem_flatMap
theorem mem_dead {G : List NK} {k : NK} : k ∈ dead T G ↔ k ∈ allP T ∧ ∀ r ∈ alive T G, k ∉ prs T r := by
  simp only [dead, List.mem_filter, mem_pairsOf, decide_eq_true_eq, mem_living, not_exists, not_and]
theorem alive_dead {G : List NK} (hG : ∀ k ∈ G, k ∈ allP T) : alive T (dead T G) = alive T G := alive_ext fun r hr => by
  constructor
  · intro h p hp hg
    refine h p hp (mem_dead.mpr ⟨hG p hg, fun r' hr' hp' => ?_⟩)
    exact (mem_alive.mp hr').2 p hp' hg
  · intro h p hp hd
    exact (mem_dead.mp hd).2 r (mem_alive.mpr ⟨hr, h⟩) hp
theorem dead_of_alive {G H : List NK} (h : alive T G = alive T H) : dead T G = dead T H := by
  unfold dead living
  rw [h]
theorem dead_dead {G : List NK} (hG : ∀ k ∈ G, k ∈ allP T) : dead T (dead T G) = dead T G := dead_of_alive (alive_dead hG)
theorem dead_more {G H : List NK} (h : ∀ k ∈ G, k ∈ H) {k : NK} (hk : k ∈ dead T G) : k ∈ dead T H := by
  obtain ⟨a, b⟩ := mem_dead.mp hk
  refine mem_dead.mpr ⟨a, fun r hr => b r ?_⟩
  obtain ⟨c, d⟩ := mem_alive.mp hr
  exact mem_alive.mpr ⟨c, fun p hp q => d p hp (h p q)⟩
theorem struck_dead {G : List NK} {k : NK} (h : k ∈ G) (hk : k ∈ allP T) : k ∈ dead T G := mem_dead.mpr ⟨hk, fun r hr hp => (mem_alive.mp hr).2 k hp h⟩
/-! ### joined -/
theorem add_gV {A B : List NK} (h : A.length + B.length ≤ 4000) : fAdd S (gV A) (gV B) = some (gV (A ++ B)) := by
  have hl : (ofKs A).length + (ofKs B).length ≤ sizeLine := by
    rw [len_ofKs, len_ofKs]
    have := sizes
    omega
  have e : ofKs A ++ ofKs B = ofKs (A ++ B) := by rw [ofKs_map, ofKs_map, ofKs_map, List.map_append]
  simp only [fAdd, hl, if_true, e]
theorem sp_joined {G H : List NK} (ok : T.Ok) (hG : Sub T G) (hH : Sub T H) : m_joined [gV G, gV H] S = some (gV (sortKeys (G ++ H)), S) := by
  have h1 : ∀ k ∈ G ++ H, Pr k := fun k hk => (List.mem_append.mp hk).elim (hG.pr ok k) (hH.pr ok k)
  have e : fAdd S (gV G) (gV H) = some (gV (G ++ H)) := add_gV (by have := hG.few; have := hH.few; omega)
  exact def_ret (sl := _) rfl (ret_ev (fn_ev (vs := [.lst (ofKs (sortKeys (G ++ H)))]) (S1 := S) (cons_ev (fn_ev (vs := [gV (G ++ H)]) (S1 := S) (cons_ev (op2_ev (var_ev rfl) (var_ev rfl) e) nil_ev) (fSortSet_prT h1)) nil_ev) rfl))
/-! ### the first check -/
theorem ev_al {sl : Sl} {i : Nat} {G : List NK} (ok : T.Ok) (hG : Sub T G) (h0 : sl[0]? = some (some (vT T))) (h1 : sl[i]? = some (some (gV G))) : c_al i sl S = some (.tup ((alive T G).map vR), S) := call_ev (cons_ev (var_ev h0) (cons_ev (var_ev h1) nil_ev)) (sp_alive ok hG.sub)
theorem ev_de {sl : Sl} {i : Nat} {G : List NK} (ok : T.Ok) (hG : Sub T G) (h0 : sl[0]? = some (some (vT T))) (h1 : sl[i]? = some (some (gV G))) : c_de i sl S = some (gV (dead T G), S) := call_ev (cons_ev (var_ev h0) (cons_ev (var_ev h1) nil_ev)) (sp_dead ok hG.sub)
theorem ev_br {sl : Sl} {a b : ME} {G H : List NK} (ok : T.Ok) (hG : Sub T G) (hH : Sub T H) (h0 : sl[0]? = some (some (vT T))) (h1 : a sl S = some (gV G, S)) (h2 : b sl S = some (gV H, S)) : c_br a b sl S = some (.bl (breaks T G H), S) := call_ev (cons_ev (var_ev h0) (cons_ev h1 (cons_ev h2 nil_ev))) (sp_break ok hG.sub hH.sub (by have := hG.few; have := hH.few; omega))
theorem eq_rows {neg : Bool} {G H : List NK} (ok : T.Ok) : fEq neg S (.tup ((alive T G).map vR)) (.tup ((alive T H).map vR)) = some (.bl (neg ^^ decide (alive T G = alive T H))) := by
  have h := fEq_ofK (neg := neg) (S := S) (rows_fineT ok G) (rows_fineT ok H)
  rw [ofK, ofK, ofKs_rows, ofKs_rows] at h
  rw [h]
  congr 3
  refine decide_eq_decide.mpr ⟨fun q => ?_, fun q => by rw [q]⟩
  injection q with q
  have inj : ∀ a b : List (List Str), a.map rK = b.map rK → a = b := fun a => by
    induction a with
    | nil => intro b e; cases b with
      | nil => rfl
      | cons y b => simp at e
    | cons x a ih => intro b e; cases b with
      | nil => simp at e
      | cons y b =>
        simp only [List.map_cons,
              List.cons.injEq] at e
        rw [rK_inj e.1, ih b e.2]
  exact inj _ _ q
theorem eq_gV {neg : Bool} {G H : List NK} (hG : ∀ k ∈ G, Pr k) (hH : ∀ k ∈ H, Pr k) : fEq neg S (gV G) (gV H) = some (.bl (neg ^^ decide (G = H))) := by
  have h := fEq_ofK (neg := neg) (S := S) (prs_fineT hG) (prs_fineT hH)
  rw [ofK, ofK] at h
  rw [h]
  congr 3
  exact decide_eq_decide.mpr ⟨fun q => by injection q, fun q => by rw [q]⟩
theorem nil_lst {neg : Bool} : fEq neg S (.lst []) (.lst []) = some (.bl (neg ^^ true)) := by
  have h := fEq_lst (neg := neg) (S := S) (a := []) (b := []) (fun _ h => by cases h) (fun _ h => by cases h) (by simp [PyData.depth, NestedKey.datas, PyData.depthAll])
  rw [decide_eq_true rfl] at h
  exact h
theorem fEq_bool {neg a b : Bool} : fEq neg S (.bl a) (.bl b) = some (.bl (neg ^^ decide (a = b))) := by
  cases a <;> cases b <;> cases neg <;> rfl
end K5
namespace K5
open PySem PySem.Spec PyProof.Rows L2 Mp Pilot
variable {S : Sto} {T : Tab}
abbrev nox : Str := (⟨#[]⟩ : Str)
theorem zip_mem {x c : Str} : ∀ (a b : List Str), a.Nodup → a.length = b.length → (pK x c ∈ List.zipWith pK a b ↔ x ∈ a ∧ b.getD (a.idxOf x) nox = c)
  | [], [], _, _ => by simp
  | [], _ :: _, _, h => by simp at h
  | _ :: _, [], _, h => by simp at h
  | y :: a, z :: b, nd, h => by
    have ih := zip_mem (x := x) (c := c) a b (List.nodup_cons.mp nd).2 (by simpa using h)
    have hy := (List.nodup_cons.mp nd).1
    rw [List.zipWith_cons_cons, List.mem_cons, ih, List.mem_cons, List.idxOf_cons]
    by_cases e : y = x
    · subst e
      simp only [beq_self_eq_true, cond_true, List.getD_cons_zero, true_or, true_and]
      constructor
      · rintro (q | q)
        · exact (pK_inj q).2.symm
        · exact absurd q.1 hy
      · intro q
        left
        rw [q]
    · have e2 : (y == x) = false := by simpa using e
      simp only [e2, cond_false, List.getD_cons_succ]
      constructor
      · rintro (q | q)
        · exact absurd (pK_inj q).1.symm e
        · exact ⟨.inr q.1, q.2⟩
      · rintro ⟨q | q, w⟩
        · exact absurd q.symm e
        · exact .inr ⟨q, w⟩
theorem mem_prs {r : List Str} (ok : T.Ok) (hr : r ∈ T.rows) {x c : Str} : pK x c ∈ prs T r ↔ x ∈ T.items ∧ r.getD (T.items.idxOf x) nox = c := zip_mem _ _ ok.nd (ok.len r hr).symm
theorem mem_cands {n : Nat} {c : Str} : c ∈ cands T n ↔ ∃ r ∈ T.rows, r.getD n nox = c := by
  rw [cands, sortTxt, (List.mergeSort_perm _ _).mem_iff, mem_uniqT, List.mem_map]
theorem uniqT_len : ∀ l : List Str, (uniqT l).length ≤ l.length
  | [] => Nat.le_refl _
  | x :: l => by
    have ih := uniqT_len l
    unfold uniqT
    split
    · simp only
            [List.length_cons]; omega
    · simp only
            [List.length_cons]; omega
theorem cands_len {n : Nat} (ok : T.Ok) : (cands T n).length ≤ 24 := by
  rw [cands, sortTxt, (List.mergeSort_perm _ _).length_eq]
  refine Nat.le_trans (uniqT_len _) ?_
  rw [List.length_map]
  exact ok.few
def every (T : Tab) (x : Str) : List NK := (cands T (T.items.idxOf x)).map (pK x)
theorem every_sub {x : Str} (ok : T.Ok) (hx : x ∈ T.items) : Sub T (every T x) := by
  refine ⟨fun k hk => ?_, ?_⟩
  · obtain ⟨c, hc, rfl⟩ := List.mem_map.mp hk
    obtain ⟨r, hr, e⟩ := mem_cands.mp hc
    exact mem_allP.mpr ⟨r, hr, (mem_prs ok hr).mpr ⟨hx, e⟩⟩
  · rw [every, List.length_map]
    have := cands_len (n := T.items.idxOf x) ok
    omega
theorem every_breaks {G : List NK} {x : Str} (ok : T.Ok) (hx : x ∈ T.items) : breaks T G (every T x) = true := by
  unfold breaks
  refine decide_eq_true ?_
  cases e : alive T (G ++ every T x) with
  | nil => rfl
  | cons r l =>
    exfalso
    obtain ⟨hr, h⟩ := mem_alive.mp (show r ∈ alive T (G ++ every T x) by rw [e]; exact List.mem_cons_self)
    refine h (pK x (r.getD (T.items.idxOf x) nox)) ((mem_prs ok hr).mpr ⟨hx, rfl⟩) (List.mem_append_right _ ?_)
    exact List.mem_map_of_mem (mem_cands.mpr ⟨r, hr, rfl⟩)
theorem rest_breaks {G : List NK} {x : Str} (ok : T.Ok) (hx : x ∈ T.items) {p : NK} (hp : p ∈ every T x) : breaks T G ((every T x).filter fun o => decide (o ≠ p)) = decide (p ∈ dead T G) := by
  obtain ⟨c, hc, rfl⟩ := List.mem_map.mp hp
  have hall : pK x c ∈ allP T := (every_sub ok hx).sub _ hp
  unfold breaks
  refine decide_eq_decide.mpr ?_
  rw [mem_dead]
  constructor
  · intro e
    refine ⟨hall, fun r hr hm => ?_⟩
    obtain ⟨h1, h2⟩ := mem_alive.mp hr
    have : r ∈ alive T (G ++ (every T x).filter fun o => decide (o ≠ pK x c)) := by
      refine mem_alive.mpr ⟨h1, fun q hq hin => ?_⟩
      rcases List.mem_append.mp hin with z | z
      · exact h2 q hq z
      · obtain ⟨z1, z2⟩ := List.mem_filter.mp z
        obtain ⟨d, _, rfl⟩ := List.mem_map.mp z1
        have e1 := ((mem_prs ok h1).mp hq).2
        have e2 := ((mem_prs ok h1).mp hm).2
        exact (of_decide_eq_true z2) (by rw [← e1, ← e2])
    rw [e] at this
    exact absurd this List.not_mem_nil
  · rintro ⟨_, h⟩
    cases e : alive T (G ++ (every T x).filter fun o => decide (o ≠ pK x c)) with
    | nil => rfl
    | cons r l =>
      exfalso
      obtain ⟨h1, h2⟩ := mem_alive.mp (show r ∈ alive T (G ++ (every T x).filter fun o => decide (o ≠ pK x c)) by rw [e]; exact List.mem_cons_self)
      have hG : r ∈ alive T G := mem_alive.mpr ⟨h1, fun q hq z => h2 q hq (List.mem_append_left _ z)⟩
      have hd : pK x (r.getD (T.items.idxOf x) nox) ∈ prs T r := (mem_prs ok h1).mpr ⟨hx, rfl⟩
      by_cases q : r.getD (T.items.idxOf x) nox = c
      · rw [q] at hd
        exact h r hG hd
      · refine h2 _ hd (List.mem_append_right _ (List.mem_filter.mpr ⟨List.mem_map_of_mem (mem_cands.mpr ⟨r, h1, rfl⟩), decide_eq_true fun z => q (pK_inj z).2⟩))
theorem filter_sub {G : List NK} {p : NK → Bool} (h : Sub T G) : Sub T (G.filter p) := ⟨fun k hk => h.sub k (List.mem_filter.mp hk).1, Nat.le_trans (List.length_filter_le ..) h.few⟩
theorem every_val {x : Str} (l : List Str) : (l.map fun c => Val.tup [.str x, .str c]) = ofKs (l.map (pK x)) := by
  rw [ofKs_map, List.map_map]
  rfl
theorem fEq_flag {a b : Bool} (h : a = b) : fEq true S (.bl a) (.bl b) = some (.bl false) := by
  rw [fEq_bool, decide_eq_true h]; rfl
/-! ### the second check -/
theorem for_prog {α : Type} {tg : MG} {body : MS} {s : Src} (P : List α → Sl → Sto → Prop) (hs : s.n = none) (f : α → Val) : ∀ (l : List α) {done : List α} {sl : Sl} {S : Sto}, (∀ x ∈ l, ∀ done sl S, P done sl S → ∃ sl1 sl2 S2, tg sl S (f x) = some sl1 ∧ body sl1 S = some (.nxt, sl2, S2) ∧ P (done ++ [x]) sl2 S2) → P done sl S →
    ∃ sl' S', forX tg body s (l.map f) sl S = some (.nxt, sl', S') ∧ P (done ++ l) sl' S'
  | [], done, sl, S, _, hP => ⟨sl, S, by simp [forX, Src.ok, hs], by simpa using hP⟩
  | x :: l, done, sl, S, h, hP => by
    obtain ⟨sl1, sl2, S2, e1, e2, hP2⟩ := h x List.mem_cons_self done sl S hP
    obtain ⟨sl', S', e, hQ⟩ := for_prog P hs f l (fun y hy => h y (List.mem_cons_of_mem _ hy)) hP2
    exact ⟨sl', S', by simp only [List.map_cons, forX, Src.ok, hs, if_true, e1, Option.bind_some, e2, e], by simpa using hQ⟩
theorem put_keys {k : NK} {v : Val} : ∀ kvs : List (NK × Val), (kvs.map (·.1)).Nodup → ((putG kvs k v).map (·.1)).Nodup ∧ ∀ j, j ∈ (putG kvs k v).map (·.1) ↔ j ∈ kvs.map (·.1) ∨ j = k
  | [], _ => by simp [putG]
  | p :: ps, nd => by
    unfold putG
    by_cases e : p.1 = k
    · simp only [e, if_true, List.map_cons] at nd ⊢
      refine ⟨nd, fun j => ?_⟩
      simp only [List.mem_cons]
      constructor
      · exact .inl
      · rintro (h | h)
        · exact h
        · exact .inl h
    · simp only [e, if_false, List.map_cons] at nd ⊢
      obtain ⟨n1, n2⟩ :=
            List.nodup_cons.mp nd
      obtain ⟨i1, i2⟩ := put_keys ps n2
      refine ⟨List.nodup_cons.mpr ⟨fun h => ?_, i1⟩, fun j => ?_⟩
      · rcases (i2 _).mp h with h | h
        · exact n1 h
        · exact e h
      · rw [List.mem_cons, i2, List.mem_cons, or_assoc]
theorem putAll_keys : ∀ (ps kvs : List (NK × Val)), (kvs.map (·.1)).Nodup → ((Mp.putAll kvs ps).map (·.1)).Nodup ∧ ∀ j, j ∈ (Mp.putAll kvs ps).map (·.1) ↔ j ∈ kvs.map (·.1) ∨ j ∈ ps.map (·.1)
  | [], kvs, nd => ⟨nd, fun j => by simp [Mp.putAll]⟩
  | p :: ps, kvs, nd => by
    obtain ⟨a1, a2⟩ := put_keys (k := p.1) (v := p.2) kvs nd
    obtain ⟨b1, b2⟩ := putAll_keys ps (putG kvs p.1 p.2) a1
    refine ⟨b1, fun j => ?_⟩
    show j ∈ (Mp.putAll (putG kvs p.1 p.2) ps).map (·.1) ↔ _
    rw [b2, a2, List.map_cons, List.mem_cons, or_assoc]
theorem prsOf_true : ∀ l : List NK, prsOf (l.map fun p => Val.tup [ofK p, .bl true]) = some (l.map fun p => (p, Val.bl true))
  | [] => rfl
  | p :: l => by
    simp only [List.map_cons, prsOf, toK_ofK, Option.bind_some, prsOf_true l, Option.map_some]
theorem keysOk_pr {kvs : List (NK × Val)} (h : ∀ k ∈ kvs.map (·.1), Pr k) : keysOk kvs = true := by
  unfold keysOk
  rw [List.all_eq_true]
  intro p hp
  have q := h p.1 (List.mem_map_of_mem hp)
  obtain ⟨xs, e⟩ := q.tup
  have d := q.depth
  rw [e] at d ⊢
  simp only [keyOk, Bool.and_true, decide_eq_true_eq]
  omega
theorem nodup_pr_len {ks : List NK} (nd : ks.Nodup) (h : ∀ k ∈ ks, Pr k) : ks.length ≤ 42 := by
  have : ks.length ≤ (wideH.flatMap fun i => wideW.map fun c => pK i c).length := nd.length_le_of_subset fun k hk => (Pr.cases k).mp (h k hk)
  exact Nat.le_trans this (by decide)
theorem get_last {a : SO} : (S ++ [a])[S.length]? = some a := by simp
theorem set_last {a b : SO} : (S ++ [a]).set S.length b = S ++ [b] := by simp
theorem filter_none {α : Type} (l : List α) : (l.filter fun _ => false) = [] := List.filter_eq_nil_iff.mpr fun _ _ q => by cases q
theorem upd_ev {mo me : ME} {sl : Sl} {n : Nat} {kvs ps : List (NK × Val)} {ys : List Val} (ho : mo sl S = some (.ref n, S)) (hs : S[n]? = some (.dN kvs)) (ha : me sl S = some (.lst ys, S)) (hp : prsOf ys = some ps) (h1 : keysOk kvs = true) (h2 : keysOk ps = true) (h3 : kvs.length + ps.length ≤ sizeLine) :
    eMeth isDn fUpd mo (es1 me) sl S = some (.non, S.set n (.dN (Mp.putAll kvs ps))) := by
  have e1 : isDn S (.ref n) = true := by simp only [isDn, hs]
  have e2 : fUpd S (.ref n) [.lst ys] = some (.non, S.set n (.dN (Mp.putAll kvs ps))) := by
    simp only [fUpd, hs, lstOf, Option.bind_some, hp, h1, h2, decide_eq_true h3, Bool.and_self, if_true]
  show ((mo sl S).bind fun o => if isDn o.2 o.1 then (esCons me esNil sl o.2).bind fun p => fUpd p.2 o.1 p.1 else none) = _
  simp only [ho, Option.bind_some, e1, if_true, cons_ev ha nil_ev, e2]
def itemOf : NK → NK
  | .tup (a :: _) => a
  | _ => .none
theorem ix_item {k : NK} (h : Pr k) : fIx S (ofK k) (.int 0) = some (ofK (itemOf k)) := by
  obtain ⟨i, _, c, _, rfl⟩ := h
  exact ix0
theorem item_fine {k : NK} (h : Pr k) : Fine (itemOf k) := by
  obtain ⟨i, hi, c, _, rfl⟩ := h
  exact ⟨by simp [itemOf, pK, NestedKey.data, PyData.canLay0, wideH_ok i hi], by simp [itemOf, pK, NestedKey.depth]⟩
theorem and_ev {a b : MT} {sl : Sl} {x y : Bool} (h : a sl S = some (x, S)) (h2 : b sl S = some (y, S)) : tAndD a b sl S = some (x && y, S) := by
  cases x
  · exact and_f h
  · exact and_t h h2
end K5
namespace K5
open PySem PySem.Spec PyProof.Rows L2 Mp Pilot
/-! ### the reader -/
def rdr (cs : List Int) (nx rs dr : Int) : SO := .dK [(.inr "cells", .lst (cs.map Val.int)), (.inr "next", .int nx), (.inr "rest", .int rs), (.inr "draws", .int dr)]
def IsR (R : SO) : Prop := ∃ cs nx rs dr, R = rdr cs nx rs dr
section
variable {sl : Sl} {t : Sto} {cs : List Int} {nx rs dr : Int}
abbrev V0 (sl : Sl) : Prop := sl[0]? = some (some (.ref 0))
theorem fld_cells (h : V0 sl) : eFld "cells" sl (rdr cs nx rs dr :: t) = some (.lst (cs.map Val.int), rdr cs nx rs dr :: t) := op2_ev (var_ev h) con_ev (by rfl)
theorem fld_next (h : V0 sl) : eFld "next" sl (rdr cs nx rs dr :: t) = some (.int nx, rdr cs nx rs dr :: t) := op2_ev (var_ev h) con_ev (by rfl)
theorem fld_rest (h : V0 sl) : eFld "rest" sl (rdr cs nx rs dr :: t) = some (.int rs, rdr cs nx rs dr :: t) := op2_ev (var_ev h) con_ev (by rfl)
theorem fld_draws (h : V0 sl) : eFld "draws" sl (rdr cs nx rs dr :: t) = some (.int dr, rdr cs nx rs dr :: t) := op2_ev (var_ev h) con_ev (by rfl)
theorem four_small : (4 : Nat) < sizeLine := by unfold sizeLine; decide
theorem dput_ev {md mk mv : ME} {S S1 S2 S3 S4 : Sto} {d k v : Val} (h1 : mv sl S = some (v, S1)) (h2 : md sl S1 = some (d, S2)) (h3 : mk sl S2 = some (k, S3)) (h4 : dicPut S3 d k v = some S4) : sDPutM md mk mv sl S = some (.nxt, sl, S4) := by
  simp only [sDPutM, h1, h2, h3, Option.bind_some, h4, Option.map_some]
theorem put_next {v : Int} : dicPut (rdr cs nx rs dr :: t) (.ref 0) (.str "next") (.int v) = some (rdr cs v rs dr :: t) := by
  show (if (4 : Nat) < sizeLine then some _ else none) = _
  rw [if_pos four_small]
  rfl
theorem put_rest {v : Int} : dicPut (rdr cs nx rs dr :: t) (.ref 0) (.str "rest") (.int v) = some (rdr cs nx v dr :: t) := by
  show (if (4 : Nat) < sizeLine then some _ else none) = _
  rw [if_pos four_small]
  rfl
theorem put_draws {v : Int} : dicPut (rdr cs nx rs dr :: t) (.ref 0) (.str "draws") (.int v) = some (rdr cs nx rs v :: t) := by
  show (if (4 : Nat) < sizeLine then some _ else none) = _
  rw [if_pos four_small]
  rfl
end
section
variable {S : Sto}
theorem add_int {a b : Int} : fAdd S (.int a) (.int b) = some (.int (a + b)) := rfl
theorem mod_int {a b : Int} (h : 0 < b) : fMod S (.int a) (.int b) = some (.int (a % b)) := by simp only [fMod, h, if_true]
theorem div_int {a b : Int} (h : 0 < b) (h2 : b < 1073741824) : fDiv S (.int a) (.int b) = some (.int (a / b)) := by simp only [fDiv, h, h2, and_self, if_true]
theorem mul_int {a b : Int} (h : -(2 ^ 64) < a ∧ a < 2 ^ 64) : fMul S (.int a) (.int b) = some (.int (a * b)) := by
  have : mulOk a b = true := by
    unfold mulOk
    rw [decide_eq_true h.1, decide_eq_true h.2]
    rfl
  simp only [fMul, this, if_true]
theorem ordOk_int {a b : Int} : ordOk (.int a) (.int b) = true := by
  simp [ordOk, PySem.W.alike, PyData.depth]
theorem gt_int {a b : Int} : fOrd .Gt S (.int a) (.int b) = some (.bl (decide (b < a))) := by
  simp only [fOrd, toDS, toD, Option.bind_some, ordOk_int, if_true, ordV, PySem.W.dataLt_int, Option.map_some]
theorem lt_int {a b : Int} : fOrd .Lt S (.int a) (.int b) = some (.bl (decide (a < b))) := by
  simp only [fOrd, toDS, toD, Option.bind_some, ordOk_int, if_true, ordV, PySem.W.dataLt_int, Option.map_some]
theorem ge_int {a b : Int} : fOrd .GtE S (.int a) (.int b) = some (.bl (!decide (a < b))) := by
  simp only [fOrd, toDS, toD, Option.bind_some, ordOk_int, if_true, ordV, PySem.W.dataLt_int, Option.map_some]
theorem toDs_int : ∀ cs : List Int, toDs (cs.map Val.int) = some (cs.map PyData.int)
  | [] => rfl
  | c :: cs => by
    show (toD (.int c)).bind (fun d => (toDs (cs.map Val.int)).map fun ds => d :: ds) = _
    rw [toDs_int cs]; rfl
theorem canLay_ints : ∀ cs : List Int, PyData.canLayAll0 (cs.map PyData.int) = true
  | [] => rfl
  | c :: cs => by simp [PyData.canLayAll0, PyData.canLay0, canLay_ints cs]
theorem ne_nil_ints {cs : List Int} : fEq true S (.lst (cs.map Val.int)) (.lst []) = some (.bl (decide (cs ≠ []))) := by
  have e : eqOk (.list (cs.map PyData.int)) (.list []) = true := by
    unfold eqOk
    have : (PyData.list []).depth ≤ 1 := by simp [PyData.depth, PyData.depthAll]
    simp only [PyData.canLay0, canLay_ints, PyData.canLayAll0, Bool.true_and, decide_eq_true_eq]
    omega
  have d1 : toDS S (.lst (cs.map Val.int)) = some (.list (cs.map PyData.int)) := by
    show (toDs (cs.map Val.int)).map PyData.list = _
    rw [toDs_int]; rfl
  have d2 : toDS S (.lst []) = some (.list []) := rfl
  simp only [fEq, d1, d2, Option.bind_some, e, if_true]
  cases cs with
  | nil => simp [PyData.eqv, PyData.eqvAll]
  | cons c cs => simp [PyData.eqv, PyData.eqvAll]
theorem ix_ints {cs : List Int} {i : Int} (h0 : 0 ≤ i) (h1 : i < cs.length) : ∃ c, fIx S (.lst (cs.map Val.int)) (.int i) = some (.int c) := by
  obtain ⟨n, rfl⟩ : ∃ n : Nat, i = (n : Int) := ⟨i.toNat, by omega⟩
  have hi : n < cs.length := by omega
  refine ⟨cs[n], L2.atI_nat ?_⟩
  rw [List.getElem?_map,
        List.getElem?_eq_getElem hi]
  rfl
end
theorem len_ints {S : Sto} {cs : List Int} : fLen S [.lst (cs.map Val.int)] = some (.int (cs.length : Int)) := by
  show some (Val.int ((cs.map Val.int).length : Int)) = _
  rw [List.length_map]
/-! ### a draw -/
theorem sp_draw {R : SO} {t : Sto} {many : Int} (hR : IsR R) (h0 : 0 < many) (h1 : many < 1073741824) : ∃ d R', IsR R' ∧ 0 ≤ d ∧ d < many ∧ m_draw [.ref 0, .int many] (R :: t) = some (.int d, R' :: t) := by
  obtain ⟨cs, nx, rs, dr, rfl⟩ := hR
  have c0 : ([Val.ref 0, .int many].map some ++ List.replicate (6 - 2) none : Sl) = [some (.ref 0), some (.int many), none, none, none, none] := rfl
  have e1 : b_draw1 [some (.ref 0), some (.int many), none, none, none, none] (rdr cs nx rs dr :: t) = some (.nxt, [some (.ref 0), some (.int many), none, none, none, none], rdr cs nx rs (dr + 1) :: t) :=
    dput_ev (op2_ev (fld_draws rfl) con_ev add_int) (var_ev rfl) con_ev put_draws
  by_cases hp : 0 < rs
  · refine ⟨rs % many, rdr cs nx (rs / many) (dr + 1), ⟨_, _, _, _, rfl⟩, Int.emod_nonneg _ (by omega), Int.emod_lt_of_pos _ h0, ?_⟩
    refine def_keep (sl := [some (.ref 0), some (.int many), some (.int (rs % many)), none, none, none]) rfl ?_
    rw [c0]
    refine seq_ev e1 ?_
    have e2 : b_draw2 [some (.ref 0), some (.int many), none, none, none, none] (rdr cs nx rs (dr + 1) :: t) = some (.ret (.int (rs % many)), [some (.ref 0), some (.int many), some (.int (rs % many)), none, none, none], rdr cs nx (rs / many) (dr + 1) :: t) := by
      refine if_t (S1 := rdr cs nx rs (dr + 1) :: t) (tru_ev (op2_ev (fld_rest rfl) con_ev (by rw [gt_int, decide_eq_true hp]))) ?_
      refine seq_ev (set_ev (op2_ev (fld_rest rfl) (var_ev rfl) (mod_int h0))) ?_
      refine seq_ev (dput_ev (op2_ev (fld_rest rfl) (var_ev rfl) (div_int h0 h1)) (var_ev rfl) con_ev put_rest) ?_
      exact ret_ev (var_ev rfl)
    simp only [sSeq, e2, Option.bind_some]
  · have e2 : b_draw2 [some (.ref 0), some (.int many), none, none, none, none] (rdr cs nx rs (dr + 1) :: t) = some (.nxt, [some (.ref 0), some (.int many), none, none, none, none], rdr cs nx rs (dr + 1) :: t) :=
      if_f (S1 := rdr cs nx rs (dr + 1) :: t) (tru_ev (op2_ev (fld_rest rfl) con_ev (by rw [gt_int, decide_eq_false hp]))) rfl
    have e3 : b_draw3 [some (.ref 0), some (.int many), none, none, none, none] (rdr cs nx rs (dr + 1) :: t) = some (.nxt, [some (.ref 0), some (.int many), none, some (.int nx), none, none], rdr cs nx rs (dr + 1) :: t) := set_ev (fld_next rfl)
    have e3b : b_draw3b [some (.ref 0), some (.int many), none, some (.int nx), none, none] (rdr cs nx rs (dr + 1) :: t) = some (.nxt, [some (.ref 0), some (.int many), none, some (.int nx), none, none], rdr cs (nx + 1) rs (dr + 1) :: t) :=
      dput_ev (op2_ev (var_ev rfl) con_ev add_int) (var_ev rfl) con_ev put_next
    have e3c : ∃ cell, b_draw3c [some (.ref 0), some (.int many), none, some (.int nx), none, none] (rdr cs (nx + 1) rs (dr + 1) :: t) = some (.nxt, [some (.ref 0), some (.int many), none, some (.int nx), some (.int cell), none], rdr cs (nx + 1) rs (dr + 1) :: t) := by
      by_cases hc : cs = []
      · refine ⟨29, set_ev (ifE_f (S1 := rdr cs (nx + 1) rs (dr + 1) :: t) (tru_ev (op2_ev (fld_cells rfl) (lst_ev nil_ev) ?_)) con_ev)⟩
        rw [ne_nil_ints, decide_eq_false (fun q => q hc)]
      · have hl : 0 < cs.length := List.length_pos_iff.mpr hc
        obtain ⟨c, ec⟩ := ix_ints (S := rdr cs (nx + 1) rs (dr + 1) :: t) (cs := cs) (i := nx % (cs.length : Int)) (Int.emod_nonneg _ (by omega)) (Int.emod_lt_of_pos _ (by omega))
        refine ⟨c, set_ev (ifE_t (S1 := rdr cs (nx + 1) rs (dr + 1) :: t) (tru_ev (op2_ev (fld_cells rfl) (lst_ev nil_ev) ?_)) (op2_ev (fld_cells rfl) (op2_ev (var_ev rfl) (fn_ev (cons_ev (fld_cells rfl) nil_ev) len_ints) (mod_int (by omega))) ec))⟩
        rw [ne_nil_ints, decide_eq_true hc]
    obtain ⟨cell, e3c⟩ := e3c
    have front : ∀ r, b_draw4 [some (.ref 0), some (.int many), none, some (.int nx), some (.int cell), none] (rdr cs (nx + 1) rs (dr + 1) :: t) = r → b_draw [some (.ref 0), some (.int many), none, none, none, none] (rdr cs nx rs dr :: t) = sSeq (fun _ _ => r) (sSeq b_draw5 (sSeq b_draw6 b_draw7)) [some (.ref 0), some (.int many), none, some (.int nx), some (.int cell), none] (rdr cs (nx + 1) rs (dr + 1) :: t) := fun r h => by
      refine seq_ev e1 (seq_ev e2 (seq_ev e3 (seq_ev e3b (seq_ev e3c ?_))))
      simp only [sSeq, h]
    have hpow : fPow (rdr cs (nx + 1) rs (dr + 1) :: t) (.int 10) (.int 18) = some (.int (10 ^ 18)) := by rfl
    by_cases hb : ¬ (cell < 10 ^ 18) ∧ nx < (cs.length : Int)
    · refine ⟨cell % many, rdr cs (nx + 1) (cell / many) (dr + 1), ⟨_, _, _, _, rfl⟩, Int.emod_nonneg _ (by omega), Int.emod_lt_of_pos _ h0, ?_⟩
      refine def_keep (sl := [some (.ref 0), some (.int many), none, some (.int nx), some (.int cell), none]) rfl ?_
      rw [c0]
      have e4 : b_draw4 [some (.ref 0), some (.int many), none, some (.int nx), some (.int cell), none] (rdr cs (nx + 1) rs (dr + 1) :: t) = some (.ret (.int (cell % many)), [some (.ref 0), some (.int many), none, some (.int nx), some (.int cell), none], rdr cs (nx + 1) (cell / many) (dr + 1) :: t) := by
        refine if_t (S1 := rdr cs (nx + 1) rs (dr + 1) :: t) (and_t (S1 := rdr cs (nx + 1) rs (dr + 1) :: t) (tru_ev (op2_ev (var_ev rfl) (op2_ev con_ev con_ev hpow) (by rw [ge_int, decide_eq_false hb.1]; rfl))) (tru_ev (op2_ev (var_ev rfl) (fn_ev (cons_ev (fld_cells rfl) nil_ev) len_ints) (by rw [lt_int, decide_eq_true hb.2])))) ?_
        refine seq_ev (dput_ev (op2_ev (var_ev rfl) (var_ev rfl) (div_int h0 h1)) (var_ev rfl) con_ev put_rest) ?_
        exact ret_ev (op2_ev (var_ev rfl) (var_ev rfl) (mod_int h0))
      rw [front _ e4]
      simp only [sSeq, Option.bind_some]
    · have e4 : b_draw4 [some (.ref 0), some (.int many), none, some (.int nx), some (.int cell), none] (rdr cs (nx + 1) rs (dr + 1) :: t) = some (.nxt, [some (.ref 0), some (.int many), none, some (.int nx), some (.int cell), none], rdr cs (nx + 1) rs (dr + 1) :: t) := by
        refine if_f (S1 := rdr cs (nx + 1) rs (dr + 1) :: t) ?_ rfl
        by_cases hb1 : cell < 10 ^ 18
        · exact and_f (tru_ev (op2_ev (var_ev rfl) (op2_ev con_ev con_ev hpow) (by rw [ge_int, decide_eq_true hb1]; rfl)))
        · refine and_t (S1 := rdr cs (nx + 1) rs (dr + 1) :: t) (tru_ev (op2_ev (var_ev rfl) (op2_ev con_ev con_ev hpow) (by rw [ge_int, decide_eq_false hb1]; rfl))) (tru_ev (op2_ev (var_ev rfl) (fn_ev (cons_ev (fld_cells rfl) nil_ev) len_ints) (by rw [lt_int, decide_eq_false fun q => hb ⟨hb1, q⟩])))
      generalize hm1 : (cell % 1000000447 + 140009 * (dr + 1) + 71) % 2147483489 = m1
      have r1 : 0 ≤ m1 ∧ m1 < 2147483489 := by rw [← hm1]; exact ⟨Int.emod_nonneg _ (by decide), Int.emod_lt_of_pos _ (by decide)⟩
      generalize hm2 : (m1 * m1 + 4099093 * (dr + 1) + 37) % 2147483477 = m2
      have r2 : 0 ≤ m2 ∧ m2 < 2147483477 := by rw [← hm2]; exact ⟨Int.emod_nonneg _ (by decide), Int.emod_lt_of_pos _ (by decide)⟩
      refine ⟨((m2 * m2 + 83 * m2) % 2147483423 / 16) % many, rdr cs (nx + 1) rs (dr + 1), ⟨_, _, _, _, rfl⟩, Int.emod_nonneg _ (by omega), Int.emod_lt_of_pos _ h0, ?_⟩
      refine def_keep (sl := [some (.ref 0), some (.int many), none, some (.int nx), some (.int cell), some (.int m2)]) rfl ?_
      rw [c0, front _ e4]
      refine seq_ev (sl1 := [some (.ref 0), some (.int many), none, some (.int nx), some (.int cell), none]) (S1 := rdr cs (nx + 1) rs (dr + 1) :: t) rfl ?_
      refine seq_ev (set_ev (v := .int m1) (op2_ev (op2_ev (op2_ev (op2_ev (var_ev rfl) con_ev (mod_int (by decide))) (op2_ev con_ev (fld_draws rfl) (mul_int (by decide))) add_int) con_ev add_int) con_ev (by rw [mod_int (by decide), hm1]))) ?_
      refine seq_ev (set_ev (v := .int m2) (op2_ev (op2_ev (op2_ev (op2_ev (var_ev rfl) (var_ev rfl) (mul_int (by omega))) (op2_ev con_ev (fld_draws rfl) (mul_int (by decide))) add_int) con_ev add_int) con_ev (by rw [mod_int (by decide), hm2]))) ?_
      exact ret_ev (op2_ev (op2_ev (op2_ev (op2_ev (op2_ev (var_ev rfl) (var_ev rfl) (mul_int (by omega))) (op2_ev con_ev (var_ev rfl) (mul_int (by decide))) add_int) con_ev (mod_int (by decide))) con_ev (div_int (by decide) (by decide))) (var_ev rfl) (mod_int h0))
end K5
namespace K5
open PySem PySem.Spec PyProof.Rows L2 Mp Pilot
theorem draw_ev {sl : Sl} {R : SO} {t : Sto} {a : ME} {many : Int} (hR : IsR R) (h : V0 sl) (ha : a sl (R :: t) = some (.int many, R :: t)) (h0 : 0 < many) (h1 : many < 1073741824) : ∃ d R', IsR R' ∧ 0 ≤ d ∧ d < many ∧ c_draw a sl (R :: t) = some (.int d, R' :: t) := by
  obtain ⟨d, R', a1, a2, a3, a4⟩ := sp_draw (t := t) hR h0 h1
  exact ⟨d, R', a1, a2, a3, call_ev (cons_ev (var_ev h) (cons_ev ha nil_ev)) a4⟩
theorem rng_evS {m : ME} {sl : Sl} {S S1 : Sto} {k : Int} (h : m sl S = some (.int k, S1)) (h0 : 0 ≤ k) (hn : k ≤ 1000) : iRng1M m sl S = some (⟨rngL 0 k.toNat, none⟩, S1) := by
  obtain ⟨n, rfl⟩ : ∃ n : Nat, k = (n : Int) := ⟨k.toNat, by omega⟩
  exact rng_ev h (by omega)
theorem rng_len (n : Nat) : (rngL 0 n).length = n := by simp [rngL]
/-! a pool that is popped -/
theorem map_erase : ∀ (l : List Str) (n : Nat), (sV l).eraseIdx n = sV (l.eraseIdx n)
  | [], _ => rfl
  | _ :: _, 0 => rfl
  | x :: l, n + 1 => by
    show Val.str x :: (sV l).eraseIdx n = Val.str x :: sV (l.eraseIdx n)
    rw [map_erase l n]
theorem erase_perm : ∀ (l : List Str) (n : Nat) (h : n < l.length), (l[n] :: l.eraseIdx n).Perm l
  | x :: l, 0, _ => .refl _
  | x :: l, n + 1, h => by
    show (l[n]'(by simpa using h) :: x :: l.eraseIdx n).Perm (x :: l)
    exact (List.Perm.swap x _ _).trans ((erase_perm l n (by simpa using h)).cons x)
theorem fPop_at {S : Sto} {n k : Nat} {i : Int} {ys : List Val} {y : Val} (hs : S[n]? = some (.lst ys)) (hc : -(2 ^ 63) ≤ i ∧ i < 2 ^ 63) (hk : seqIndex? i ys.length = some k) (hy : ys[k]? = some y) : fPop S (.ref n) [.int i] = some (y, S.set n (.lst (ys.eraseIdx k))) := by
  simp only [fPop, hs]
  rw [if_pos hc, hk, Option.bind_some, hy, Option.map_some]
theorem small63 {i : Int} (h0 : 0 ≤ i) (h1 : i ≤ 1000) : -(2 ^ 63) ≤ i ∧ i < 2 ^ 63 := by omega
theorem pop_core {sl : Sl} {S S1 S2 : Sto} {v y : Val} {mo ma : ME} (ho : mo sl (S) = some (.ref 1, S)) (ha : ma sl S = some (v, S1)) (q : fPop S1 (.ref 1) [v] = some (y, S2)) (hl : isL S (.ref 1) = true := by rfl) : eMeth isL fPop mo (es1 ma) sl S = some (y, S2) := by
  unfold eMeth
  rw [ho, Option.bind_some]
  dsimp only
  rw [if_pos hl, show es1 ma sl S = some ([v], S1) from cons_ev ha nil_ev, Option.bind_some]
  exact q
theorem pop_ev {sl : Sl} {R R' : SO} {t : Sto} {pl : List Str} {mo ma : ME} {d : Int} (ho : mo sl (R :: .lst (sV pl) :: t) = some (.ref 1, R :: .lst (sV pl) :: t)) (ha : ma sl (R :: .lst (sV pl) :: t) = some (.int d, R' :: .lst (sV pl) :: t)) (h0 : 0 ≤ d) (h1 : d < pl.length) (hf : pl.length ≤ 1000) :
    ∃ x, eMeth isL fPop mo (es1 ma) sl (R :: .lst (sV pl) :: t) = some (.str x, R' :: .lst (sV (pl.eraseIdx d.toNat)) :: t) ∧ (x :: pl.eraseIdx d.toNat).Perm pl := by
  obtain ⟨n, rfl⟩ : ∃ n : Nat, d = (n : Int) := ⟨d.toNat, by omega⟩
  have hn : n < pl.length := by omega
  have es : seqIndex? (n : Int) (sV pl).length = some n := by
    rw [seqIndex_of (k := (n : Int)) (n := (sV pl).length) h0 (by rw [List.length_map]; exact h1), Int.toNat_natCast]
  have eg : (sV pl)[n]? = some (.str pl[n]) := by
    rw [List.getElem?_map, List.getElem?_eq_getElem hn]; rfl
  have q := fPop_at (S := R' :: SO.lst (sV pl) :: t) (n := 1) rfl (small63 h0 (by omega)) es eg
  rw [map_erase] at q
  refine ⟨pl[n], ?_, ?_⟩
  · rw [Int.toNat_natCast]
    exact pop_core ho ha q
  · rw [Int.toNat_natCast]
    exact erase_perm pl n hn
theorem toKs_sV : ∀ r : List Str, toKs (sV r) = some (r.map txt)
  | [] => rfl
  | x :: r => by
    show (toK (.str x)).bind (fun k => (toKs (sV r)).map fun ks => k :: ks) = _
    rw [toKs_sV r]; rfl
theorem sort_strs {S : Sto} {r : List Str} : ∃ r', r'.Perm r ∧ r'.Pairwise (fun a b => txtLe a b = true) ∧ fSortL S [.lst (sV r)] = some (.lst (sV r')) := by
  refine ⟨r.mergeSort txtLe, List.mergeSort_perm _ _, List.pairwise_mergeSort (fun a b c h1 h2 => keyLe_total.trans (.text a) (.text b) (.text c) h1 h2) (fun a b => by rw [Bool.or_eq_true]; exact keyLe_total.total (.text a) (.text b)) _, ?_⟩
  have ok : sortOk (r.map txt) = true := by
    unfold sortOk
    rw [alikeKeys_of fun a ha b hb => by
      obtain ⟨x, _, rfl⟩ := List.mem_map.mp ha
      obtain ⟨y, _, rfl⟩ := List.mem_map.mp hb
      simp [NestedKey.data, PySem.W.alike]]
    have e : sortableKeys (r.map txt) = true := by
      unfold sortableKeys
      rw [Bool.or_eq_true, List.all_eq_true, List.all_eq_true]
      right
      intro k hk
      obtain ⟨x, _, rfl⟩ := List.mem_map.mp hk
      rfl
    rw [e]
    simp [NestedKey.depth]
  have em : (r.mergeSort txtLe).map txt = (r.map txt).mergeSort keyLe := List.map_mergeSort fun a _ b _ => rfl
  simp only [fSortL, lstOf, Option.bind_some, toKs_sV, ok, if_true]
  rw [← em, ofKs_txt]
/-! rows as keys -/
def RowK (n : Nat) (k : NK) : Prop := ∃ r, k = rK r ∧ r.length = n ∧ ∀ c ∈ r, c ∈ wideW
theorem RowK.fine {n : Nat} {k : NK} (h : RowK n k) : Fine k := by
  obtain ⟨r, rfl, _, hw⟩ := h
  exact rK_fine hw
theorem row_sortOk {n : Nat} {ks : List NK} (h : ∀ k ∈ ks, RowK n k) : sortOk ks = true := sortOk_of (fun a ha b hb => by
  obtain ⟨r, rfl, _⟩ := h a ha
  obtain ⟨r', rfl, _⟩ := h b hb
  exact alike_rK r r') (fun k hk => by obtain ⟨r, rfl, _⟩ := h k hk; exact ⟨_, rfl⟩) fun k hk => (h k hk).fine
theorem row_keyOk {n : Nat} {k : NK} (h : RowK n k) : Mp.keyOk k = true := by
  have := h.fine.2
  obtain ⟨r, rfl, _⟩ := h
  rw [rK] at this ⊢
  simp only [Mp.keyOk, Bool.and_true, decide_eq_true_eq]
  omega
theorem row_keysOk {n : Nat} {kvs : List (NK × Val)} (h : ∀ k ∈ kvs.map (·.1), RowK n k) : keysOk kvs = true := by
  unfold keysOk
  rw [List.all_eq_true]
  exact fun p hp => row_keyOk (h p.1 (List.mem_map_of_mem hp))
theorem toK_row (r : List Str) : toK (.tup (sV r)) = some (rK r) := by
  rw [toK, toKs_sV]; rfl
theorem put_len {k : NK} {v : Val} : ∀ kvs : List (NK × Val), (putG kvs k v).length ≤ kvs.length + 1 ∧ 1 ≤ (putG kvs k v).length
  | [] => by simp [putG]
  | p :: ps => by
    have ih := put_len (k := k) (v := v) ps
    unfold putG
    split
    · simp
    · simp only
            [List.length_cons]; omega
theorem put_mem {k : NK} {v : Val} : ∀ kvs : List (NK × Val), ∀ j ∈ (putG kvs k v).map (·.1), j ∈ kvs.map (·.1) ∨ j = k
  | [], j, h => by simp [putG] at h; exact .inr h
  | p :: ps, j, h => by
    unfold putG at h
    split at h
    · rename_i e
      rw [List.map_cons, List.mem_cons] at h
      rcases h with h | h
      · left; rw [List.map_cons, List.mem_cons]; exact .inl h
      · left; rw [List.map_cons, List.mem_cons]; exact .inr h
    · rw [List.map_cons, List.mem_cons] at h
      rcases h with h | h
      · left; rw [List.map_cons, List.mem_cons]; exact .inl h
      · rcases put_mem ps j h with q | q
        · left; rw [List.map_cons, List.mem_cons]; exact .inr q
        · exact .inr q
/-- the dict of rows at place 2 of the store -/
structure Dict (n m : Nat) (kvs : List (NK × Val)) : Prop where
  rows : ∀ k ∈ kvs.map (·.1), RowK n k
  few : kvs.length ≤ m
  nd : (kvs.map (·.1)).Nodup
theorem Dict.put {n m : Nat} {kvs : List (NK × Val)} (h : Dict n m kvs) (hm : m ≤ 1000) {r : List Str} (hl : r.length = n) (hw : ∀ c ∈ r, c ∈ wideW) {R pl : SO} : ∃ kvs', Dict n (m + 1) kvs' ∧ kvs' ≠ [] ∧ (∀ j, j ∈ kvs'.map (·.1) ↔ j ∈ kvs.map (·.1) ∨ j = rK r) ∧ dicPut [R, pl, .dN kvs] (.ref 2) (.tup (sV r)) (.bl true) = some [R, pl, .dN kvs'] := by
  have pk := put_keys (k := rK r) (v := .bl true) kvs h.nd
  refine ⟨putG kvs (rK r) (.bl true), ⟨fun k hk => ?_, ?_, pk.1⟩, ?_, pk.2, ?_⟩
  · rcases put_mem kvs k hk with q | q
    · exact h.rows k q
    · exact ⟨r, q, hl, hw⟩
  · have := (put_len (k := rK r) (v := .bl true) kvs).1
    have := h.few
    omega
  · intro e
    have := (put_len (k := rK r) (v := .bl true) kvs).2
    rw [e] at this
    simp at this
  · have hs : kvs.length < sizeLine := by have := h.few; have := sizes; omega
    show ((toK (.tup (sV r))).bind fun kk => if Mp.keyOk kk && keysOk kvs && decide (kvs.length < sizeLine) then some ([R, pl, SO.dN kvs].set 2 (.dN (putG kvs kk (.bl true)))) else none) = _
    rw [toK_row, Option.bind_some, row_keyOk ⟨r, rfl, hl, hw⟩, row_keysOk h.rows, decide_eq_true hs]
    rfl
theorem minKey_mem : ∀ (ks : List NK) (k : NK), minKey k ks = k ∨ minKey k ks ∈ ks
  | [], k => .inl rfl
  | y :: ks, k => by
    have e : minKey k (y :: ks) = minKey (if PySem.W.dataLt y.data k.data then y else k) ks := rfl
    rw [e]
    rcases minKey_mem ks (if PySem.W.dataLt y.data k.data then y else k) with h | h
    · rw [h]
      split
      · exact .inr List.mem_cons_self
      · exact .inl rfl
    · exact .inr (List.mem_cons_of_mem _ h)
theorem Dict.min {n m : Nat} {kvs : List (NK × Val)} (h : Dict n m kvs) (hne : kvs ≠ []) {R pl : SO} : ∃ r, r.length = n ∧ (∀ c ∈ r, c ∈ wideW) ∧ rK r ∈ kvs.map (·.1) ∧ fMinD [R, pl, .dN kvs] [.ref 2] = some (vR r) := by
  have hd : dnKeys [R, pl, .dN kvs] (.ref 2) = some (kvs.map (·.1)) := by
    show (if keysOk kvs then some (kvs.map (·.1)) else none) = _
    rw [row_keysOk h.rows]; rfl
  cases e : kvs.map (·.1) with
  | nil => exact absurd (List.map_eq_nil_iff.mp e) hne
  | cons k ks =>
    have hr : ∀ j ∈ k :: ks, RowK n j := fun j hj => h.rows j (by rw [e]; exact hj)
    have hin : minKey k ks ∈ k :: ks := by
      rcases minKey_mem ks k with q | q
      · rw [q]; exact List.mem_cons_self
      · exact List.mem_cons_of_mem _ q
    obtain ⟨r, q1, q2, q3⟩ := hr _ hin
    refine ⟨r, q2, q3, by rw [← q1]; exact hin, ?_⟩
    simp only [fMinD, hd, e, Option.bind_some, row_sortOk hr, if_true, q1, ofK_rK]
theorem Dict.sorted {n m : Nat} {kvs : List (NK × Val)} (h : Dict n m kvs) {R pl : SO} : ∃ rows : List (List Str), rows.length ≤ m ∧ rows.length = kvs.length ∧ (∀ r ∈ rows, r.length = n ∧ ∀ c ∈ r, c ∈ wideW) ∧ (kvs.map (·.1)).mergeSort keyLe = rows.map rK ∧ fSortD [R, pl, .dN kvs] [.ref 2] = some (.lst (rows.map vR)) := by
  have hd : dnKeys [R, pl, .dN kvs] (.ref 2) = some (kvs.map (·.1)) := by
    show (if keysOk kvs then some (kvs.map (·.1)) else none) = _
    rw [row_keysOk h.rows]; rfl
  have hex : ∀ l : List NK, (∀ k ∈ l, RowK n k) → ∃ rows : List (List Str), l = rows.map rK ∧ ∀ r ∈ rows, r.length = n ∧ ∀ c ∈ r, c ∈ wideW := fun l => by
    induction l with
    | nil => intro _; exact ⟨[], rfl, fun _ q => (List.not_mem_nil q).elim⟩
    | cons k l ih =>
      intro q
      obtain ⟨r, q1, q2, q3⟩ := q k List.mem_cons_self
      obtain ⟨rows, w1, w2⟩ := ih fun j hj => q j (List.mem_cons_of_mem _ hj)
      refine ⟨r :: rows, by rw [List.map_cons, q1, w1], fun r' hr' => ?_⟩
      rcases List.mem_cons.mp hr' with rfl | hr'
      · exact ⟨q2, q3⟩
      · exact w2 r' hr'
  obtain ⟨rows, w1, w2⟩ := hex ((kvs.map (·.1)).mergeSort keyLe) fun k hk => h.rows k ((List.mergeSort_perm _ _).mem_iff.mp hk)
  have hl : rows.length = kvs.length := by
    have : ((kvs.map (·.1)).mergeSort keyLe).length = kvs.length := by rw [(List.mergeSort_perm _ _).length_eq, List.length_map]
    rw [w1, List.length_map] at this
    exact this
  refine ⟨rows, ?_, hl, w2, w1, ?_⟩
  · rw [hl]; exact h.few
  · simp only [fSortD, hd, Option.bind_some, row_sortOk h.rows, if_true]
    rw [w1, ofKs_rows]
/-! what a def hands out stays as it is -/
theorem fz_strs {S : Sto} {n : Nat} : ∀ (r : List Str) (k : Nat), r.length + 2 ≤ k → fzVs S n k (sV r) = some (sV r)
  | [], k + 1, _ => rfl
  | x :: r, k + 1, h => by
    have ih := fz_strs (S := S) (n := n) r k (by simp at h; omega)
    obtain ⟨k', rfl⟩ : ∃ k', k = k' + 1 := ⟨k - 1, by simp at h; omega⟩
    show (fzV S n (k' + 1) (.str x)).bind (fun y => (fzVs S n (k' + 1) (sV r)).map fun ys => y :: ys) = _
    rw [ih]; rfl
theorem fz_row {S : Sto} {n : Nat} {r : List Str} {k : Nat} (h : r.length + 3 ≤ k) : fzV S n k (vR r) = some (vR r) := by
  obtain ⟨k', rfl⟩ : ∃ k', k = k' + 1 := ⟨k - 1, by omega⟩
  show (fzVs S n k' (sV r)).map Val.tup = _
  rw [fz_strs r k' (by omega)]; rfl
theorem fz_rows {S : Sto} {n m : Nat} : ∀ (rows : List (List Str)) (k : Nat), (∀ r ∈ rows, r.length ≤ m) → rows.length + m + 4 ≤ k → fzVs S n k (rows.map vR) = some (rows.map vR)
  | [], k + 1, _, _ => rfl
  | r :: rows, k + 1, hm, h => by
    have ih := fz_rows (S := S) (n := n) rows k (fun r hr => hm r (List.mem_cons_of_mem _ hr)) (by simp at h; omega)
    have hr := hm r List.mem_cons_self
    show (fzV S n k (vR r)).bind (fun y => (fzVs S n k (rows.map vR)).map fun ys => y :: ys) = _
    rw [fz_row (by simp at h; omega), ih]; rfl
theorem isR_in {R : SO} (h : IsR R) : SO.inB 1 R = true := by
  obtain ⟨cs, nx, rs, dr, rfl⟩ := h
  have : ∀ cs : List Int, Val.inBs 1 (cs.map Val.int) = true := fun cs => by
    induction cs with
    | nil => rfl
    | cons c cs ih => simp [Val.inBs, Val.inB, ih]
  simp [rdr, SO.inB, Val.inBs, Val.inB, this]
theorem leave_table {T : Tab} {R pl dn : SO} (hR : IsR R) (hi : T.items.length ≤ 5) (hr : ∀ r ∈ T.rows, r.length ≤ 5) (hf : T.rows.length ≤ 24) : leaveS 1 (vT T) [R, pl, dn] = some (vT T, [R]) := by
  have h1 : ¬ ([R, pl, dn] : Sto).length = 1 := by simp
  have h2 : (([R, pl, dn] : Sto).take 1).all (SO.inB 1) = true := by simp [isR_in hR]
  have h3 : fzV [R, pl, dn] 1 40 (vT T) = some (vT T) := by
    have a : fzV [R, pl, dn] 1 38 (.ptp (sV T.items)) = some (.ptp (sV T.items)) := by
      show (fzVs [R, pl, dn] 1 37 (sV T.items)).map Val.ptp = _
      rw [fz_strs _ _ (by omega)]; rfl
    have b : fzV [R, pl, dn] 1 37 (.tup (T.rows.map vR)) = some (.tup (T.rows.map vR)) := by
      show (fzVs [R, pl, dn] 1 36 (T.rows.map vR)).map Val.tup = _
      rw [fz_rows (m := 5) _ _ hr (by omega)]; rfl
    show ((fzV [R, pl, dn] 1 38 (.ptp (sV T.items))).bind fun y => ((fzV [R, pl, dn] 1 37 (.tup (T.rows.map vR))).bind fun y => (fzVs [R, pl, dn] 1 36 []).map fun ys => y :: ys).map fun ys => y :: ys).map Val.tup = _
    rw [a, b]; rfl
  simp only [leaveS, h1, if_false, h2, if_true, h3, Option.map_some]
  rfl
end K5
namespace K5
open PySem PySem.Spec PyProof.Rows L2 Mp Pilot
theorem for_prog2 {N : Nat} {α : Type} {tg : MG} {body : MS} {s : Src} (P : List α → Sl → Sto → Prop) (hs : s.n = none) (f : α → Val) : ∀ (l : List α) {done : List α} {sl : Sl} {S : Sto}, (∀ x ∈ l, ∀ done sl S, done.length < N → P done sl S → ∃ sl1 sl2 S2, tg sl S (f x) = some sl1 ∧ body sl1 S = some (.nxt, sl2, S2) ∧ P (done ++ [x]) sl2 S2) → done.length + l.length ≤ N → P done sl S →
    ∃ sl' S', forX tg body s (l.map f) sl S = some (.nxt, sl', S') ∧ P (done ++ l) sl' S'
  | [], done, sl, S, _, _, hP => ⟨sl, S, by simp [forX, Src.ok, hs], by simpa using hP⟩
  | x :: l, done, sl, S, h, hl, hP => by
    obtain ⟨sl1, sl2, S2, e1, e2, hP2⟩ := h x List.mem_cons_self done sl S (by simp at hl; omega) hP
    obtain ⟨sl', S', e, hQ⟩ := for_prog2 P hs f l (fun y hy => h y (List.mem_cons_of_mem _ hy)) (by simp at hl ⊢; omega) hP2
    exact ⟨sl', S', by simp only [List.map_cons, forX, Src.ok, hs, if_true, e1, Option.bind_some, e2, e], by simpa using hQ⟩
theorem esS_ev {sl : Sl} {S : Sto} : ∀ xs : List Str, esS xs sl S = some (sV xs, S)
  | [] => rfl
  | x :: xs => cons_ev (v := .str x) (S1 := S) con_ev (esS_ev xs)
theorem cut_lo {r : List Str} {j : Nat} (h : j ≤ r.length) : cutG (sV r) none (some (j : Int)) = sV (r.take j) := by
  unfold cutG
  rw [show HT.sIx (sV r).length 0 none = 0 from rfl, HT.sIx_nat, List.length_map, Nat.min_eq_left h, Nat.sub_zero]
  exact (List.map_take ..).symm
theorem cut_hi {r : List Str} {j : Nat} (h : j + 1 ≤ r.length) : cutG (sV r) (some ((j : Int) + 1)) none = sV (r.drop (j + 1)) := by
  unfold cutG
  have e : HT.sIx (sV r).length 0 (some ((j : Int) + 1)) = j + 1 := by
    have q := HT.sIx_nat (sV r).length 0 (j + 1)
    have hl : (sV r).length = r.length := List.length_map ..
    rw [hl] at q ⊢
    rw [Nat.min_eq_left h] at q
    exact q
  rw [e, show HT.sIx (sV r).length (sV r).length none = (sV r).length from rfl]
  have e2 : (sV r).drop (j + 1) = sV (r.drop (j + 1)) := (List.map_drop ..).symm
  rw [e2, List.length_map, List.take_of_length_le]
  rw [List.length_map, List.length_drop]
  exact Nat.le_refl _
theorem so_ev {m : ME} {sl : Sl} {S S1 : Sto} {i : Int} (h : m sl S = some (.int i, S1)) : oSo m sl S = some (some i, S1) := by simp only [oSo, h, Option.bind_some]
theorem sl_ev {m : ME} {a b : MO} {sl : Sl} {S S1 S2 S3 : Sto} {v w : Val} {lo hi : Option Int} (h : m sl S = some (v, S1)) (h1 : a sl S1 = some (lo, S2)) (h2 : b sl S2 = some (hi, S3)) (h3 : fSl S3 lo hi v = some w) : eSl m a b sl S = some (w, S3) := by
  simp only [eSl, h, h1, h2, h3, Option.bind_some, Option.map_some]
theorem add_tups {S : Sto} {a b : List Str} (h : a.length + b.length ≤ 4000) : fAdd S (.tup (sV a)) (.tup (sV b)) = some (.tup (sV (a ++ b))) := by
  have hl : (sV a).length + (sV b).length ≤ sizeLine := by
    rw [List.length_map, List.length_map]
    have := sizes
    omega
  simp only [fAdd, hl, if_true]
  rw [sV, sV, sV, List.map_append]
def strOf (j : Nat) : NK → Str
  | .tup ks => match ks.getD j .none with
    | .text x => x
    | _ => nox
  | _ => nox
theorem strOf_row {r : List Str} {j : Nat} (h : j < r.length) : strOf j (rK r) = r.getD j nox := by
  simp only [rK, strOf, List.getD_eq_getElem?_getD, List.getElem?_map, List.getElem?_eq_getElem h, Option.map_some, Option.getD_some]
abbrev tabS (most : Int) (x5 : Option Val) (items : List Str) (x8 x9 x10 x11 : Option Val) : Sl := [some (.ref 0), some (.int 3), some (.int most), some (.ref 1), some (.lst (sV poolW)), x5, some (.lst (sV items)), none, x8, x9, x10, x11, none]
theorem cond_ev {most : Int} {j n m : Nat} {items : List Str} {x8 x10 x11 : Option Val} {kvs : List (NK × Val)} {R pl : SO} (hd : Dict n m kvs) (hj : j < n) (hm : m ≤ 1000) : t_6c (tabS most (some (.int (j : Int))) items x8 (some (.ref 2)) x10 x11) [R, pl, .dN kvs] = some (decide (((uniqT (kvs.map fun q => strOf j q.1)).length : Int) < 2), [R, pl, .dN kvs]) := by
  have e1 : eLc (.nm 12) (iKeysN (eVar 9)) tYesM (eOp2 fIx (eVar 12) (eVar 5)) [12] (tabS most (some (.int (j : Int))) items x8 (some (.ref 2)) x10 x11) [R, pl, .lk (.dN kvs)] = some (.lst (kvs.map fun q => Val.str (strOf j q.1)), [R, pl, .lk (.dN kvs)]) := by
    refine eLc_all kvs (fun q => ofK q.1) _ rfl fun q hq => op2_ev (x := ofK q.1) (y := .int (j : Int)) (var_ev rfl) (var_ev rfl) ?_
    obtain ⟨r, e, hl, _⟩ := hd.rows q.1 (List.mem_map_of_mem hq)
    rw [e, ofK_rK, strOf_row (by omega)]
    exact atI_str (by omega)
  have e2 : eLock 9 (eLc (.nm 12) (iKeysN (eVar 9)) tYesM (eOp2 fIx (eVar 12) (eVar 5)) [12]) (tabS most (some (.int (j : Int))) items x8 (some (.ref 2)) x10 x11) [R, pl, .dN kvs] = some (.lst (sV (kvs.map fun q => strOf j q.1)), [R, pl, .dN kvs]) := by
    show (lockS [R, pl, .dN kvs] 2).bind (fun p => (eLc (.nm 12) (iKeysN (eVar 9)) tYesM (eOp2 fIx (eVar 12) (eVar 5)) [12] (tabS most (some (.int (j : Int))) items x8 (some (.ref 2)) x10 x11) p.2).bind fun q => some (q.1, q.2.set 2 p.1)) = _
    rw [show lockS [R, pl, .dN kvs] 2 = some (.dN kvs, [R, pl, .lk (.dN kvs)]) from rfl, Option.bind_some]
    dsimp only
    rw [e1, Option.bind_some, sV, List.map_map]
    rfl
  have e3 : fLenTxt [R, pl, .dN kvs] [.lst (sV (kvs.map fun q => strOf j q.1))] = some (.int ((uniqT (kvs.map fun q => strOf j q.1)).length : Int)) := by
    have hl : (kvs.map fun q => strOf j q.1).length < 4000 := by
      rw [List.length_map]
      have := hd.few
      omega
    simp only [fLenTxt, lstOf, Option.bind_some, toT_sV, hl, if_true]
  exact tru_ev (op2_ev (fn_ev (cons_ev e2 nil_ev) e3) con_ev lt_int)
theorem key_ev {most : Int} {j : Nat} {items r : List Str} {x8 x9 x10 : Option Val} {S : Sto} (hj : j < r.length) (hw : ∀ c ∈ r, c ∈ wideW) (hs : r.length ≤ 100) : ∃ r', r'.length = r.length ∧ (∀ c ∈ r', c ∈ wideW) ∧ r'.getD j nox ≠ r.getD j nox ∧ t_6k (tabS most (some (.int (j : Int))) items x8 x9 x10 (some (vR r))) S = some (.tup (sV r'), S) := by
  have hx : r.getD j nox ∈ wideW := hw _ (by rw [List.getD_eq_getElem?_getD, List.getElem?_eq_getElem hj]; exact List.getElem_mem _)
  have hc : tTru (eOp2 (fEq false) (eOp2 fIx (eVar 11) (eVar 5)) (eCon (.str "x"))) (tabS most (some (.int (j : Int))) items x8 x9 x10 (some (vR r))) S = some (decide (txt (r.getD j nox) = txt "x"), S) := by
    refine tru_ev (op2_ev (x := .str (r.getD j nox)) (op2_ev (x := vR r) (y := .int (j : Int)) (var_ev rfl) (var_ev rfl) (atI_str hj)) con_ev ?_)
    have h := fEq_ofK (neg := false) (S := S) (a := txt (r.getD j nox)) (b := txt "x") ⟨show PyData.strOk (r.getD j nox) = true from wideW_ok _ hx, by simp [NestedKey.depth]⟩ ⟨by decide +kernel, by simp [NestedKey.depth]⟩
    rw [Bool.false_xor] at h
    exact h
  have hif : ∃ c ∈ wideW, c ≠ r.getD j nox ∧ eIfE (tTru (eOp2 (fEq false) (eOp2 fIx (eVar 11) (eVar 5)) (eCon (.str "x")))) (eCon (.str "y")) (eCon (.str "x")) (tabS most (some (.int (j : Int))) items x8 x9 x10 (some (vR r))) S = some (.str c, S) := by
    by_cases q : txt (r.getD j nox) = txt "x"
    · rw [decide_eq_true q] at hc
      refine ⟨"y", by decide, ?_, ifE_t hc con_ev⟩
      injection q with q
      rw [q]
      decide
    · rw [decide_eq_false q] at hc
      exact ⟨"x", by decide, fun z => q (by rw [← z]), ifE_f hc con_ev⟩
  obtain ⟨c, hcw, hne, hif⟩ := hif
  refine ⟨r.take j ++ [c] ++ r.drop (j + 1), ?_, fun d hd => ?_, ?_, ?_⟩
  · simp only [List.length_append, List.length_take, List.length_cons, List.length_nil, List.length_drop]
    omega
  · rcases List.mem_append.mp hd with hd | hd
    · rcases List.mem_append.mp hd with hd | hd
      · exact hw d (List.mem_of_mem_take hd)
      · rw [List.mem_singleton] at hd; rw [hd]; exact hcw
    · exact hw d (List.mem_of_mem_drop hd)
  · have hl : (r.take j).length = j := by rw [List.length_take]; omega
    have e : (r.take j ++ [c] ++ r.drop (j + 1)).getD j nox = c := by
      rw [List.append_assoc, List.getD_eq_getElem?_getD, List.getElem?_append_right (by omega), hl, Nat.sub_self]
      rfl
    rw [e]
    exact hne
  · refine op2_ev (x := .tup (sV (r.take j ++ [c]))) (y := .tup (sV (r.drop (j + 1)))) (S1 := S) (S2 := S) (op2_ev (x := .tup (sV (r.take j))) (y := .tup (sV [c])) (S1 := S) (S2 := S) (sl_ev (v := vR r) (lo := none) (hi := some (j : Int)) (S1 := S) (S2 := S) (var_ev rfl) rfl (so_ev (var_ev rfl)) ?_) (tup_ev (cons_ev hif nil_ev)) (add_tups ?_)) (sl_ev (v := vR r) (lo := some ((j : Int) + 1)) (hi := none) (S1 := S) (S2 := S) (var_ev rfl) (so_ev (op2_ev (x := .int (j : Int)) (y := .int 1) (var_ev rfl) con_ev add_int)) rfl ?_) (add_tups ?_)
    · show some (Val.tup (cutG (sV r) none (some (j : Int)))) = _
      rw [cut_lo (by omega)]
    · simp only [List.length_take, List.length_cons, List.length_nil]; omega
    · show some (Val.tup (cutG (sV r) (some ((j : Int) + 1)) none)) = _
      rw [cut_hi (by omega)]
    · simp only [List.length_append, List.length_take, List.length_cons, List.length_nil, List.length_drop]; omega
/-! ### a table -/
theorem heads_ev {most : Int} {R : SO} (hR : IsR R) : ∃ R' pl items, IsR R' ∧ items.Nodup ∧ items.Pairwise (fun a b => txtLe a b = true) ∧ (∀ i ∈ items, i ∈ poolH) ∧ 1 ≤ items.length ∧ items.length ≤ 3 ∧ t_2 [some (.ref 0), some (.int 3), some (.int most), some (.ref 1), some (.lst (sV poolW)), none, none, none, none, none, none, none, none] [R, .lst (sV poolH)] = some (.nxt, tabS most none items none none none none, [R', .lst (sV pl)]) := by
  obtain ⟨d, R1, hR1, d0, d1, e1⟩ := draw_ev (sl := [some (.ref 0), some (.int 3), some (.int most), some (.ref 1), some (.lst (sV poolW)), none, none, none, none, none, none, none, none]) (t := [.lst (sV poolH)]) (a := eVar 1) (many := 3) hR rfl (var_ev rfl) (by decide) (by decide)
  obtain ⟨vs, S', e2, ⟨R2, pl, hs, hR2, ev, eS, hp⟩, hl⟩ := lc_step (N := (1 + d).toNat) (i := 5) (m := eMeth isL fPop (eVar 3) (es1 (c_draw (eFn fLen (es1 (eVar 3)))))) (s := ⟨rngL 0 (1 + d).toNat, none⟩) (sl := wipeS [some (.ref 0), some (.int 3), some (.int most), some (.ref 1), some (.lst (sV poolW)), none, none, none, none, none, none, none, none] [5])
    (fun done S' => ∃ R pl hs, IsR R ∧ done = sV hs ∧ S' = [R, .lst (sV pl)] ∧ (hs ++ pl).Perm poolH) rfl (rngL 0 (1 + d).toNat) (done := []) (S := [R1, .lst (sV poolH)])
    (fun x hx done S' hN h => by
      obtain ⟨R, pl, hs, hR, rfl, rfl, hp⟩ := h
      have hlen := hp.length_eq
      rw [List.length_append, show poolH.length = 5 from rfl] at hlen
      rw [List.length_map] at hN
      have ef : fLen [R, .lst (sV pl)] [.ref 1] = some (.int (pl.length : Int)) := by
        show some (Val.int ((sV pl).length : Int)) = _
        rw [List.length_map]
      obtain ⟨d, R', hR', d0, d1, e⟩ := draw_ev (sl := (wipeS [some (.ref 0), some (.int 3), some (.int most), some (.ref 1), some (.lst (sV poolW)), none, none, none, none, none, none, none, none] [5]).set 5 (some x)) (t := [.lst (sV pl)]) (a := eFn fLen (es1 (eVar 3))) (many := (pl.length : Int)) hR rfl (fn_ev (vs := [.ref 1]) (S1 := [R, .lst (sV pl)]) (cons_ev (var_ev rfl) nil_ev) ef) (by omega) (by omega)
      obtain ⟨y, e2, hq⟩ := pop_ev (sl := (wipeS [some (.ref 0), some (.int 3), some (.int most), some (.ref 1), some (.lst (sV poolW)), none, none, none, none, none, none, none, none] [5]).set 5 (some x)) (mo := eVar 3) (var_ev rfl) e d0 d1 (by omega)
      refine ⟨.str y, _, e2, R', _, hs ++ [y], hR', by simp, rfl, ?_⟩
      rw [List.append_assoc]
      exact ((hq).append_left hs).trans hp) (by simp [rng_len]) ⟨R1, poolH, [], hR1, rfl, rfl, .refl _⟩
  subst eS
  rw [List.nil_append] at ev
  subst ev
  obtain ⟨items, hpi, hsi, e3⟩ := sort_strs (S := [R2, .lst (sV pl)]) (r := hs)
  have hlen : items.length = (1 + d).toNat := by
    rw [hpi.length_eq]
    rw [List.length_map, rng_len] at hl
    exact hl
  have hnd : (hs ++ pl).Nodup := hp.symm.nodup (by decide)
  refine ⟨R2, pl, items, hR2, hpi.symm.nodup (List.nodup_append.mp hnd).1, hsi, fun i hi => hp.mem_iff.mp (List.mem_append_left _ (hpi.mem_iff.mp hi)), by omega, by omega, ?_⟩
  refine set_ev (v := .lst (sV items)) (fn_ev (vs := [.lst (sV hs)]) (S1 := [R2, .lst (sV pl)]) (cons_ev ?_ nil_ev) e3)
  have e4 := rng_evS (m := eOp2 fAdd (eI 1) (c_draw (eVar 1))) (op2_ev con_ev e1 add_int) (by omega) (by omega)
  simp only [eLc, e4, Option.bind_some, e2]
theorem widths_ev {most : Int} {R pl : SO} {items : List Str} (hR : IsR R) : ∃ R' ws, IsR R' ∧ List.length (α := Int) ws = items.length ∧ (∀ w ∈ ws, 2 ≤ w ∧ w ≤ 5) ∧ t_3 (tabS most none items none none none none) [R, pl] = some (.nxt, tabS most none items (some (.lst (ws.map Val.int))) (some (.ref 2)) none none, [R', pl, .dN []]) := by
  obtain ⟨vs, S', e2, ⟨R2, ws, hR2, ev, hw, eS⟩, hl⟩ := lc_step (N := items.length) (i := 7) (m := eOp2 fAdd (eI 2) (c_draw (eI 4))) (s := ⟨sV items, none⟩) (sl := wipeS (tabS most none items none none none none) [7])
    (fun done S' => ∃ R ws, IsR R ∧ done = ws.map Val.int ∧ (∀ w ∈ ws, 2 ≤ w ∧ w ≤ 5) ∧ S' = [R, pl]) rfl (sV items) (done := []) (S := [R, pl])
    (fun x hx done S' hN h => by
      obtain ⟨R, ws, hR, rfl, hw, rfl⟩ := h
      obtain ⟨d, R', hR', d0, d1, e⟩ := draw_ev (sl := (wipeS (tabS most none items none none none none) [7]).set 7 (some x)) (t := [pl]) (a := eI 4) (many := 4) hR rfl con_ev (by decide) (by decide)
      refine ⟨.int (2 + d), _, op2_ev con_ev e add_int, R', ws ++ [2 + d], hR', by simp, fun w hw' => ?_, rfl⟩
      rcases List.mem_append.mp hw' with q | q
      · exact hw w q
      · rw [List.mem_singleton] at q; omega) (by simp) ⟨R, [], hR, rfl, fun _ q => (List.not_mem_nil q).elim, rfl⟩
  subst eS
  rw [List.nil_append] at ev
  subst ev
  refine ⟨R2, ws, hR2, by simpa using hl, hw, ?_⟩
  refine par_ev (v := .lst (ws.map Val.int)) (S1 := [R2, pl]) ?_ rfl
  have e4 : iSeq (eVar 6) (tabS most none items none none none none) [R, pl] = some (⟨sV items, none⟩, [R, pl]) := seqL_ev (var_ev rfl)
  simp only [eLc, e4, Option.bind_some, e2]
theorem row_ev {most : Int} {R pl : SO} {items : List Str} {ws : List Int} {x5 x10 : Option Val} {kvs : List (NK × Val)} (hR : IsR R) (hw : ∀ w ∈ ws, 2 ≤ w ∧ w ≤ 5) : ∃ R' r, IsR R' ∧ r.length = ws.length ∧ (∀ c ∈ r, c ∈ wideW) ∧ eFn fTupOf (es1 (eLc (.nm 10) (iSeq (eVar 8)) tYesM (eOp2 fIx (eVar 4) (c_draw (eVar 10))) [10])) (tabS most x5 items (some (.lst (ws.map Val.int))) (some (.ref 2)) x10 none) [R, pl, .dN kvs] = some (.tup (sV r), [R', pl, .dN kvs]) := by
  obtain ⟨vs, S', e2, ⟨R2, r, hR2, ev, hr, eS⟩, hl⟩ := lc_step (N := ws.length) (i := 10) (m := eOp2 fIx (eVar 4) (c_draw (eVar 10))) (s := ⟨ws.map Val.int, none⟩) (sl := wipeS (tabS most x5 items (some (.lst (ws.map Val.int))) (some (.ref 2)) x10 none) [10])
    (fun done S' => ∃ R r, IsR R ∧ done = sV r ∧ (∀ c ∈ r, c ∈ wideW) ∧ S' = [R, pl, .dN kvs]) rfl (ws.map Val.int) (done := []) (S := [R, pl, .dN kvs])
    (fun x hx done S' hN h => by
      obtain ⟨R, r, hR, rfl, hr, rfl⟩ := h
      obtain ⟨w, hw', rfl⟩ := List.mem_map.mp hx
      obtain ⟨w0, w1⟩ := hw w hw'
      obtain ⟨d, R', hR', d0, d1, e⟩ := draw_ev (sl := (wipeS (tabS most x5 items (some (.lst (ws.map Val.int))) (some (.ref 2)) x10 none) [10]).set 10 (some (.int w))) (t := [pl, .dN kvs]) (a := eVar 10) (many := w) hR rfl (var_ev rfl) (by omega) (by omega)
      obtain ⟨n, rfl⟩ : ∃ n : Nat, d = (n : Int) := ⟨d.toNat, by omega⟩
      have hn : n < poolW.length := by show n < 5; omega
      refine ⟨.str (poolW.getD n nox), _, op2_ev (x := .lst (sV poolW)) (var_ev rfl) e (atI_str hn), R', r ++ [poolW.getD n nox], hR', by simp, fun c hc => ?_, rfl⟩
      rcases List.mem_append.mp hc with q | q
      · exact hr c q
      · rw [List.mem_singleton] at q
        rw [q, List.getD_eq_getElem?_getD, List.getElem?_eq_getElem hn]
        exact poolW_in _ (List.getElem_mem _)) (by simp) ⟨R, [], hR, rfl, fun _ q => (List.not_mem_nil q).elim, rfl⟩
  subst eS
  rw [List.nil_append] at ev
  subst ev
  refine ⟨R2, r, hR2, by simpa using hl, hr, fn_ev (vs := [.lst (sV r)]) (S1 := [R2, pl, .dN kvs]) (cons_ev ?_ nil_ev) rfl⟩
  have e4 : iSeq (eVar 8) (tabS most x5 items (some (.lst (ws.map Val.int))) (some (.ref 2)) x10 none) [R, pl, .dN kvs] = some (⟨ws.map Val.int, none⟩, [R, pl, .dN kvs]) := seqL_ev (var_ev rfl)
  simp only [eLc, e4, Option.bind_some, e2]
structure Good (T : Tab) : Prop where
  si : T.items.Pairwise (fun a b => txtLe a b = true)
  sr : T.rows.Pairwise (fun a b => keyLe (rK a) (rK b) = true)
  nr : T.rows.Nodup
  two : ∀ n < T.items.length, ∃ r ∈ T.rows, ∃ s ∈ T.rows, r.getD n nox ≠ s.getD n nox
def Two (i : Nat) (kvs : List (NK × Val)) : Prop := ∃ a ∈ kvs.map (·.1), ∃ b ∈ kvs.map (·.1), strOf i a ≠ strOf i b
theorem two_of {l : List Str} (h : ¬ ((uniqT l).length : Int) < 2) : ∃ a ∈ l, ∃ b ∈ l, a ≠ b := by
  have nd := nodup_uniqT l
  cases e : uniqT l with
  | nil => rw [e] at h; simp at h
  | cons a t =>
    cases t with
    | nil => rw [e] at h; simp at h
    | cons b t =>
      rw [e] at nd
      refine ⟨a, mem_uniqT.mp (by rw [e]; exact List.mem_cons_self), b, mem_uniqT.mp (by rw [e]; exact List.mem_cons_of_mem _ List.mem_cons_self), fun q => ?_⟩
      subst q
      exact (List.nodup_cons.mp nd).1 List.mem_cons_self
theorem sp_table {R : SO} {most : Int} (hR : IsR R) (hm : 1 ≤ most) (hm2 : most ≤ 20) : ∃ T R', T.Ok ∧ (T.items ≠ [] ∧ T.rows ≠ []) ∧ Good T ∧ (∀ i ∈ T.items, i ∈ poolH) ∧ T.items.length ≤ 3 ∧ T.rows.length ≤ most.toNat + T.items.length ∧ IsR R' ∧ m_table [.ref 0, .int 3, .int most] [R] = some (vT T, [R']) := by
  obtain ⟨R1, pl, items, hR1, nd, hsi, hi, l1, l2, e2⟩ := heads_ev (most := most) hR
  obtain ⟨R2, ws, hR2, hwl, hw, e3⟩ := widths_ev (most := most) (pl := .lst (sV pl)) (items := items) hR1
  obtain ⟨d, R3, hR3, d0, d1, e4⟩ := draw_ev (sl := tabS most none items (some (.lst (ws.map Val.int))) (some (.ref 2)) none none) (t := [.lst (sV pl), .dN []]) (a := eVar 2) (many := most) hR2 rfl (var_ev rfl) (by omega) (by omega)
  obtain ⟨sl4, S4, e5, R4, kvs, x5, x10, hR4, hD, hne, rfl, rfl⟩ := for_prog2 (N := (1 + d).toNat) (tg := gNm 5) (s := ⟨rngL 0 (1 + d).toNat, none⟩) (body := sDPutM (eVar 9) (eFn fTupOf (es1 (eLc (.nm 10) (iSeq (eVar 8)) tYesM (eOp2 fIx (eVar 4) (c_draw (eVar 10))) [10]))) (eCon (.bl true)))
    (fun done sl S' => ∃ R kvs x5 x10, IsR R ∧ Dict items.length done.length kvs ∧ (done ≠ [] → kvs ≠ []) ∧ sl = tabS most x5 items (some (.lst (ws.map Val.int))) (some (.ref 2)) x10 none ∧ S' = [R, .lst (sV pl), .dN kvs]) rfl (fun i : Nat => Val.int (i : Int)) (List.range (1 + d).toNat) (done := []) (sl := tabS most none items (some (.lst (ws.map Val.int))) (some (.ref 2)) none none) (S := [R3, .lst (sV pl), .dN []])
    (fun x hx done sl S' hN h => by
      obtain ⟨R, kvs, x5, x10, hR, hD, hne, rfl, rfl⟩ := h
      obtain ⟨R', r, hR', hl, hr, e⟩ := row_ev (most := most) (pl := .lst (sV pl)) (items := items) (x5 := some (.int (x : Int))) (x10 := x10) (kvs := kvs) hR hw
      obtain ⟨kvs', hD', hne', _, e'⟩ := hD.put (by omega) (r := r) (by rw [hl, hwl]) hr (R := R') (pl := .lst (sV pl))
      refine ⟨_, tabS most (some (.int (x : Int))) items (some (.lst (ws.map Val.int))) (some (.ref 2)) x10 none, [R', .lst (sV pl), .dN kvs'], rfl, dput_ev (v := .bl true) (S1 := [R, .lst (sV pl), .dN kvs]) con_ev (d := .ref 2) (S2 := [R, .lst (sV pl), .dN kvs]) (var_ev rfl) e e', R', kvs', _, x10, hR', ?_, fun _ => hne', rfl, rfl⟩
      rw [List.length_append]
      exact hD') (by simp) ⟨R3, [], none, none, hR3, ⟨fun _ q => (List.not_mem_nil q).elim, Nat.zero_le _, List.nodup_nil⟩, fun q => absurd rfl q, rfl, rfl⟩
  rw [List.nil_append] at hD hne
  rw [List.length_range] at hD
  have hne := hne (by
    intro q
    have := congrArg List.length q
    rw [List.length_range, List.length_nil] at this
    omega)
  obtain ⟨r0, hr0, hw0, hk0, e6⟩ := hD.min hne (R := R4) (pl := .lst (sV pl))
  obtain ⟨sl7, S7, e7, kvs7, y5, hD7, hne7, hk7, htw, rfl, rfl⟩ := for_prog2 (N := items.length) (tg := gNm 5) (s := ⟨rngL 0 items.length, none⟩) (body := sIf t_6c (sDPutM (eVar 9) t_6k (eCon (.bl true))) sSkip)
    (fun done sl S' => ∃ kvs x5, Dict items.length ((1 + d).toNat + done.length) kvs ∧ kvs ≠ [] ∧ rK r0 ∈ kvs.map (·.1) ∧ (∀ i ∈ done, i < items.length → Two i kvs) ∧ sl = tabS most x5 items (some (.lst (ws.map Val.int))) (some (.ref 2)) x10 (some (vR r0)) ∧ S' = [R4, .lst (sV pl), .dN kvs]) rfl (fun i : Nat => Val.int (i : Int)) (List.range items.length) (done := []) (sl := tabS most x5 items (some (.lst (ws.map Val.int))) (some (.ref 2)) x10 (some (vR r0))) (S := [R4, .lst (sV pl), .dN kvs])
    (fun x hx done sl S' hN h => by
      obtain ⟨kvs, x5, hD, hne, hk, htw, rfl, rfl⟩ := h
      have hx' : x < items.length := List.mem_range.mp hx
      have eb := cond_ev (most := most) (j := x) (items := items) (x8 := some (.lst (ws.map Val.int))) (x10 := x10) (x11 := some (vR r0)) (R := R4) (pl := .lst (sV pl)) hD hx' (by omega)
      obtain ⟨r', q1, q2, qn, q3⟩ := key_ev (most := most) (j := x) (items := items) (r := r0) (x8 := some (.lst (ws.map Val.int))) (x9 := some (.ref 2)) (x10 := x10) (S := [R4, .lst (sV pl), .dN kvs]) (by omega) hw0 (by omega)
      obtain ⟨kvs', hD', hne', hm', e'⟩ := hD.put (by omega) (r := r') (by rw [q1, hr0]) q2 (R := R4) (pl := .lst (sV pl))
      have up : ∀ i, Two i kvs → Two i kvs' := fun i ⟨a, ha, b, hb, hab⟩ => ⟨a, (hm' a).mpr (.inl ha), b, (hm' b).mpr (.inl hb), hab⟩
      cases hb : decide (((uniqT (kvs.map fun q => strOf x q.1)).length : Int) < 2) with
      | true =>
        rw [hb] at eb
        refine ⟨_, tabS most (some (.int (x : Int))) items (some (.lst (ws.map Val.int))) (some (.ref 2)) x10 (some (vR r0)), [R4, .lst (sV pl), .dN kvs'], rfl, if_t eb (dput_ev (v := .bl true) (S1 := [R4, .lst (sV pl), .dN kvs]) con_ev (d := .ref 2) (S2 := [R4, .lst (sV pl), .dN kvs]) (var_ev rfl) q3 e'), kvs', _, ?_, hne', (hm' _).mpr (.inl hk), fun i hi hil => ?_, rfl, rfl⟩
        · rw [List.length_append]
          exact hD'
        · rcases List.mem_append.mp hi with q | q
          · exact up i (htw i q hil)
          · rw [List.mem_singleton] at q
            subst q
            refine ⟨rK r0, (hm' _).mpr (.inl hk), rK r', (hm' _).mpr (.inr rfl), ?_⟩
            rw [strOf_row (by omega), strOf_row (by omega)]
            exact fun z => qn z.symm
      | false =>
        rw [hb] at eb
        refine ⟨_, tabS most (some (.int (x : Int))) items (some (.lst (ws.map Val.int))) (some (.ref 2)) x10 (some (vR r0)), [R4, .lst (sV pl), .dN kvs], rfl, if_f eb rfl, kvs, _, ⟨hD.rows, ?_, hD.nd⟩, hne, hk, fun i hi hil => ?_, rfl, rfl⟩
        · have := hD.few
          rw [List.length_append]
          omega
        · rcases List.mem_append.mp hi with q | q
          · exact htw i q hil
          · rw [List.mem_singleton] at q
            subst q
            obtain ⟨a, ha, b, hb', hab⟩ := two_of (of_decide_eq_false hb)
            obtain ⟨p, hp, rfl⟩ := List.mem_map.mp ha
            obtain ⟨p', hp', rfl⟩ := List.mem_map.mp hb'
            exact ⟨p.1, List.mem_map_of_mem hp, p'.1, List.mem_map_of_mem hp', hab⟩) (by simp) ⟨kvs, x5, by simpa using hD, hne, hk0, fun _ q => (List.not_mem_nil q).elim, rfl, rfl⟩
  rw [List.nil_append, List.length_range] at hD7
  rw [List.nil_append] at htw
  obtain ⟨rows, hrl, hrn, hrw, hrs, e8⟩ := hD7.sorted (R := R4) (pl := .lst (sV pl))
  have hok : (⟨items, rows⟩ : Tab).Ok := ⟨nd, fun i h => poolH_in i (hi i h), fun r hr => (hrw r hr).1, fun r hr => (hrw r hr).2, by show rows.length ≤ 24; omega⟩
  have pm := List.mergeSort_perm (kvs7.map (·.1)) keyLe
  have inrow : ∀ k ∈ kvs7.map (·.1), ∃ r ∈ rows, k = rK r := fun k hk => by
    have : k ∈ rows.map rK := by rw [← hrs]; exact pm.mem_iff.mpr hk
    obtain ⟨r, hr, e⟩ := List.mem_map.mp this
    exact ⟨r, hr, e.symm⟩
  have hgood : Good ⟨items, rows⟩ := by
    refine ⟨hsi, ?_, ?_, fun n hn => ?_⟩
    · have : (rows.map rK).Pairwise fun a b => keyLe a b = true := by
        rw [← hrs]
        exact List.pairwise_mergeSort keyLe_total.trans (fun a b => by rw [Bool.or_eq_true]; exact keyLe_total.total a b) _
      exact List.pairwise_map.mp this
    · have : (rows.map rK).Nodup := by rw [← hrs]; exact pm.symm.nodup hD7.nd
      exact (List.pairwise_map.mp this).imp fun h q => h (by rw [q])
    · obtain ⟨a, ha, b, hb, hab⟩ := htw n (List.mem_range.mpr hn) hn
      obtain ⟨r, hr, rfl⟩ := inrow a ha
      obtain ⟨s, hs, rfl⟩ := inrow b hb
      have hn' : n < items.length := hn
      rw [strOf_row (by rw [(hrw r hr).1]; exact hn'), strOf_row (by rw [(hrw s hs).1]; exact hn')] at hab
      exact ⟨r, hr, s, hs, hab⟩
  refine ⟨⟨items, rows⟩, R4, hok, ⟨?_, ?_⟩, hgood, hi, ?_, ?_, hR4, ?_⟩
  · intro q
    have q' : items = [] := q
    rw [q'] at l1
    exact absurd l1 (by decide)
  · intro q
    have q' : rows = [] := q
    rw [q'] at hrn
    exact hne7 (List.length_eq_zero_iff.mp hrn.symm)
  · show items.length ≤ 3
    exact l2
  · show rows.length ≤ most.toNat + items.length
    omega
  refine def_leave (sl := tabS most y5 items (some (.lst (ws.map Val.int))) (some (.ref 2)) x10 (some (vR r0))) (S1 := [R4, .lst (sV pl), .dN kvs7]) rfl ?_ (leave_table (T := ⟨items, rows⟩) hR4 (by show items.length ≤ 5; omega) (fun r hr => by rw [(hrw r hr).1]; omega) (by show rows.length ≤ 24; omega))
  have c0 : ([Val.ref 0, .int 3, .int most].map some ++ List.replicate (13 - 3) none : Sl) = [some (.ref 0), some (.int 3), some (.int most), none, none, none, none, none, none, none, none, none, none] := rfl
  rw [c0]
  have e1 : t_1 [some (.ref 0), some (.int 3), some (.int most), none, none, none, none, none, none, none, none, none, none] [R] = some (.nxt, [some (.ref 0), some (.int 3), some (.int most), some (.ref 1), some (.lst (sV poolW)), none, none, none, none, none, none, none, none], [R, .lst (sV poolH)]) :=
    asg_ev (v := .tup [.ref 1, .lst (sV poolW)]) (S1 := [R, .lst (sV poolH)]) (tup_ev (cons_ev (lstM_ev (S1 := [R]) (esS_ev poolH)) (cons_ev (lst_ev (esS_ev poolW)) nil_ev))) rfl
  rw [← rng_map] at e5 e7
  refine seq_ev e1 (seq_ev e2 (seq_ev e3 (seq_ev (for_ev (rng_evS (op2_ev con_ev e4 add_int) (by omega) (by omega)) e5) (seq_ev (set_ev (fn_ev (cons_ev (var_ev rfl) nil_ev) e6)) (seq_ev (for_ev (s := ⟨rngL 0 items.length, none⟩) (S1 := [R4, .lst (sV pl), .dN kvs]) ?_ e7) ?_)))))
  · refine rng_ev (fn_ev (vs := [.lst (sV items)]) (cons_ev (var_ev rfl) nil_ev) ?_) (by omega)
    show some (Val.int ((sV items).length : Int)) = _
    rw [List.length_map]
  · exact ret_ev (tup_ev (cons_ev (fn_ev (vs := [.lst (sV items)]) (cons_ev (var_ev rfl) nil_ev) rfl) (cons_ev (fn_ev (vs := [.lst (rows.map vR)]) (S1 := [R4, .lst (sV pl), .dN kvs7]) (cons_ev (fn_ev (cons_ev (var_ev rfl) nil_ev) e8) nil_ev) rfl) nil_ev)))
end K5
namespace K5
open PySem PySem.Spec PyProof.Rows L2 Mp Pilot
theorem cut_ints {ns : List Int} {lo hi : Option Int} : ∃ cs : List Int, cutG (ns.map Val.int) lo hi = cs.map Val.int := ⟨(ns.drop (HT.sIx (ns.map Val.int).length 0 lo)).take (HT.sIx (ns.map Val.int).length (ns.map Val.int).length hi - HT.sIx (ns.map Val.int).length 0 lo), by
  unfold cutG
  rw [List.map_take, List.map_drop]⟩
theorem sp_reader {v : Val} {ns : List Int} (h : v = .scr (ns.map Val.int) ∨ v = .lst (ns.map Val.int)) : ∃ R, IsR R ∧ m_reader [v] [] = some (.ref 0, [R]) := by
  obtain ⟨cs, e⟩ := cut_ints (ns := ns) (lo := none) (hi := some 63)
  refine ⟨rdr cs 0 0 0, ⟨_, _, _, _, rfl⟩, def_keep (sl := [some v]) rfl (ret_ev ?_)⟩
  have e1 : eSl (eVar 0) oNo (oSo (eI 63)) [some v] [] = some (.lst (cs.map Val.int), []) := by
    refine sl_ev (v := v) (lo := none) (hi := some 63) (S1 := []) (S2 := []) (var_ev rfl) rfl (so_ev con_ev) ?_
    rcases h with rfl | rfl
    · show some (Val.lst (cutG (ns.map Val.int) none (some 63))) = _
      rw [e]
    · show some (Val.lst (cutG (ns.map Val.int) none (some 63))) = _
      rw [e]
  have e2 : esAll [eFn fLstOf (esCons (eSl (eVar 0) oNo (oSo (eI 63))) esNil), eI 0, eI 0, eI 0] [some v] [] = some ([.lst (cs.map Val.int), .int 0, .int 0, .int 0], []) :=
    cons_ev (fn_ev (vs := [.lst (cs.map Val.int)]) (S1 := []) (cons_ev e1 nil_ev) rfl) (cons_ev con_ev (cons_ev con_ev (cons_ev con_ev nil_ev)))
  show eDisp (x_reader.map Sum.inr) _ [some v] [] = _
  simp only [eDisp, e2, Option.bind_some]
  rfl
theorem fEq_int {S : Sto} {a b : Int} : fEq false S (.int a) (.int b) = some (.bl (decide (a = b))) := by
  have h := fEq_ofK (neg := false) (S := S) (a := .num a) (b := .num b) ⟨rfl, by simp [NestedKey.depth]⟩ ⟨rfl, by simp [NestedKey.depth]⟩
  rw [Bool.false_xor] at h
  rw [show (Val.int a) = ofK (.num a) from rfl, show (Val.int b) = ofK (.num b) from rfl, h]
  congr 2
  exact decide_eq_decide.mpr ⟨fun q => by injection q, fun q => by rw [q]⟩
theorem def_ret2 {keep : Bool} {body : MS} {n np : Nat} {xs : List Val} {v : Val} {sl : Sl} {S S1 : Sto} (hb : body (xs.map some ++ List.replicate (n - np) none) S = some (.ret v, sl, S1)) (hl : xs.length = np := by rfl) (he : S1.length = S.length := by rfl) : defM keep body n np xs S = some (v, S1) := by
  simp only [defM, hl, if_true, hb, Option.bind_some]
  cases keep
  · simp only [Bool.false_eq_true, if_false, leaveS, he, if_true]
  · rfl
theorem fSortSet_of {S : Sto} {ks : List NK} (h1 : sortOk ks = true) (h2 : setOk ks = true) : fSortSet S [.lst (ofKs ks)] = some (.lst (ofKs (sortKeys ks))) := by
  simp only [fSortSet, seqOf, lstOf, Option.bind_some, toKs_ofKs, h1, h2, Bool.and_self, if_true]
theorem lc_sub {i : Nat} {tt : MT} {m : ME} {s : Src} {sl : Sl} (I : Sto → Prop) (hs : s.n = none) : ∀ (l : List NK) {S : Sto}, (∀ x ∈ l, ∀ S, I S → ∃ b S', tt (sl.set i (some (ofK x))) S = some (b, S') ∧ I S') → (∀ x ∈ l, ∀ S, m (sl.set i (some (ofK x))) S = some (ofK x, S)) → I S →
    ∃ (sub : List NK) (S' : Sto), lcX (.nm i) tt m s sl (l.map ofK) S = some (sub.map ofK, S') ∧ I S' ∧ (∀ k ∈ sub, k ∈ l) ∧ sub.length ≤ l.length
  | [], S, _, _, h => ⟨[], S, by simp [lcX, Src.ok, hs], h, fun _ q => q, Nat.le_refl _⟩
  | x :: l, S, st, mm, h => by
    obtain ⟨b, S1, e1, h1⟩ := st x List.mem_cons_self S h
    obtain ⟨sub, S2, e2, h2, h3, h4⟩ := lc_sub I hs l (fun y hy => st y (List.mem_cons_of_mem _ hy)) (fun y hy => mm y (List.mem_cons_of_mem _ hy)) h1
    cases b with
    | true =>
      refine ⟨x :: sub, S2, ?_, h2, fun k hk => ?_, by simp; omega⟩
      · simp only [List.map_cons, lcX, Src.ok, hs, if_true, Tn.m, gNm, Option.bind_some, e1, mm x List.mem_cons_self, e2]
      · rcases List.mem_cons.mp hk with rfl | hk
        · exact List.mem_cons_self
        · exact List.mem_cons_of_mem _ (h3 k hk)
    | false =>
      refine ⟨sub, S2, ?_, h2, fun k hk => List.mem_cons_of_mem _ (h3 k hk), by simp; omega⟩
      simp only [List.map_cons, lcX, Src.ok, hs, if_true, Tn.m, gNm, Option.bind_some, e1, Bool.false_eq_true, if_false, e2]
theorem sp_subset {R : SO} {P : List NK} (hR : IsR R) : ∃ (sub : List NK) (R' : SO), IsR R' ∧ (∀ k ∈ sub, k ∈ P) ∧ sub.length ≤ P.length ∧ m_subset [.ref 0, gV P] [R] = some (gV sub, [R']) := by
  obtain ⟨w, R1, hR1, w0, w1, e1⟩ := sp_draw (t := []) (many := 4) hR (by decide) (by decide)
  obtain ⟨sub, S', e2, ⟨R2, hR2, rfl⟩, h3, h4⟩ := lc_sub (i := 3) (tt := tAndD (tTru (eOp2 (fOrd .Gt) (eVar 2) (eI 0))) (tTru (eOp2 (fEq false) (eCall m_draw (esCons (eVar 0) (esCons (eOp2 fAdd (eI 1) (eOp2 fMul (eI 2) (eVar 2))) esNil))) (eI 0)))) (m := eVar 3) (s := ⟨P.map ofK, none⟩) (sl := wipeS [some (.ref 0), some (gV P), some (.int w), none] [3]) (fun S => ∃ R, IsR R ∧ S = [R]) rfl P (S := [R1])
    (fun x hx S h => by
      obtain ⟨R, hR, rfl⟩ := h
      by_cases hw : 0 < w
      · obtain ⟨d, R', hR', d0, d1, e⟩ := sp_draw (t := []) (many := 1 + 2 * w) hR (by omega) (by omega)
        refine ⟨decide (d = 0), [R'], and_t (S1 := [R]) (tru_ev (op2_ev (x := .int w) (y := .int 0) (S1 := [R]) (S2 := [R]) (var_ev rfl) con_ev (by rw [gt_int, decide_eq_true hw]))) (tru_ev (op2_ev (x := .int d) (y := .int 0) (S1 := [R']) (S2 := [R']) (call_ev (vs := [.ref 0, .int (1 + 2 * w)]) (S1 := [R]) (cons_ev (var_ev rfl) (cons_ev (op2_ev con_ev (op2_ev (x := .int 2) (y := .int w) con_ev (var_ev rfl) (mul_int (by decide))) add_int) nil_ev)) e) con_ev fEq_int)), R', hR', rfl⟩
      · exact ⟨false, [R], and_f (tru_ev (op2_ev (x := .int w) (y := .int 0) (S1 := [R]) (S2 := [R]) (var_ev rfl) con_ev (by rw [gt_int, decide_eq_false hw]))), R, hR, rfl⟩)
    (fun x _ S => var_ev rfl) ⟨R1, hR1, rfl⟩
  refine ⟨sub, R2, hR2, h3, h4, def_ret2 (sl := [some (.ref 0), some (gV P), some (.int w), none]) ?_⟩
  refine seq_ev (sl1 := [some (.ref 0), some (gV P), some (.int w), none]) (S1 := [R1]) (set_ev (call_ev (vs := [.ref 0, .int 4]) (S1 := [R]) (cons_ev (var_ev rfl) (cons_ev con_ev nil_ev)) e1)) (ret_ev (fn_ev (vs := [.lst (ofKs sub)]) (S1 := [R2]) (cons_ev ?_ nil_ev) rfl))
  have e4 : iSeq (eVar 1) [some (.ref 0), some (gV P), some (.int w), none] [R1] = some (⟨P.map ofK, none⟩, [R1]) := by
    rw [← ofKs_map]
    exact seqT_ev (var_ev rfl)
  simp only [eLc, e4, Option.bind_some, e2, ofKs_map]
theorem isR_all {R : SO} (h : IsR R) : ([R] : Sto).all (SO.inB ([R] : Sto).length) = true := by simp [isR_in h]
theorem tup_map {l : List (List NK)} {l' : List NK} (h : ∀ k ∈ l', k ∈ l.map NestedKey.tup) : ∃ L : List (List NK), l' = L.map NestedKey.tup ∧ ∀ G ∈ L, G ∈ l := by
  induction l' with
  | nil => exact ⟨[], rfl, fun _ q => (List.not_mem_nil q).elim⟩
  | cons k l' ih =>
    obtain ⟨L, e, hL⟩ := ih fun j hj => h j (List.mem_cons_of_mem _ hj)
    obtain ⟨G, hG, rfl⟩ := List.mem_map.mp (h k List.mem_cons_self)
    refine ⟨G :: L, by rw [List.map_cons, e], fun g hg => ?_⟩
    rcases List.mem_cons.mp hg
          with rfl | hg
    · exact hG
    · exact hL g hg
theorem ofKs_tups (L : List (List NK)) : ofKs (L.map NestedKey.tup) = L.map gV := by
  rw [ofKs_map, List.map_map]
  rfl
theorem uniq_len : ∀ l : List NK, (uniq l).length ≤ l.length
  | [] => Nat.le_refl _
  | x :: l => by
    have ih := uniq_len l
    unfold uniq
    split
    · simp only
            [List.length_cons]; omega
    · simp only
            [List.length_cons]; omega
theorem lots_sort {S : Sto} {T : Tab} {L : List (List NK)} (ok : T.Ok) (h : ∀ G ∈ L, Sub T G) (hl : L.length ≤ 60) : ∃ L' : List (List NK), (∀ G ∈ L', Sub T G) ∧ fSortSet S [.lst (L.map gV)] = some (.lst (L'.map gV)) := by
  have hf : ∀ k ∈ L.map NestedKey.tup, Fine k := fun k hk => by
    obtain ⟨G, hG, rfl⟩ := List.mem_map.mp hk
    exact prs_fineT ((h G hG).pr ok)
  have ht : ∀ k ∈ L.map NestedKey.tup, ∃ xs, k = .tup xs := fun k hk => by
    obtain ⟨G, hG, rfl⟩ := List.mem_map.mp hk
    exact ⟨_, rfl⟩
  have h1 : sortOk (L.map NestedKey.tup) = true := sortOk_of (fun a ha b hb => by
    obtain ⟨G, hG, rfl⟩ := List.mem_map.mp ha
    obtain ⟨H, hH, rfl⟩ := List.mem_map.mp hb
    exact alike_tup fun x hx y hy => alike_pr ((h G hG).pr ok x hx) ((h H hH).pr ok y hy)) ht hf
  have h2 : setOk (L.map NestedKey.tup) = true := setOk_of ht hf (by
    have := uniq_len (L.map NestedKey.tup)
    rw [List.length_map] at this
    omega)
  obtain ⟨L', e, hL⟩ := tup_map (l := L) (l' := sortKeys (L.map NestedKey.tup)) fun k hk => mem_sortKeys.mp hk
  refine ⟨L', fun G hG => h G (hL G hG), ?_⟩
  rw [← ofKs_tups, fSortSet_of h1 h2, e, ofKs_tups]
end K5
namespace Pilot
open PySem PySem.Spec PyProof.Rows L2 Mp
section
variable {P : Program} {w : World} {K : PySem.W.Frag} {mg : Str → Option Value} {base : Heap} {g : Gx}
abbrev es4 (a b c d : ME) : MEs := esCons a (esCons b (esCons c (esCons d esNil)))
abbrev es5 (a b c d e : ME) : MEs := esCons a (esCons b (esCons c (esCons d (esCons e esNil))))
abbrev eT (x : Str) : ME := eCon (.str x)
abbrev s_rq : Stmt := top 12
theorem sc_rq : FnScope ["table", "item", "chosen", "candidates", "name"] ["table", "item", "chosen"] (defScope s_rq) := ⟨rfl, rfl, rfl, by decide +kernel, rfl, by decide +kernel, by decide +kernel⟩
def b_rq : MS := sSeq (sSet 3 (eCall m_cand (es2 (eVar 0) (eVar 1)))) (sFor (gNm 4) (iSeq (eVar 2)) (sIf (tTru (eOp2 (fIn true) (eVar 4) (eVar 3))) sStuck sSkip))
def m_rq : MF := defM false b_rq 5 3
theorem ok_rq {f : Addr} {fd : FuncData} (F : Fun K "require_question" "require_question" s_rq f fd) (hK : g.K = K) (C1 : Cal1 P w K mg base g 1 "candidates_of" ["table", "item"] m_cand) : FnOk P w K mg base CX0 2 f fd ["table", "item", "chosen"] (spD g m_rq) := by
  obtain ⟨f1, fd1, F1, g1, k1, b1⟩ := C1.ex
  refine ok_def F sc_rq rfl fun cdv A outer s H E hr => ?_
  have hu : (A.deeper (envOfC "require_question" (defScope s_rq) s.heap.objs.size f cdv)).units + 200 < cLine := by have := hr.un; omega
  have hu66 := Nat.lt_of_le_of_lt (Nat.add_le_add_left (show 66 ≤ 200 by decide) _) hu
  refine ds_cons (ds_set (i := 3) sc_rq.nd rfl (by first | exact Or.inl rfl | exact Or.inr rfl) (d_call F1 hr (by decide) rfl g1 k1 b1 (d_cons (d_var (i := 0)) (d_cons (d_var (i := 1)) d_nil)))) ?_
  exact ds_one (ds_for PassesOwn.never rfl (di_seq hK (d_var (i := 2))) (dg_nm (i := 4) sc_rq.nd rfl (by first | exact Or.inl rfl | exact Or.inr rfl)) (ds_one (ds_if (d_tcmp hK (o_in (neg := true) hK hu66) (d_var (i := 4)) (d_var (i := 3)) rfl fIn_bl) (ds_one ds_stuck) ds_nil)))
abbrev s_aat : Stmt := top 21
theorem sc_aat : FnScope ["row", "place", "chosen"] ["row", "place", "chosen"] (defScope s_aat) := ⟨rfl, rfl, rfl, by decide +kernel, rfl, by decide +kernel, by decide +kernel⟩
def b_aat : MS := sSeq (sIf (tTru (eOp2 (fIn false) (eOp2 fIx (eVar 0) (eVar 1)) (eVar 2))) (sRet (eT "yes")) sSkip) (sRet (eT "no"))
def m_aat : MF := defM false b_aat 3 3
theorem ok_aat {f : Addr} {fd : FuncData} (F : Fun K "answer_at" "answer_at" s_aat f fd) (hK : g.K = K) : FnOk P w K mg base CX0 1 f fd ["row", "place", "chosen"] (spD g m_aat) := by
  refine ok_def F sc_aat rfl fun cdv A outer s H E hr => ?_
  have hu : (A.deeper (envOfC "answer_at" (defScope s_aat) s.heap.objs.size f cdv)).units + 200 < cLine := by have := hr.un; omega
  have hu66 := Nat.lt_of_le_of_lt (Nat.add_le_add_left (show 66 ≤ 200 by decide) _) hu
  exact ds_cons (ds_if (d_tcmp hK (o_in (neg := false) hK hu66) (d_ix hK (d_var (i := 0)) (d_var (i := 1))) (d_var (i := 2)) rfl fIn_bl) (ds_one (ds_ret d_str)) ds_nil) (ds_one (ds_ret d_str))
abbrev s_ain : Stmt := top 20
theorem sc_ain : FnScope ["table", "row", "item", "chosen"] ["table", "row", "item", "chosen"] (defScope s_ain) := ⟨rfl, rfl, rfl, by decide +kernel, rfl, by decide +kernel, by decide +kernel⟩
def b_ain : MS := sSeq (sExp (eCall m_rq (es3 (eVar 0) (eVar 2) (eVar 3)))) (sRet (eCall m_aat (es3 (eVar 1) (eMeth isP fIdx (eOp2 fIx (eVar 0) (eI 0)) (es1 (eVar 2))) (eVar 3))))
def m_ain : MF := defM false b_ain 4 4
theorem ok_ain {f : Addr} {fd : FuncData} (F : Fun K "answer_in" "answer_in" s_ain f fd) (hK : g.K = K) (C1 : Cal1 P w K mg base g 2 "require_question" ["table", "item", "chosen"] m_rq) (C2 : Cal1 P w K mg base g 1 "answer_at" ["row", "place", "chosen"] m_aat) : FnOk P w K mg base CX0 3 f fd ["table", "row", "item", "chosen"] (spD g m_ain) := by
  obtain ⟨f1, fd1, F1, g1, k1, b1⟩ := C1.ex
  obtain ⟨f2, fd2, F2, g2, k2, b2⟩ := C2.ex
  refine ok_def F sc_ain rfl fun cdv A outer s H E hr => ?_
  refine ds_cons (ds_exp (d_call F1 hr (by decide) rfl g1 k1 b1 (d_cons (d_var (i := 0)) (d_cons (d_var (i := 2)) (d_cons (d_var (i := 3)) d_nil))))) ?_
  refine ds_one (ds_ret (d_call F2 hr (by decide) rfl g2 k2 b2 (d_cons (d_var (i := 1)) (d_cons ?_ (d_cons (d_var (i := 3)) d_nil)))))
  exact d_idx hK (d_ix hK (d_var (i := 0)) d_int) (d_cons (d_var (i := 2)) d_nil)
abbrev s_sb : Stmt := top 22
def n_sb : List Str := ["table", "item", "chosen", "answer", "name"]
theorem sc_sb : FnScope n_sb ["table", "item", "chosen", "answer"] (defScope s_sb) := ⟨rfl, rfl, rfl, by decide +kernel, rfl, by decide +kernel, by decide +kernel⟩
def lc_sb (neg : Bool) : ME := eFn fTupOf (es1 (eLc (.nm 4) (iSeq (eCall m_cand (es2 (eVar 0) (eVar 1)))) (tTru (eOp2 (fIn neg) (eVar 4) (eVar 2))) (eTup (es2 (eVar 1) (eVar 4))) [4]))
def b_sb : MS := sSeq (sExp (eCall m_rq (es3 (eVar 0) (eVar 1) (eVar 2)))) (sSeq (sIf (tTru (eOp2 (fEq false) (eVar 3) (eT "yes"))) (sRet (lc_sb true)) sSkip) (sRet (lc_sb false)))
def m_sb : MF := defM false b_sb 5 4
theorem ok_sb {f : Addr} {fd : FuncData} (F : Fun K "struck_by" "struck_by" s_sb f fd) (hK : g.K = K) (m1 : mg "tuple" = none) (C1 : Cal1 P w K mg base g 2 "require_question" ["table", "item", "chosen"] m_rq) (C2 : Cal1 P w K mg base g 1 "candidates_of" ["table", "item"] m_cand) : FnOk P w K mg base CX0 3 f fd ["table", "item", "chosen", "answer"] (spD g m_sb) := by
  obtain ⟨f1, fd1, F1, g1, k1, b1⟩ := C1.ex
  obtain ⟨f2, fd2, F2, g2, k2, b2⟩ := C2.ex
  refine ok_def F sc_sb rfl fun cdv A outer s H E hr => ?_
  have hu : (A.deeper (envOfC "struck_by" (defScope s_sb) s.heap.objs.size f cdv)).units + 200 < cLine := by have := hr.un; omega
  have hu64 := Nat.lt_of_le_of_lt (Nat.add_le_add_left (show 64 ≤ 200 by decide) _) hu
  have hu66 := Nat.lt_of_le_of_lt (Nat.add_le_add_left (show 66 ≤ 200 by decide) _) hu
  refine ds_cons (ds_exp (d_call F1 hr (by decide) rfl g1 k1 b1 (d_cons (d_var (i := 0)) (d_cons (d_var (i := 1)) (d_cons (d_var (i := 2)) d_nil))))) ?_
  refine ds_cons (ds_if (d_tcmp hK (o_eq hK hu64) (d_var (i := 3)) d_str rfl fEq_bl) (ds_one (ds_ret (d_typ (c_tuple hK) rfl m1 (by decide +kernel) (d_cons ?_ d_nil)))) ds_nil) (ds_one (ds_ret (d_typ (c_tuple hK) rfl m1 (by decide +kernel) (d_cons ?_ d_nil))))
  · exact d_lc (own := [("name", 4)]) hK rfl sc_sb.nd (di_seq hK (d_call F2 hr (by decide) rfl g2 k2 b2 (d_cons (d_var (i := 0)) (d_cons (d_var (i := 1)) d_nil)))) (show BlkOk n_sb (defScope s_sb) _ _ from ⟨rfl, by decide +kernel, by decide +kernel, by decide +kernel, by decide +kernel⟩) (by decide) (fun _ _ _ _ _ => pg_name sc_sb.nd rfl (by first | exact Or.inl rfl | exact Or.inr rfl)) (fun _ _ _ _ _ => dts_one (d_tcmp hK (o_in (neg := true) hK hu66) (d_var (i := 4)) (d_var (i := 2)) rfl fIn_bl)) (fun _ _ _ _ _ => d_tup (d_cons (d_var (i := 1)) (d_cons (d_var (i := 4)) d_nil)) (esN_cons (esN_cons esN_nil)))
  · exact d_lc (own := [("name", 4)]) hK rfl sc_sb.nd (di_seq hK (d_call F2 hr (by decide) rfl g2 k2 b2 (d_cons (d_var (i := 0)) (d_cons (d_var (i := 1)) d_nil)))) (show BlkOk n_sb (defScope s_sb) _ _ from ⟨rfl, by decide +kernel, by decide +kernel, by decide +kernel, by decide +kernel⟩) (by decide) (fun _ _ _ _ _ => pg_name sc_sb.nd rfl (by first | exact Or.inl rfl | exact Or.inr rfl)) (fun _ _ _ _ _ => dts_one (d_tcmp hK (o_in (neg := false) hK hu66) (d_var (i := 4)) (d_var (i := 2)) rfl fIn_bl)) (fun _ _ _ _ _ => d_tup (d_cons (d_var (i := 1)) (d_cons (d_var (i := 4)) d_nil)) (esN_cons (esN_cons esN_nil)))
abbrev s_paid : Stmt := top 23
def n_paid : List Str := ["table", "struck", "item", "chosen", "answer", "dead", "pair"]
theorem sc_paid : FnScope n_paid ["table", "struck", "item", "chosen", "answer"] (defScope s_paid) := ⟨rfl, rfl, rfl, by decide +kernel, rfl, by decide +kernel, by decide +kernel⟩
def b_paid : MS := sSeq (sExp (eCall m_rq (es3 (eVar 0) (eVar 2) (eVar 3)))) (sSeq (sSet 5 (eCall m_dead (es2 (eVar 0) (eVar 1)))) (sRet (eFn fTupOf (es1 (eLc (.nm 6) (iSeq (eCall m_sb (es4 (eVar 0) (eVar 2) (eVar 3) (eVar 4)))) (tTru (eOp2 (fIn true) (eVar 6) (eVar 5))) (eVar 6) [6])))))
def m_paid : MF := defM false b_paid 7 5
theorem ok_paid {f : Addr} {fd : FuncData} (F : Fun K "paid_by" "paid_by" s_paid f fd) (hK : g.K = K) (m1 : mg "tuple" = none) (C1 : Cal1 P w K mg base g 2 "require_question" ["table", "item", "chosen"] m_rq) (C2 : Cal1 P w K mg base g 4 "dead_pairs" ["table", "struck"] m_dead) (C3 : Cal1 P w K mg base g 3 "struck_by" ["table", "item", "chosen", "answer"] m_sb) : FnOk P w K mg base CX0 5 f fd ["table", "struck", "item", "chosen", "answer"] (spD g m_paid) := by
  obtain ⟨f1, fd1, F1, g1, k1, b1⟩ := C1.ex
  obtain ⟨f2, fd2, F2, g2, k2, b2⟩ := C2.ex
  obtain ⟨f3, fd3, F3, g3, k3, b3⟩ := C3.ex
  refine ok_def F sc_paid rfl fun cdv A outer s H E hr => ?_
  have hu : (A.deeper (envOfC "paid_by" (defScope s_paid) s.heap.objs.size f cdv)).units + 200 < cLine := by have := hr.un; omega
  have hu66 := Nat.lt_of_le_of_lt (Nat.add_le_add_left (show 66 ≤ 200 by decide) _) hu
  refine ds_cons (ds_exp (d_call F1 hr (by decide) rfl g1 k1 b1 (d_cons (d_var (i := 0)) (d_cons (d_var (i := 2)) (d_cons (d_var (i := 3)) d_nil))))) ?_
  refine ds_cons (ds_set (i := 5) sc_paid.nd rfl (by first | exact Or.inl rfl | exact Or.inr rfl) (d_call F2 hr (by decide) rfl g2 k2 b2 (d_cons (d_var (i := 0)) (d_cons (d_var (i := 1)) d_nil)))) ?_
  refine ds_one (ds_ret (d_typ (c_tuple hK) rfl m1 (by decide +kernel) (d_cons ?_ d_nil)))
  exact d_lc (own := [("pair", 6)]) hK rfl sc_paid.nd (di_seq hK (d_call F3 hr (by decide) rfl g3 k3 b3 (d_cons (d_var (i := 0)) (d_cons (d_var (i := 2)) (d_cons (d_var (i := 3)) (d_cons (d_var (i := 4)) d_nil)))))) (show BlkOk n_paid (defScope s_paid) _ _ from ⟨rfl, by decide +kernel, by decide +kernel, by decide +kernel, by decide +kernel⟩) (by decide) (fun _ _ _ _ _ => pg_name sc_paid.nd rfl (by first | exact Or.inl rfl | exact Or.inr rfl)) (fun _ _ _ _ _ => dts_one (d_tcmp hK (o_in (neg := true) hK hu66) (d_var (i := 6)) (d_var (i := 5)) rfl fIn_bl)) (fun _ _ _ _ _ => d_var (i := 6))
abbrev s_fa : Stmt := top 24
def n_fa : List Str := ["table", "struck", "item", "chosen", "answer"]
theorem sc_fa : FnScope n_fa ["table", "struck", "item", "chosen"] (defScope s_fa) := ⟨rfl, rfl, rfl, by decide +kernel, rfl, by decide +kernel, by decide +kernel⟩
def eYN : ME := eTup (es2 (eT "yes") (eT "no"))
def b_fa : MS := sSeq (sExp (eCall m_rq (es3 (eVar 0) (eVar 2) (eVar 3)))) (sSeq (sIf (tTru (eOp2 (fEq false) (eCall m_alive (es2 (eVar 0) (eVar 1))) (eTup esNil))) (sRet (eT "none")) sSkip) (sSeq (sFor (gNm 4) (iSeq eYN) (sIf (tTru (eOp2 (fEq false) (eCall m_paid (es5 (eVar 0) (eVar 1) (eVar 2) (eVar 3) (eVar 4))) (eTup esNil))) (sRet (eVar 4)) sSkip)) (sRet (eT "open"))))
def m_fa : MF := defM false b_fa 5 4
theorem ok_fa {f : Addr} {fd : FuncData} (F : Fun K "forced_answer" "forced_answer" s_fa f fd) (hK : g.K = K) (C1 : Cal1 P w K mg base g 2 "require_question" ["table", "item", "chosen"] m_rq) (C2 : Cal1 P w K mg base g 3 "alive_rows" ["table", "struck"] m_alive) (C3 : Cal1 P w K mg base g 5 "paid_by" ["table", "struck", "item", "chosen", "answer"] m_paid) : FnOk P w K mg base CX0 6 f fd ["table", "struck", "item", "chosen"] (spD g m_fa) := by
  obtain ⟨f1, fd1, F1, g1, k1, b1⟩ := C1.ex
  obtain ⟨f2, fd2, F2, g2, k2, b2⟩ := C2.ex
  obtain ⟨f3, fd3, F3, g3, k3, b3⟩ := C3.ex
  refine ok_def F sc_fa rfl fun cdv A outer s H E hr => ?_
  have hu : (A.deeper (envOfC "forced_answer" (defScope s_fa) s.heap.objs.size f cdv)).units + 200 < cLine := by have := hr.un; omega
  have hu64 := Nat.lt_of_le_of_lt (Nat.add_le_add_left (show 64 ≤ 200 by decide) _) hu
  refine ds_cons (ds_exp (d_call F1 hr (by decide) rfl g1 k1 b1 (d_cons (d_var (i := 0)) (d_cons (d_var (i := 2)) (d_cons (d_var (i := 3)) d_nil))))) ?_
  refine ds_cons (ds_if (d_tcmp hK (o_eq hK hu64) (d_call F2 hr (by decide) rfl g2 k2 b2 (d_cons (d_var (i := 0)) (d_cons (d_var (i := 1)) d_nil))) (d_tup d_nil esN_nil) rfl fEq_bl) (ds_one (ds_ret d_str)) ds_nil) ?_
  refine ds_cons (ds_for PassesOwn.never rfl (di_seq hK (d_tup (d_cons d_str (d_cons d_str d_nil)) (esN_cons (esN_cons esN_nil)))) (dg_nm (i := 4) sc_fa.nd rfl (by first | exact Or.inl rfl | exact Or.inr rfl)) (ds_one (ds_if (d_tcmp hK (o_eq hK hu64) ?_ (d_tup d_nil esN_nil) rfl fEq_bl) (ds_one (ds_ret (d_var (i := 4)))) ds_nil))) (ds_one (ds_ret d_str))
  exact d_call F3 hr (by decide) rfl g3 k3 b3 (d_cons (d_var (i := 0)) (d_cons (d_var (i := 1)) (d_cons (d_var (i := 2)) (d_cons (d_var (i := 3)) (d_cons (d_var (i := 4)) d_nil)))))
end
end Pilot
namespace Mp
open PySem PySem.Spec
      PyProof.Rows L2
/-- a f b f' c -/
def tChainM (f f' : Sto → Val → Val → Option Val) (ma mb mc : ME) : MT := fun sl S => (ma sl S).bind fun p => (mb sl p.2).bind fun q => (f q.2 p.1 q.1).bind fun v => match v with
  | .bl true => (mc sl q.2).bind fun t => (f' t.2 q.1 t.1).bind fun w => match w with
    | .bl k => some (k, t.2)
    | _ => none
  | .bl false => some (false, q.2)
  | _ => none
/-- a + b, both tuples -/
def fAddP (S : Sto) (a b : Val) : Option Val := (tupOf a).bind fun xs => (tupOf b).bind fun ys => if xs.length + ys.length ≤ sizeLine then some (.tup (xs ++ ys)) else none
section
variable {X : Cx} {g : Gx} {pos : Pos}
theorem o_addP (hK : g.K = X.K) : OpR X (binaryOp .Add) (rG2 g fAddP) := by
  intro pins s st H x y v u Q I rx ry hh
  obtain ⟨z, r, S, a, b, w, sr, ra, rb, e, q⟩ := hh
  simp only [fAddP, Option.bind_eq_some_iff] at e
  obtain ⟨xs, e1, ys, e2, e3⟩ := e
  split at e3
  · rename_i c
    cases e3
    obtain ⟨a1, vs1, rfl, h1, l1, s1⟩ := tupOf_at ra e1
    obtain ⟨a2, vs2, rfl, h2, l2, s2⟩ := tupOf_at rb e2
    have h1' := h1
    have h2' := h2
    rw [show (g.at z).K = X.K from hK] at h1 h2
    refine op_catA pins s st H _ _ v u Q I rx ry ⟨a1, a2, vs1, vs2, rfl, rfl, h1, h2, by rw [← s1.length, ← s2.length]; exact c, fun z => ?_, fun _ z => ?_, fun _ _ p hp => ?_⟩
    · subst z
      cases s1
      exact q r H _ (.refl r H) sr (.tup h2' l2 s2)
    · subst z
      cases s2
      rw [List.append_nil] at q
      exact q r H _ (.refl r H) sr (.tup h1' l1 s1)
    · exact q r _ (.ref p) (Step.new1 hp) (sr.beside hp) (RV.newT sr hp (by simpa using c) (s1.append s2))
  · cases e3
/-- a text that the module keeps under a name -/
theorem d_gstr {x : Str} {z : Str} {tk : Tok} (hg : Gl X x) (hm : X.mg x = some (.str z tk)) (hd : (x == ("__debug__" : Str)) = false := by decide) : PE X (.Name x pos) (tD g (eCon (.str z))) :=
  d_con (pe_glob hg hm (show RelV (.str z) (.str z tk) from ⟨tk, rfl⟩) hd) fun _ _ _ => .str z
/-- the name of a type, as a value -/
theorem d_ty {t : String} {x : Str} (hg : Gl X x) (hm : X.mg x = none) (hv : bootBuiltins x = some (.type t) := by decide +kernel) (hn : x ≠ "__name__" := by decide) (hdb : (x == ("__debug__" : Str)) = false := by decide) : PE X (.Name x pos) (tD g (eCon (.ty t))) :=
  d_con (hv := .ty t) ⟨fun pins s st H Q I h => ld_blt I hg hm hv ⟨.ty t, H, I, rfl, h⟩ hn hdb⟩ fun _ _ _ => .ty t
theorem dt_chain {op op' : CmpOp} {f f' : Sto → Val → Val → Option Val} {a b c : Expr} {ma mb mc : ME} (ho : OpR X (compareOp op) (rG2 g f)) (ho' : OpR X (compareOp op') (rG2 g f')) (ha : PE X a (tD g ma)) (hb : PE X b (tD g mb)) (hc : PE X c (tD g mc))
    (hm : lastMarks [op, op'] [b, c] = false := by with_unfolding_all rfl) : PT X (.Compare a [op, op'] [b, c] pos) (tDt g (tChainM f f' ma mb mc)) := by
  refine PT.weak (pt_chain ho ho' ha hb hc hm) fun st H Q h => ?_
  obtain ⟨z, r, S, sl, k, S', R, e, q⟩ := h
  simp only [tChainM, Option.bind_eq_some_iff] at e
  obtain ⟨⟨x1, T1⟩, e1, ⟨x2, T2⟩, e2, v, e3, e4⟩ := e
  dsimp only at e2 e3 e4
  refine ⟨z, r, S, sl, x1, T1, R, e1, fun r1 H1 x st1 sr1 rx => ⟨z, r1, T1, sl, x2, T2, R.step st1 sr1, e2, fun r2 H2 y st2 sr2 ry => ?_⟩⟩
  refine ⟨z, r2, T2, x1, x2, v, sr2, rx.mono st2 sr1.own, ry, e3, fun r3 H3 hv st3 sr3 rv => ?_⟩
  split at e4
  · cases rv
    simp only [Option.bind_eq_some_iff] at e4
    obtain ⟨⟨x3, T3⟩, e5, w, e6, e7⟩ := e4
    dsimp only at e6 e7
    refine ⟨true, rfl, ?_⟩
    rw [if_pos rfl]
    refine ⟨z, r3, T2, sl, x3, T3, (R.step st1 sr1).step (st2.trans st3) sr3, e5, fun r4 H4 w' st4 sr4 rw4 => ?_⟩
    refine ⟨z, r4, T3, x2, x3, w, sr4, (ry.mono st3 sr2.own).mono st4 sr3.own, rw4, e6, fun r5 H5 hv5 st5 sr5 rv5 => ?_⟩
    split at e7
    · cases e7
      cases rv5
      exact ⟨_, rfl, q r5 H5 (st1.trans (st2.trans (st3.trans (st4.trans st5)))) sr5⟩
    · cases e7
  · cases e4
    cases rv
    refine ⟨false, rfl, ?_⟩
    rw [if_neg
          Bool.false_ne_true]
    exact ⟨_, rfl, q r3 H3 (st1.trans (st2.trans st3)) sr3⟩
  · cases e4
end
end Mp
namespace Pilot
open PySem PySem.Spec PyProof.Rows L2 Mp
section
variable {P : Program} {w : World} {K : PySem.W.Frag} {mg : Str → Option Value} {base : Heap} {g : Gx}
abbrev s_isn : Stmt := top 27
def n_isn : List Str := ["thing", "letter"]
theorem sc_isn : FnScope n_isn ["thing"] (defScope s_isn) := ⟨rfl, rfl, rfl, by decide +kernel, rfl, by decide +kernel, by decide +kernel⟩
def letters26 : Str := "abcdefghijklmnopqrstuvwxyz"
def isn_c : MT := tOrD (tNotD (tTru (eFn fIsi (es2 (eVar 0) (eCon (.ty "str")))))) (tNotD (tChainM (fOrd .LtE) (fOrd .LtE) (eI 1) (eFn fLen (es1 (eVar 0))) (eI 8)))
def isn_l : ME := eFn (fQuant true) (es1 (eLc (.nm 1) (iSeq (eVar 0)) tYesM (eOp2 (fIn false) (eVar 1) (eCon (.str letters26))) [1]))
def b_isn : MS := sSeq (sIf isn_c sNo sSkip) (sRet isn_l)
def m_isn : MF := defM false b_isn 2 1
theorem ok_isn {f : Addr} {fd : FuncData} (F : Fun K "is_name" "is_name" s_isn f fd) (hK : g.K = K) (hw : g.w = w) (misinstance : mg "isinstance" = none) (mstr : mg "str" = none) (mlen : mg "len" = none) (mall : mg "all" = none) {tkL : Tok} (mLETTERS : mg "LETTERS" = some (.str letters26 tkL)) : FnOk P w K mg base CX0 1 f fd ["thing"] (spD g m_isn) := by
  refine ok_def F sc_isn rfl fun cdv A outer s H E hr => ?_
  have hu : (A.deeper (envOfC "is_name" (defScope s_isn) s.heap.objs.size f cdv)).units + 200 < cLine := by have := hr.un; omega
  have hu12 := Nat.lt_of_le_of_lt (Nat.add_le_add_left (show 12 ≤ 200 by decide) _) hu
  have hu20 := Nat.lt_of_le_of_lt (Nat.add_le_add_left (show 20 ≤ 200 by decide) _) hu
  have hu64 := Nat.lt_of_le_of_lt (Nat.add_le_add_left (show 64 ≤ 200 by decide) _) hu
  have hu66 := Nat.lt_of_le_of_lt (Nat.add_le_add_left (show 66 ≤ 200 by decide) _) hu
  refine ds_cons (ds_if (PW.pt (d_or (d_not (d_tru hK (d_blt (c_isi hK) rfl misinstance (by decide +kernel) (d_cons (d_var (i := 0)) (d_cons (d_ty (t := "str") rfl mstr) d_nil))))) (d_or1 (d_not (dt_chain (o_ord hK hu64) (o_ord hK hu64) d_int (d_blt (c_len hK) rfl mlen (by decide +kernel) (d_cons (d_var (i := 0)) d_nil)) d_int))))) (ds_one (ds_ret d_bl)) ds_nil) ?_
  exact ds_one (ds_ret (d_blt (c_all rfl) rfl mall (by decide +kernel) (d_cons (d_lc (own := [("letter", 1)]) hK rfl sc_isn.nd (di_seq hK (d_var (i := 0))) (show BlkOk n_isn (defScope s_isn) _ _ from ⟨rfl, by decide +kernel, by decide +kernel, by decide +kernel, by decide +kernel⟩) (by decide) (fun _ _ _ _ _ => pg_name sc_isn.nd rfl (by first | exact Or.inl rfl | exact Or.inr rfl)) (fun _ _ _ _ _ => dts_nil) (fun _ _ _ _ _ => (d_cmp (o_in (neg := false) hK hu66) (d_var (i := 1)) (d_gstr rfl mLETTERS) rfl))) d_nil)))
abbrev s_arn : Stmt := top 28
def n_arn : List Str := ["thing", "name"]
theorem sc_arn : FnScope n_arn ["thing"] (defScope s_arn) := ⟨rfl, rfl, rfl, by decide +kernel, rfl, by decide +kernel, by decide +kernel⟩
def b_arn : MS := sRet (eAndB (eFn fIsi (es2 (eVar 0) (eCon (.ty "tuple")))) (eFn (fQuant true) (es1 (eLc (.nm 1) (iSeq (eVar 0)) tYesM (eCall m_isn (es1 (eVar 1))) [1]))))
def m_arn : MF := defM false b_arn 2 1
theorem ok_arn {f : Addr} {fd : FuncData} (F : Fun K "are_names" "are_names" s_arn f fd) (hK : g.K = K) (hw : g.w = w) (misinstance : mg "isinstance" = none) (mtuple : mg "tuple" = none) (mall : mg "all" = none) (C1 : Cal1 P w K mg base g 1 "is_name" ["thing"] m_isn) : FnOk P w K mg base CX0 2 f fd ["thing"] (spD g m_arn) := by
  obtain ⟨f1, fd1, F1, g1, k1, b1⟩ := C1.ex
  refine ok_def F sc_arn rfl fun cdv A outer s H E hr => ?_
  have hu : (A.deeper (envOfC "are_names" (defScope s_arn) s.heap.objs.size f cdv)).units + 200 < cLine := by have := hr.un; omega
  have hu12 := Nat.lt_of_le_of_lt (Nat.add_le_add_left (show 12 ≤ 200 by decide) _) hu
  have hu20 := Nat.lt_of_le_of_lt (Nat.add_le_add_left (show 20 ≤ 200 by decide) _) hu
  have hu64 := Nat.lt_of_le_of_lt (Nat.add_le_add_left (show 64 ≤ 200 by decide) _) hu
  have hu66 := Nat.lt_of_le_of_lt (Nat.add_le_add_left (show 66 ≤ 200 by decide) _) hu
  exact ds_one (ds_ret (d_andB (d_blt (c_isi hK) rfl misinstance (by decide +kernel) (d_cons (d_var (i := 0)) (d_cons (d_ty (t := "tuple") rfl mtuple) d_nil))) (d_andB1 (d_blt (c_all rfl) rfl mall (by decide +kernel) (d_cons (d_lc (own := [("name", 1)]) hK rfl sc_arn.nd (di_seq hK (d_var (i := 0))) (show BlkOk n_arn (defScope s_arn) _ _ from ⟨rfl, by decide +kernel, by decide +kernel, by decide +kernel, by decide +kernel⟩) (by decide) (fun _ _ _ _ _ => pg_name sc_arn.nd rfl (by first | exact Or.inl rfl | exact Or.inr rfl)) (fun _ _ _ _ _ => dts_nil) (fun _ _ _ _ _ => (d_call F1 hr (by decide) rfl g1 k1 b1 (d_cons (d_var (i := 1)) d_nil)))) d_nil)))))
abbrev s_ris : Stmt := top 29
def n_ris : List Str := ["things", "k"]
theorem sc_ris : FnScope n_ris ["things"] (defScope s_ris) := ⟨rfl, rfl, rfl, by decide +kernel, rfl, by decide +kernel, by decide +kernel⟩
def b_ris : MS := sRet (eFn (fQuant true) (es1 (eLc (.nm 1) (iRng2M (eI 1) (eFn fLen (es1 (eVar 0)))) tYesM (eOp2 (fOrd .Lt) (eOp2 fIx (eVar 0) (eOp2 fSub (eVar 1) (eI 1))) (eOp2 fIx (eVar 0) (eVar 1))) [1])))
def m_ris : MF := defM false b_ris 2 1
theorem ok_ris {f : Addr} {fd : FuncData} (F : Fun K "is_rising" "is_rising" s_ris f fd) (hK : g.K = K) (hw : g.w = w) (mall : mg "all" = none) (mrange : mg "range" = none) (mlen : mg "len" = none)  : FnOk P w K mg base CX0 1 f fd ["things"] (spD g m_ris) := by
  refine ok_def F sc_ris rfl fun cdv A outer s H E hr => ?_
  have hu : (A.deeper (envOfC "is_rising" (defScope s_ris) s.heap.objs.size f cdv)).units + 200 < cLine := by have := hr.un; omega
  have hu12 := Nat.lt_of_le_of_lt (Nat.add_le_add_left (show 12 ≤ 200 by decide) _) hu
  have hu20 := Nat.lt_of_le_of_lt (Nat.add_le_add_left (show 20 ≤ 200 by decide) _) hu
  have hu64 := Nat.lt_of_le_of_lt (Nat.add_le_add_left (show 64 ≤ 200 by decide) _) hu
  have hu66 := Nat.lt_of_le_of_lt (Nat.add_le_add_left (show 66 ≤ 200 by decide) _) hu
  exact ds_one (ds_ret (d_blt (c_all rfl) rfl mall (by decide +kernel) (d_cons (d_lc (own := [("k", 1)]) hK rfl sc_ris.nd (di_rng2 rfl mrange d_int (d_blt (c_len hK) rfl mlen (by decide +kernel) (d_cons (d_var (i := 0)) d_nil))) (show BlkOk n_ris (defScope s_ris) _ _ from ⟨rfl, by decide +kernel, by decide +kernel, by decide +kernel, by decide +kernel⟩) (by decide) (fun _ _ _ _ _ => pg_name sc_ris.nd rfl (by first | exact Or.inl rfl | exact Or.inr rfl)) (fun _ _ _ _ _ => dts_nil) (fun _ _ _ _ _ => (d_cmp (o_ord hK hu64) (d_ix hK (d_var (i := 0)) (d_bin o_sub (d_var (i := 1)) d_int)) (d_ix hK (d_var (i := 0)) (d_var (i := 1))) rfl))) d_nil)))
abbrev s_shp : Stmt := top 30
def n_shp : List Str := ["thing", "row"]
theorem sc_shp : FnScope n_shp ["thing"] (defScope s_shp) := ⟨rfl, rfl, rfl, by decide +kernel, rfl, by decide +kernel, by decide +kernel⟩
def shp_c : MT := tOrD (tNotD (tTru (eFn fIsi (es2 (eVar 0) (eCon (.ty "tuple")))))) (tOrD (tTru (eOp2 (fEq true) (eFn fLen (es1 (eVar 0))) (eI 2))) (tNotD (tTru (eCall m_arn (es1 (eOp2 fIx (eVar 0) (eI 0)))))))
def b_shp : MS := sSeq (sIf shp_c sNo sSkip) (sRet (eAndB (eFn fIsi (es2 (eOp2 fIx (eVar 0) (eI 1)) (eCon (.ty "tuple")))) (eFn (fQuant true) (es1 (eLc (.nm 1) (iSeq (eOp2 fIx (eVar 0) (eI 1))) tYesM (eCall m_arn (es1 (eVar 1))) [1])))))
def m_shp : MF := defM false b_shp 2 1
theorem ok_shp {f : Addr} {fd : FuncData} (F : Fun K "is_table_shape" "is_table_shape" s_shp f fd) (hK : g.K = K) (hw : g.w = w) (misinstance : mg "isinstance" = none) (mtuple : mg "tuple" = none) (mlen : mg "len" = none) (mall : mg "all" = none) (C1 : Cal1 P w K mg base g 2 "are_names" ["thing"] m_arn) : FnOk P w K mg base CX0 3 f fd ["thing"] (spD g m_shp) := by
  obtain ⟨f1, fd1, F1, g1, k1, b1⟩ := C1.ex
  refine ok_def F sc_shp rfl fun cdv A outer s H E hr => ?_
  have hu : (A.deeper (envOfC "is_table_shape" (defScope s_shp) s.heap.objs.size f cdv)).units + 200 < cLine := by have := hr.un; omega
  have hu12 := Nat.lt_of_le_of_lt (Nat.add_le_add_left (show 12 ≤ 200 by decide) _) hu
  have hu20 := Nat.lt_of_le_of_lt (Nat.add_le_add_left (show 20 ≤ 200 by decide) _) hu
  have hu64 := Nat.lt_of_le_of_lt (Nat.add_le_add_left (show 64 ≤ 200 by decide) _) hu
  have hu66 := Nat.lt_of_le_of_lt (Nat.add_le_add_left (show 66 ≤ 200 by decide) _) hu
  refine ds_cons (ds_if (PW.pt (d_or (d_not (d_tru hK (d_blt (c_isi hK) rfl misinstance (by decide +kernel) (d_cons (d_var (i := 0)) (d_cons (d_ty (t := "tuple") rfl mtuple) d_nil))))) (d_or (d_tcmp hK (o_ne hK hu64) (d_blt (c_len hK) rfl mlen (by decide +kernel) (d_cons (d_var (i := 0)) d_nil)) d_int rfl fEq_bl) (d_or1 (d_not (d_tru hK (d_call F1 hr (by decide) rfl g1 k1 b1 (d_cons (d_ix hK (d_var (i := 0)) d_int) d_nil)))))))) (ds_one (ds_ret d_bl)) ds_nil) ?_
  exact ds_one (ds_ret (d_andB (d_blt (c_isi hK) rfl misinstance (by decide +kernel) (d_cons (d_ix hK (d_var (i := 0)) d_int) (d_cons (d_ty (t := "tuple") rfl mtuple) d_nil))) (d_andB1 (d_blt (c_all rfl) rfl mall (by decide +kernel) (d_cons (d_lc (own := [("row", 1)]) hK rfl sc_shp.nd (di_seq hK (d_ix hK (d_var (i := 0)) d_int)) (show BlkOk n_shp (defScope s_shp) _ _ from ⟨rfl, by decide +kernel, by decide +kernel, by decide +kernel, by decide +kernel⟩) (by decide) (fun _ _ _ _ _ => pg_name sc_shp.nd rfl (by first | exact Or.inl rfl | exact Or.inr rfl)) (fun _ _ _ _ _ => dts_nil) (fun _ _ _ _ _ => (d_call F1 hr (by decide) rfl g1 k1 b1 (d_cons (d_var (i := 1)) d_nil)))) d_nil)))))
abbrev s_crw : Stmt := top 33
def n_crw : List Str := ["items", "rows", "k"]
theorem sc_crw : FnScope n_crw ["items", "rows"] (defScope s_crw) := ⟨rfl, rfl, rfl, by decide +kernel, rfl, by decide +kernel, by decide +kernel⟩
def crw_1 : MS := sIf (tTru (eOp2 (fEq true) (eFn fLen (es1 (eOp2 fIx (eVar 1) (eVar 2)))) (eFn fLen (es1 (eVar 0))))) sStuck sSkip
def crw_2 : MS := sIf (tAndD (tTru (eOp2 (fOrd .Gt) (eVar 2) (eI 0))) (tNotD (tTru (eOp2 (fOrd .Lt) (eOp2 fIx (eVar 1) (eOp2 fSub (eVar 2) (eI 1))) (eOp2 fIx (eVar 1) (eVar 2)))))) sStuck sSkip
def b_crw : MS := sFor (gNm 2) (iRng1M (eFn fLen (es1 (eVar 1)))) (sSeq crw_1 crw_2)
def m_crw : MF := defM false b_crw 3 2
theorem ok_crw {f : Addr} {fd : FuncData} (F : Fun K "check_rows" "check_rows" s_crw f fd) (hK : g.K = K) (hw : g.w = w) (mrange : mg "range" = none) (mlen : mg "len" = none)  : FnOk P w K mg base CX0 1 f fd ["items", "rows"] (spD g m_crw) := by
  refine ok_def F sc_crw rfl fun cdv A outer s H E hr => ?_
  have hu : (A.deeper (envOfC "check_rows" (defScope s_crw) s.heap.objs.size f cdv)).units + 200 < cLine := by have := hr.un; omega
  have hu12 := Nat.lt_of_le_of_lt (Nat.add_le_add_left (show 12 ≤ 200 by decide) _) hu
  have hu20 := Nat.lt_of_le_of_lt (Nat.add_le_add_left (show 20 ≤ 200 by decide) _) hu
  have hu64 := Nat.lt_of_le_of_lt (Nat.add_le_add_left (show 64 ≤ 200 by decide) _) hu
  have hu66 := Nat.lt_of_le_of_lt (Nat.add_le_add_left (show 66 ≤ 200 by decide) _) hu
  exact ds_one (ds_for PassesOwn.never rfl (di_rng1 rfl mrange (d_blt (c_len hK) rfl mlen (by decide +kernel) (d_cons (d_var (i := 1)) d_nil))) (dg_nm (i := 2) sc_crw.nd rfl (by first | exact Or.inl rfl | exact Or.inr rfl)) (ds_cons (ds_if (d_tcmp hK (o_ne hK hu64) (d_blt (c_len hK) rfl mlen (by decide +kernel) (d_cons (d_ix hK (d_var (i := 1)) (d_var (i := 2))) d_nil)) (d_blt (c_len hK) rfl mlen (by decide +kernel) (d_cons (d_var (i := 0)) d_nil)) rfl fEq_bl) (ds_one ds_stuck) ds_nil) (ds_one (ds_if (PW.pt (d_and (d_tcmp hK (o_ord hK hu64) (d_var (i := 2)) d_int rfl fOrd_bl) (d_and1 (d_not (d_tcmp hK (o_ord hK hu64) (d_ix hK (d_var (i := 1)) (d_bin o_sub (d_var (i := 2)) d_int)) (d_ix hK (d_var (i := 1)) (d_var (i := 2))) rfl fOrd_bl))))) (ds_one ds_stuck) ds_nil))))
abbrev s_ccd : Stmt := top 34
def n_ccd : List Str := ["items", "rows", "i", "row"]
theorem sc_ccd : FnScope n_ccd ["items", "rows"] (defScope s_ccd) := ⟨rfl, rfl, rfl, by decide +kernel, rfl, by decide +kernel, by decide +kernel⟩
def b_ccd : MS := sFor (gNm 2) (iRng1M (eFn fLen (es1 (eVar 0)))) (sIf (tTru (eOp2 (fOrd .Lt) (eFn fLenTxt (es1 (eLc (.nm 3) (iSeq (eVar 1)) tYesM (eOp2 fIx (eVar 3) (eVar 2)) [3]))) (eI 2))) sStuck sSkip)
def m_ccd : MF := defM false b_ccd 4 2
theorem ok_ccd {f : Addr} {fd : FuncData} (F : Fun K "check_candidates" "check_candidates" s_ccd f fd) (hK : g.K = K) (hw : g.w = w) (mrange : mg "range" = none) (mlen : mg "len" = none) (mset : mg "set" = none)  : FnOk P w K mg base CX0 1 f fd ["items", "rows"] (spD g m_ccd) := by
  refine ok_def F sc_ccd rfl fun cdv A outer s H E hr => ?_
  have hu : (A.deeper (envOfC "check_candidates" (defScope s_ccd) s.heap.objs.size f cdv)).units + 200 < cLine := by have := hr.un; omega
  have hu12 := Nat.lt_of_le_of_lt (Nat.add_le_add_left (show 12 ≤ 200 by decide) _) hu
  have hu20 := Nat.lt_of_le_of_lt (Nat.add_le_add_left (show 20 ≤ 200 by decide) _) hu
  have hu64 := Nat.lt_of_le_of_lt (Nat.add_le_add_left (show 64 ≤ 200 by decide) _) hu
  have hu66 := Nat.lt_of_le_of_lt (Nat.add_le_add_left (show 66 ≤ 200 by decide) _) hu
  exact ds_one (ds_for PassesOwn.never rfl (di_rng1 rfl mrange (d_blt (c_len hK) rfl mlen (by decide +kernel) (d_cons (d_var (i := 0)) d_nil))) (dg_nm (i := 2) sc_ccd.nd rfl (by first | exact Or.inl rfl | exact Or.inr rfl)) (ds_one (ds_if (d_tcmp hK (o_ord hK hu64) (d_lenTxt rfl rfl mlen rfl mset (d_lc (own := [("row", 3)]) hK rfl sc_ccd.nd (di_seq hK (d_var (i := 1))) (show BlkOk n_ccd (defScope s_ccd) _ _ from ⟨rfl, by decide +kernel, by decide +kernel, by decide +kernel, by decide +kernel⟩) (by decide) (fun _ _ _ _ _ => pg_name sc_ccd.nd rfl (by first | exact Or.inl rfl | exact Or.inr rfl)) (fun _ _ _ _ _ => dts_nil) (fun _ _ _ _ _ => (d_ix hK (d_var (i := 3)) (d_var (i := 2)))))) d_int rfl fOrd_bl) (ds_one ds_stuck) ds_nil)))
abbrev s_lts : Stmt := top 32
def n_lts : List Str := ["thing", "items", "rows"]
theorem sc_lts : FnScope n_lts ["thing"] (defScope s_lts) := ⟨rfl, rfl, rfl, by decide +kernel, rfl, by decide +kernel, by decide +kernel⟩
def b_lts : MS := sSeq (sIf (tNotD (tTru (eCall m_shp (es1 (eVar 0))))) sStuck sSkip) (sSeq (sAsg (gTp [1, 2]) (eVar 0)) (sSeq (sIf (tOrD (tNotD (tTru (eVar 1))) (tNotD (tTru (eCall m_ris (es1 (eVar 1)))))) sStuck sSkip) (sSeq (sIf (tNotD (tTru (eVar 2))) sStuck sSkip) (sSeq (sExp (eCall m_crw (es2 (eVar 1) (eVar 2)))) (sSeq (sExp (eCall m_ccd (es2 (eVar 1) (eVar 2)))) (sRet (eFn fLen (es1 (eVar 2)))))))))
def m_lts : MF := defM false b_lts 3 1
theorem ok_lts {f : Addr} {fd : FuncData} (F : Fun K "lets_table" "lets_table" s_lts f fd) (hK : g.K = K) (hw : g.w = w) (mlen : mg "len" = none) (C1 : Cal1 P w K mg base g 3 "is_table_shape" ["thing"] m_shp) (C2 : Cal1 P w K mg base g 1 "is_rising" ["things"] m_ris) (C3 : Cal1 P w K mg base g 1 "check_rows" ["items", "rows"] m_crw) (C4 : Cal1 P w K mg base g 1 "check_candidates" ["items", "rows"] m_ccd) : FnOk P w K mg base CX0 4 f fd ["thing"] (spD g m_lts) := by
  obtain ⟨f1, fd1, F1, g1, k1, b1⟩ := C1.ex
  obtain ⟨f2, fd2, F2, g2, k2, b2⟩ := C2.ex
  obtain ⟨f3, fd3, F3, g3, k3, b3⟩ := C3.ex
  obtain ⟨f4, fd4, F4, g4, k4, b4⟩ := C4.ex
  refine ok_def F sc_lts rfl fun cdv A outer s H E hr => ?_
  have hu : (A.deeper (envOfC "lets_table" (defScope s_lts) s.heap.objs.size f cdv)).units + 200 < cLine := by have := hr.un; omega
  have hu12 := Nat.lt_of_le_of_lt (Nat.add_le_add_left (show 12 ≤ 200 by decide) _) hu
  have hu20 := Nat.lt_of_le_of_lt (Nat.add_le_add_left (show 20 ≤ 200 by decide) _) hu
  have hu64 := Nat.lt_of_le_of_lt (Nat.add_le_add_left (show 64 ≤ 200 by decide) _) hu
  have hu66 := Nat.lt_of_le_of_lt (Nat.add_le_add_left (show 66 ≤ 200 by decide) _) hu
  refine ds_cons (ds_if (d_not (d_tru hK (d_call F1 hr (by decide) rfl g1 k1 b1 (d_cons (d_var (i := 0)) d_nil)))) (ds_one ds_stuck) ds_nil) ?_
  refine ds_cons (ds_asg (d_var (i := 0)) (dg_tp hK rfl (dgs_cons (i := 1) sc_lts.nd rfl (by first | exact Or.inl rfl | exact Or.inr rfl) (dgs_cons (i := 2) sc_lts.nd rfl (by first | exact Or.inl rfl | exact Or.inr rfl) dgs_nil)))) ?_
  refine ds_cons (ds_if (PW.pt (d_or (d_not (d_tru hK (d_var (i := 1)))) (d_or1 (d_not (d_tru hK (d_call F2 hr (by decide) rfl g2 k2 b2 (d_cons (d_var (i := 1)) d_nil))))))) (ds_one ds_stuck) ds_nil) ?_
  refine ds_cons (ds_if (d_not (d_tru hK (d_var (i := 2)))) (ds_one ds_stuck) ds_nil) ?_
  refine ds_cons (ds_exp (d_call F3 hr (by decide) rfl g3 k3 b3 (d_cons (d_var (i := 1)) (d_cons (d_var (i := 2)) d_nil)))) ?_
  refine ds_cons (ds_exp (d_call F4 hr (by decide) rfl g4 k4 b4 (d_cons (d_var (i := 1)) (d_cons (d_var (i := 2)) d_nil)))) ?_
  exact ds_one (ds_ret (d_blt (c_len hK) rfl mlen (by decide +kernel) (d_cons (d_var (i := 2)) d_nil)))
end
end Pilot
namespace Mt2
open PySem PySem.W
      PySem.Calls PyProof.Rows
section
variable {prog : Program}
      {w : World} {A : Around} {E : Value → Shared → Prop} {s : Shared}
/-- the new list into which a tuple's items go -/
theorem from_tuple {a : Addr} {vs : List Value} {Q : List Value → Shared → Prop} (ht : s.heap.IsTuple a vs.toArray) (hz : vs.length ≤ sizeLine)
    (h : Q vs { s with heap := (s.heap.push (seqObj "list" #[] 0)).update s.heap.objs.size (Obj.mapSeq (· ++ vs.toArray)) }) : wpAny (model prog w) A (collect (.ref a)) Q E s := by
  obtain ⟨o, h1, h2, n, h3⟩ := ht
  have old : (s.heap.push (seqObj "list" #[] 0)).get? a = some o := Heap.get?_push_of_some _ h1
  have new : (s.heap.push (seqObj "list" #[] 0)).get? s.heap.objs.size = some (seqObj "list" #[] 0) := Heap.get?_push_size _ rfl
  unfold collect
  refine wpAny_bind (wpAny_runValue (codeAny_builtin entry_proto_collect' (show wpAny _ _ (do again (.builtin "list.__iadd__" ⟨[← newList [], .ref a], []⟩)) _ _ s from wpAny_bind (wpAny_newList (wpAny_pure ⟨Code.quiet_builtin _ (by decide +kernel), codeAny_builtin entry_list_iadd' ?_⟩)))))
  show wpAny _ _ (Builtin.List.listExtendWith (.ref s.heap.objs.size) (.ref a) (.ref s.heap.objs.size)) _ _ { s with heap := s.heap.push (seqObj "list" #[] 0) }
  unfold
        Builtin.List.listExtendWith
  refine wpAny_bind (wpAny_typeOf (T := "tuple") ⟨o, old, h2⟩ ?_)
  have two : (Value.type "tuple" == Value.type "tuple") = true := by rfl
  rw [if_pos (by rw [two]; simp)]
  refine wpAny_bind (listItems_at old h3 (wpAny_bind (listItems_at (xs := #[]) (n := 0) new rfl ?_)))
  rw [if_neg (by simp)]
  refine wpAny_bind (listUpdate_at (xs := #[]) (n := 0) new rfl (wpAny_pure ?_) (Nat.zero_le _) (by show (#[] ++ vs.toArray).size ≤ sizeLine + 1; simp only [Array.size_append, List.size_toArray, List.length_nil]; omega))
  have at_ := get?_update_seq new (· ++ vs.toArray)
  show wpAny (model prog w) A (load s.heap.objs.size >>= fun o => match o.data with
      | .seq xs _ => pure xs.toList
      | _ => unsupported "internal:collect") Q E
            { s with heap := (s.heap.push (seqObj "list" #[] 0)).update s.heap.objs.size (Obj.mapSeq (· ++ vs.toArray)) }
  refine wpAny_bind (wpAny_load at_ ?_)
  show wpAny _ _ (pure ((#[] : Array
        Value) ++ vs.toArray).toList) Q E _
  have e : ((#[] : Array Value) ++ vs.toArray).toList = vs := by simp
  rw [e]
  exact wpAny_pure h
variable {β : Type} {vs : List Value} {bs : List β} {enc : β → PyData} {R : Value → β → Prop}
theorem sorted_tuple {l : Addr} {Q : Value → Shared → Prop} (hl : s.heap.IsTuple l vs.toArray) (e : EachIs R vs bs) (er : EachIs (fun v b => ∃ as, Reads s.heap v (enc b) as) vs bs)
    (hal : AllAlike (bs.map enc)) (hk : Mt.Sort2 (bs.map enc)) (hL : bs.length ≤ sizeLine) (hu : ∀ b, b ∈ bs → A.units + 2 + (enc b).depth < cLine)
    (h : ∀ out, out.length = bs.length → EachIs R out (bs.mergeSort (dataLe false enc)) → Q (.ref (s.heap.objs.size + 1)) { s with heap := sortedAll s.heap vs (List.toArray out) }) : wpAny (model prog w) A (call (.builtin "sorted") [.ref l]) Q E s := by
  have er2 := er.mono fun _ _ ⟨as, r⟩ => (⟨as, PyProof.Rows.Reads.keeps (fun _ _ => sorting_copy_old) r⟩ : ∃ as, Reads (sortingHeap (copyHeap s.heap vs) (s.heap.objs.size + 1) vs) _ _ as)
  have so := Mt.SortsAt_two (prog := prog) (w := w) (A := A.in1.in1) (s := { s with heap := sortingHeap (copyHeap s.heap vs) (s.heap.objs.size + 1) vs }) (each_map (R := fun v d => ∃ as, Reads (sortingHeap (copyHeap s.heap vs) (s.heap.objs.size + 1) vs) v d as) enc er2) hal hk (bound_map hu)
  have hv : vs.length ≤ sizeLine := by rw [e.length]; exact hL
  refine call_function_entry_kw kind_sorted plain_sorted entry_sorted (args_sorted1 _) ?_
  unfold Builtin.«sorted»
  refine wpAny_bind (m := checkCount "sorted" 1 1 _) (wpAny_pure (wpAny_bind (from_tuple hl hv (wpAny_bind (wpAny_newList ?_ hv)))))
  have sz : ((s.heap.push (seqObj "list" #[] 0)).update s.heap.objs.size (Obj.mapSeq (· ++ vs.toArray))).objs.size = s.heap.objs.size + 1 := by
    rw [Heap.size_update,
          size_push']
  show wpAny _ _ _ _ _
        { s with heap := copyHeap s.heap vs }
  rw [sz]
  refine wpAny_bind (wpAny_holding (wpAny_call_entry_kw slot_list_sort ⟨_, copyHeap_at s.heap vs, rfl⟩ entry_list_sort ?_ (args_list_sort _)))
  refine wpAny_mono (list_sort_vals (P := fun f s' => f = .done (.ret .none) ∧ Q (.ref (s.heap.objs.size + 1)) s') (E := E) (s := { s with heap := copyHeap s.heap vs }) (copyHeap_at s.heap vs) so hv ⟨rfl, h _ (by rw [sortVals_length false rfl]; exact e.length) (sortVals_data false e er2 hal)⟩) (fun f s' hf => ?_) fun _ _ e => e
  obtain ⟨rfl, hq⟩ := hf
  exact ⟨_, rfl, wpAny_pure
        ⟨_, rfl, hq⟩⟩
end
end Mt2
namespace Mp
open PySem PySem.Spec
      PyProof.Rows L2
/-- sorted of a tuple -/
def fSortT : FN := fun S xs => match xs with
  | [.tup ys] => (toKs ys).bind fun ks => if sortOk ks then some (.lst (ofKs (ks.mergeSort keyLe))) else none
  | _ => none
/-- a list so many times -/
def fRep (S : Sto) (a b : Val) : Option Val := match b with
  | .int k => (lstOf S a).bind fun xs => if 0 ≤ k ∧ k ≤ 1000 ∧ xs.length ≤ 1000 then some (.lst (List.replicate k.toNat xs).flatten) else none
  | _ => none
theorem rvs_rep {g : Gx} {r : List Addr} {H : Hp} {xs : List Val} {vs : List V} (h : RVs g r H xs vs) : ∀ n : Nat, RVs g r H (List.replicate n xs).flatten (List.replicate n vs).flatten
  | 0 => .nil
  | n + 1 => by
    rw [List.replicate_succ, List.replicate_succ,
          List.flatten_cons, List.flatten_cons]
    exact h.append (rvs_rep h n)
section
variable {X : Cx} {g : Gx} {pos : Pos}
theorem o_rep : OpR X (binaryOp .Mult) (rG2 g fRep) := by
  intro pins s st H x y v u Q I rx ry hh
  obtain ⟨z, r, S, a, b, w, sr, ra, rb, e, q⟩ := hh
  unfold fRep at e
  split at e
  · rename_i k
    simp only [Option.bind_eq_some_iff] at e
    obtain ⟨xs, e1, e2⟩ := e
    split at e2
    · rename_i c
      cases e2
      cases rb
      obtain ⟨p, vs, rfl, hp, _, hs⟩ := lstOf_at sr ra e1
      have big : (1000000 : Nat) ≤ sizeLine := by unfold sizeLine; decide
      have hl : vs.length * k.toNat ≤ sizeLine := by
        rw [← hs.length]
        have a1 : xs.length * k.toNat ≤ 1000 * 1000 := Nat.mul_le_mul c.2.2 (by omega)
        omega
      refine op_rep pins s st H _ _ v u Q I rx ry ⟨p, k, vs, rfl, rfl, hp, by omega, by omega, hl, fun l hn => ?_⟩
      refine q r _ (.ref l) (Step.new1 hn) (sr.beside hn) (RV.newL sr hn ?_ (rvs_rep hs _))
      rw [(rvs_rep hs _).length, List.length_flatten, List.map_replicate, List.sum_replicate_nat, Nat.mul_comm]
      exact hl
    · cases e2
  · cases e
theorem c_sortT (hK : g.K = X.K) (hu : X.A.units + 20 < cLine) : CallR X (.builtin "sorted") (rGn g fSortT) := by
  intro pins s st H vs us Q I rs h
  obtain ⟨z, r, S, xs, v, sr, rx, e, q⟩ := h
  unfold fSortT at e
  split at e
  · rename_i ys
    simp only [Option.bind_eq_some_iff] at e
    obtain ⟨ks, e2, e3⟩ := e
    split at e3
    · rename_i ok
      cases e3
      unfold sortOk at ok
      rw [Bool.and_eq_true, Bool.and_eq_true] at ok
      obtain ⟨⟨al, so⟩, dp⟩ := ok
      cases rx with
      | cons a b =>
        cases b
        cases a with
        | @tup p _ ws hp hz hs =>
          obtain ⟨L, l1, rfl, l3⟩ := kv_each hs e2
          obtain ⟨u, rfl, ru⟩ := vals1 rs
          cases ru
          rw [show (g.at z).K = X.K from hK] at hp
          obtain ⟨its, rv, pl, _⟩ := I.tuple hp
          have ea := vals_each rv
          have lL : L.length ≤ sizeLine := by rw [← hs.length.trans (List.length_map _)]; exact hz
          have dat : L.map (fun p => p.1.data) = ks.map NestedKey.data := by rw [← l1, List.map_map]; rfl
          have inks : ∀ p ∈ L, p.1 ∈ ks := fun p hp => by rw [← l1]; exact List.mem_map_of_mem hp
          refine Mt2.sorted_tuple (bs := L) (enc := fun p => p.1.data) (R := fun u p => RelV p.2 u) pl ea (each_and ea fun u p hp hr => ⟨[], (RV.key (g := g.at z) hK I (l3 p hp) hr (toK_ofK p.1)).2⟩) ?_ ?_ lL (fun p hp => ?_) fun out h1 h2 => ?_
          · rw [dat]
            intro d hd d' hd'
            obtain ⟨k, hk, rfl⟩ := List.mem_map.mp hd
            obtain ⟨k', hk', rfl⟩ := List.mem_map.mp hd'
            exact alikeKeys_at al hk hk'
          · rw [dat]
            exact sortableKeys_ok so
          · have := List.all_eq_true.mp dp p.1 (inks p hp)
            rw [data_depth]
            simp at this
            omega
          · obtain ⟨c, hc⟩ := PyProof.Rows.sortedAll_at s.heap its out.toArray
            have free : H (s.heap.objs.size + 1) = none := I.hok.fresh (Nat.le_succ _)
            have vs' := each_vals h2
            have len : (L.mergeSort (PySem.W.dataLe false fun p => p.1.data)).length = L.length := List.length_mergeSort _
            have J : Inv X pins st (upd H (s.heap.objs.size + 1) (.lst ((L.mergeSort (PySem.W.dataLe false fun p => p.1.data)).map (·.2)))) { s with heap := PyProof.Rows.sortedAll s.heap its out.toArray } :=
              I.laid (t' := s.toks) (fun _ _ => PyProof.Rows.sortedAll_old) (Nat.le_succ _) ⟨by rw [List.length_map, len]; exact lL, out, c, vs', hc⟩
            have keys : (L.mergeSort (PySem.W.dataLe false fun p => p.1.data)).map (·.1) = ks.mergeSort keyLe := by
              rw [List.map_mergeSort (r := PySem.W.dataLe false fun p : KV1 => p.1.data) (s := keyLe) (f := fun p : KV1 => p.1) (l := L) (fun a _ b _ => rfl), l1]
            refine ⟨.ref (s.heap.objs.size + 1), _, J, rfl, q r _ (.ref _) (Step.new1 free) (sr.beside free) ?_⟩
            rw [← keys]
            refine RV.newL sr free ?_ (kv_rvs fun p hp => l3 p ((List.mergeSort_perm _ _).mem_iff.mp hp))
            rw [ofKs_map, List.length_map, List.length_map, len]
            exact lL
    · cases e3
  · cases e
end
end Mp
namespace Pilot
open PySem PySem.Spec PyProof.Rows L2 Mp
section
variable {P : Program} {w : World} {K : PySem.W.Frag} {mg : Str → Option Value} {base : Heap} {g : Gx}
abbrev s_left : Stmt := top 40
def n_left : List Str := ["_law_grid", "_law_gone", "_law_alive", "_law_spots", "_law_heads", "_law_k", "_law_entry"]
theorem sc_left : FnScope n_left ["_law_grid", "_law_gone"] (defScope s_left) := ⟨rfl, rfl, rfl, by decide +kernel, rfl, by decide +kernel, by decide +kernel⟩
abbrev left_o1 : Scope := { kind := .function, names := [(".0", .local), ("_law_k", .cell), ("len", .globalImplicit), ("set", .globalImplicit), ("_law_alive", .free)], isGenerator := false, isCoroutine := false, more := [] }
abbrev left_o2 : Scope := { kind := .function, names := [(".0", .local), ("_law_entry", .cell), ("tuple", .globalImplicit), ("_law_spots", .free)], isGenerator := false, isCoroutine := false, more := [] }
def left_1 : MS := sSet 2 (eCall m_alive (es2 (eVar 0) (eVar 1)))
def left_sp : ME := eLc (.nm 5) (iRng1M (eFn fLen (es1 (eOp2 fIx (eVar 0) (eI 0))))) (tTru (eOp2 (fOrd .Gt) (eFn fLenTxt (es1 (eLc (.nm 6) (iSeq (eVar 2)) tYesM (eOp2 fIx (eVar 6) (eVar 5)) [6]))) (eI 1))) (eVar 5) [5]
def left_3 : MS := sIf (tTru (eOp2 (fEq false) (eVar 3) (eLst esNil))) (sRet (eCon .non)) sSkip
def left_hd : ME := eFn fTupP (es1 (eLc (.nm 5) (iSeq (eVar 3)) tYesM (eOp2 fIx (eOp2 fIx (eVar 0) (eI 0)) (eVar 5)) [5]))
def left_rw : ME := eFn fTupOf (es1 (eFn fSortL (es1 (eLc (.nm 6) (iSeq (eVar 2)) tYesM (eFn fTupOf (es1 (eLc (.nm 5) (iSeq (eVar 3)) tYesM (eOp2 fIx (eVar 6) (eVar 5)) [5]))) [6]))))
def b_left : MS := sSeq left_1 (sSeq (sSet 3 left_sp) (sSeq left_3 (sSeq (sSet 4 left_hd) (sRet (eTup (es2 (eVar 4) left_rw))))))
def m_left : MF := defM false b_left 7 2
theorem ok_left {f : Addr} {fd : FuncData} (F : Fun K "_law_left" "_law_left" s_left f fd) (hK : g.K = K) (hw : g.w = w) (mrange : mg "range" = none) (mlen : mg "len" = none) (mset : mg "set" = none) (mtuple : mg "tuple" = none) (msorted : mg "sorted" = none) (C1 : Cal1 P w K mg base g 3 "alive_rows" ["table", "struck"] m_alive) : FnOk P w K mg base CX0 5 f fd ["_law_grid", "_law_gone"] (spD g m_left) := by
  obtain ⟨f1, fd1, F1, g1, k1, b1⟩ := C1.ex
  refine ok_def F sc_left rfl fun cdv A outer s H E hr => ?_
  have hu : (A.deeper (envOfC "_law_left" (defScope s_left) s.heap.objs.size f cdv)).units + 200 < cLine := by have := hr.un; omega
  have hu12 := Nat.lt_of_le_of_lt (Nat.add_le_add_left (show 12 ≤ 200 by decide) _) hu
  have hu20 := Nat.lt_of_le_of_lt (Nat.add_le_add_left (show 20 ≤ 200 by decide) _) hu
  have hu64 := Nat.lt_of_le_of_lt (Nat.add_le_add_left (show 64 ≤ 200 by decide) _) hu
  have hu66 := Nat.lt_of_le_of_lt (Nat.add_le_add_left (show 66 ≤ 200 by decide) _) hu
  refine ds_cons (ds_set (i := 2) sc_left.nd rfl (by first | exact Or.inl rfl | exact Or.inr rfl) (d_call F1 hr (by decide) rfl g1 k1 b1 (d_cons (d_var (i := 0)) (d_cons (d_var (i := 1)) d_nil)))) ?_
  refine ds_cons (ds_set (i := 3) sc_left.nd rfl (by first | exact Or.inl rfl | exact Or.inr rfl) (d_lc (own := [("_law_k", 5)]) hK rfl sc_left.nd (di_rng1 rfl mrange (d_blt (c_len hK) rfl mlen (by decide +kernel) (d_cons (d_ix hK (d_var (i := 0)) d_int) d_nil))) (show BlkOk n_left (defScope s_left) _ _ from ⟨rfl, by decide +kernel, by decide +kernel, by decide +kernel, by decide +kernel⟩) (by decide) (fun _ _ _ _ _ => pg_name sc_left.nd rfl (by first | exact Or.inl rfl | exact Or.inr rfl)) (fun _ _ _ _ _ => dts_one (d_tcmp hK (o_ord hK hu64) (d_lenTxt rfl rfl mlen rfl mset (d_lc (own := [("_law_entry", 6)]) hK rfl sc_left.nd (di_seq hK (d_var (i := 2))) (show BlkOk n_left (relS left_o1 (defScope s_left)) _ _ from ⟨rfl, by decide +kernel, by decide +kernel, by decide +kernel, by decide +kernel⟩) (by decide) (fun _ _ _ _ _ => pg_name sc_left.nd rfl (by first | exact Or.inl rfl | exact Or.inr rfl)) (fun _ _ _ _ _ => dts_nil) (fun _ _ _ _ _ => (d_ix hK (d_var (i := 6)) (d_var (i := 5)))))) d_int rfl fOrd_bl)) (fun _ _ _ _ _ => (d_var (i := 5))))) ?_
  refine ds_cons (ds_if (d_tcmp hK (o_eq hK hu64) (d_var (i := 3)) (d_lst d_nil esN_nil) rfl fEq_bl) (ds_one (ds_ret d_non)) ds_nil) ?_
  refine ds_cons (ds_set (i := 4) sc_left.nd rfl (by first | exact Or.inl rfl | exact Or.inr rfl) (d_typ c_tupleP rfl mtuple (by decide +kernel) (d_cons (d_lc (own := [("_law_k", 5)]) hK rfl sc_left.nd (di_seq hK (d_var (i := 3))) (show BlkOk n_left (defScope s_left) _ _ from ⟨rfl, by decide +kernel, by decide +kernel, by decide +kernel, by decide +kernel⟩) (by decide) (fun _ _ _ _ _ => pg_name sc_left.nd rfl (by first | exact Or.inl rfl | exact Or.inr rfl)) (fun _ _ _ _ _ => dts_nil) (fun _ _ _ _ _ => (d_ix hK (d_ix hK (d_var (i := 0)) d_int) (d_var (i := 5))))) d_nil))) ?_
  exact ds_one (ds_ret (d_tup (d_cons (d_var (i := 4)) (d_cons (d_typ (c_tuple hK) rfl mtuple (by decide +kernel) (d_cons (d_blt (c_sort hK hu20) rfl msorted (by decide +kernel) (d_cons (d_lc (own := [("_law_entry", 6)]) hK rfl sc_left.nd (di_seq hK (d_var (i := 2))) (show BlkOk n_left (defScope s_left) _ _ from ⟨rfl, by decide +kernel, by decide +kernel, by decide +kernel, by decide +kernel⟩) (by decide) (fun _ _ _ _ _ => pg_name sc_left.nd rfl (by first | exact Or.inl rfl | exact Or.inr rfl)) (fun _ _ _ _ _ => dts_nil) (fun _ _ _ _ _ => (d_typ (c_tuple hK) rfl mtuple (by decide +kernel) (d_cons (d_lc (own := [("_law_k", 5)]) hK rfl sc_left.nd (di_seq hK (d_var (i := 3))) (show BlkOk n_left (relS left_o2 (defScope s_left)) _ _ from ⟨rfl, by decide +kernel, by decide +kernel, by decide +kernel, by decide +kernel⟩) (by decide) (fun _ _ _ _ _ => pg_name sc_left.nd rfl (by first | exact Or.inl rfl | exact Or.inr rfl)) (fun _ _ _ _ _ => dts_nil) (fun _ _ _ _ _ => (d_ix hK (d_var (i := 6)) (d_var (i := 5))))) d_nil)))) d_nil)) d_nil)) d_nil)) (esN_cons (esN_cons esN_nil))))
abbrev s_wi : Stmt := top 41
def n_wi : List Str := ["_law_parts", "_law_less", "_law_part"]
theorem sc_wi : FnScope n_wi ["_law_parts", "_law_less"] (defScope s_wi) := ⟨rfl, rfl, rfl, by decide +kernel, rfl, by decide +kernel, by decide +kernel⟩
def b_wi : MS := sRet (eFn fTupOf (es1 (eLc (.nm 2) (iSeq (eVar 0)) (tTru (eOp2 (fIn false) (eVar 2) (eCall m_pairs_of (es1 (eVar 1))))) (eVar 2) [2])))
def m_wi : MF := defM false b_wi 3 2
theorem ok_wi {f : Addr} {fd : FuncData} (F : Fun K "_law_within" "_law_within" s_wi f fd) (hK : g.K = K) (hw : g.w = w) (mtuple : mg "tuple" = none) (C1 : Cal1 P w K mg base g 1 "pairs_of" ["table"] m_pairs_of) : FnOk P w K mg base CX0 2 f fd ["_law_parts", "_law_less"] (spD g m_wi) := by
  obtain ⟨f1, fd1, F1, g1, k1, b1⟩ := C1.ex
  refine ok_def F sc_wi rfl fun cdv A outer s H E hr => ?_
  have hu : (A.deeper (envOfC "_law_within" (defScope s_wi) s.heap.objs.size f cdv)).units + 200 < cLine := by have := hr.un; omega
  have hu12 := Nat.lt_of_le_of_lt (Nat.add_le_add_left (show 12 ≤ 200 by decide) _) hu
  have hu20 := Nat.lt_of_le_of_lt (Nat.add_le_add_left (show 20 ≤ 200 by decide) _) hu
  have hu64 := Nat.lt_of_le_of_lt (Nat.add_le_add_left (show 64 ≤ 200 by decide) _) hu
  have hu66 := Nat.lt_of_le_of_lt (Nat.add_le_add_left (show 66 ≤ 200 by decide) _) hu
  exact ds_one (ds_ret (d_typ (c_tuple hK) rfl mtuple (by decide +kernel) (d_cons (d_lc (own := [("_law_part", 2)]) hK rfl sc_wi.nd (di_seq hK (d_var (i := 0))) (show BlkOk n_wi (defScope s_wi) _ _ from ⟨rfl, by decide +kernel, by decide +kernel, by decide +kernel, by decide +kernel⟩) (by decide) (fun _ _ _ _ _ => pg_name sc_wi.nd rfl (by first | exact Or.inl rfl | exact Or.inr rfl)) (fun _ _ _ _ _ => dts_one (d_tcmp hK (o_in (neg := false) hK hu66) (d_var (i := 2)) (d_call F1 hr (by decide) rfl g1 k1 b1 (d_cons (d_var (i := 1)) d_nil)) rfl fIn_bl)) (fun _ _ _ _ _ => (d_var (i := 2)))) d_nil)))
end
end Pilot
namespace Pilot
open PySem PySem.Spec PyProof.Rows L2 Mp
section
variable {P : Program} {w : World} {K : PySem.W.Frag} {mg : Str → Option Value} {base : Heap} {g : Gx}
abbrev s_cl : Stmt := top 42
def n_cl : List Str := ["_law_grid", "_law_gone", "_law_less", "_law_more", "_law_dead", "_law_part", "_law_some"]
theorem sc_cl : FnScope n_cl ["_law_grid", "_law_gone", "_law_less", "_law_more"] (defScope s_cl) := ⟨rfl, rfl, rfl, by decide +kernel, rfl, by decide +kernel, by decide +kernel⟩
def cl_1 : MS := sIf (tOrD (tTru (eOp2 (fEq true) (eCall m_lts (es1 (eVar 2))) (eFn fLen (es1 (eCall m_alive (es2 (eVar 0) (eVar 1))))))) (tTru (eOp2 (fEq true) (eCall m_dead (es2 (eVar 2) (eTup esNil))) (eTup esNil)))) sNo sSkip
def cl_2 : MS := sIf (tTru (eOp2 (fEq true) (eCall m_alive (es2 (eVar 2) (eTup esNil))) (eOp2 fIx (eVar 2) (eI 1)))) sNo sSkip
def cl_3 : MS := sSet 4 (eCall m_dead (es2 (eVar 0) (eVar 1)))
def cl_lc : ME := eFn fTupOf (es1 (eLc (.nm 5) (iSeq (eCall m_pairs_of (es1 (eVar 0)))) (tAndD (tTru (eOp2 (fIn true) (eVar 5) (eVar 4))) (tTru (eOp2 (fIn false) (eOp2 fIx (eVar 5) (eI 0)) (eOp2 fIx (eVar 2) (eI 0))))) (eVar 5) [5]))
def cl_4 : MS := sIf (tTru (eOp2 (fEq true) (eCall m_pairs_of (es1 (eVar 2))) cl_lc)) sNo sSkip
def cl_5 : MS := sSet 6 (eCall m_wi (es2 (eVar 3) (eVar 2)))
def cl_6 : MS := sRet (eOp2 (fEq false) (eCall m_break (es3 (eVar 2) (eTup esNil) (eVar 6))) (eCall m_break (es3 (eVar 0) (eVar 1) (eVar 6))))
def b_cl : MS := sSeq cl_1 (sSeq cl_2 (sSeq cl_3 (sSeq cl_4 (sSeq cl_5 cl_6))))
def m_cl : MF := defM false b_cl 7 4
theorem ok_cl {f : Addr} {fd : FuncData} (F : Fun K "_law_check_left" "_law_check_left" s_cl f fd) (hK : g.K = K) (hw : g.w = w) (mlen : mg "len" = none) (mtuple : mg "tuple" = none) (C1 : Cal1 P w K mg base g 4 "lets_table" ["thing"] m_lts) (C2 : Cal1 P w K mg base g 3 "alive_rows" ["table", "struck"] m_alive) (C3 : Cal1 P w K mg base g 4 "dead_pairs" ["table", "struck"] m_dead) (C4 : Cal1 P w K mg base g 1 "pairs_of" ["table"] m_pairs_of) (C5 : Cal1 P w K mg base g 2 "_law_within" ["_law_parts", "_law_less"] m_wi) (C6 : Cal1 P w K mg base g 4 "does_break" ["table", "struck", "pairs"] m_break) : FnOk P w K mg base CX0 6 f fd ["_law_grid", "_law_gone", "_law_less", "_law_more"] (spD g m_cl) := by
  obtain ⟨f1, fd1, F1, g1, k1, b1⟩ := C1.ex
  obtain ⟨f2, fd2, F2, g2, k2, b2⟩ := C2.ex
  obtain ⟨f3, fd3, F3, g3, k3, b3⟩ := C3.ex
  obtain ⟨f4, fd4, F4, g4, k4, b4⟩ := C4.ex
  obtain ⟨f5, fd5, F5, g5, k5, b5⟩ := C5.ex
  obtain ⟨f6, fd6, F6, g6, k6, b6⟩ := C6.ex
  refine ok_def F sc_cl rfl fun cdv A outer s H E hr => ?_
  have hu : (A.deeper (envOfC "_law_check_left" (defScope s_cl) s.heap.objs.size f cdv)).units + 200 < cLine := by have := hr.un; omega
  have hu12 := Nat.lt_of_le_of_lt (Nat.add_le_add_left (show 12 ≤ 200 by decide) _) hu
  have hu20 := Nat.lt_of_le_of_lt (Nat.add_le_add_left (show 20 ≤ 200 by decide) _) hu
  have hu64 := Nat.lt_of_le_of_lt (Nat.add_le_add_left (show 64 ≤ 200 by decide) _) hu
  have hu66 := Nat.lt_of_le_of_lt (Nat.add_le_add_left (show 66 ≤ 200 by decide) _) hu
  refine ds_cons (ds_if (PW.pt (d_or (d_tcmp hK (o_ne hK hu64) (d_call F1 hr (by decide) rfl g1 k1 b1 (d_cons (d_var (i := 2)) d_nil)) (d_blt (c_len hK) rfl mlen (by decide +kernel) (d_cons (d_call F2 hr (by decide) rfl g2 k2 b2 (d_cons (d_var (i := 0)) (d_cons (d_var (i := 1)) d_nil))) d_nil)) rfl fEq_bl) (d_or1 (d_tcmp hK (o_ne hK hu64) (d_call F3 hr (by decide) rfl g3 k3 b3 (d_cons (d_var (i := 2)) (d_cons (d_tup d_nil esN_nil) d_nil))) (d_tup d_nil esN_nil) rfl fEq_bl)))) (ds_one (ds_ret d_bl)) ds_nil) ?_
  refine ds_cons (ds_if (d_tcmp hK (o_ne hK hu64) (d_call F2 hr (by decide) rfl g2 k2 b2 (d_cons (d_var (i := 2)) (d_cons (d_tup d_nil esN_nil) d_nil))) (d_ix hK (d_var (i := 2)) d_int) rfl fEq_bl) (ds_one (ds_ret d_bl)) ds_nil) ?_
  refine ds_cons (ds_set (i := 4) sc_cl.nd rfl (by first | exact Or.inl rfl | exact Or.inr rfl) (d_call F3 hr (by decide) rfl g3 k3 b3 (d_cons (d_var (i := 0)) (d_cons (d_var (i := 1)) d_nil)))) ?_
  refine ds_cons (ds_if (d_tcmp hK (o_ne hK hu64) (d_call F4 hr (by decide) rfl g4 k4 b4 (d_cons (d_var (i := 2)) d_nil)) (d_typ (c_tuple hK) rfl mtuple (by decide +kernel) (d_cons (d_lc (own := [("_law_part", 5)]) hK rfl sc_cl.nd (di_seq hK (d_call F4 hr (by decide) rfl g4 k4 b4 (d_cons (d_var (i := 0)) d_nil))) (show BlkOk n_cl (defScope s_cl) _ _ from ⟨rfl, by decide +kernel, by decide +kernel, by decide +kernel, by decide +kernel⟩) (by decide) (fun _ _ _ _ _ => pg_name sc_cl.nd rfl (by first | exact Or.inl rfl | exact Or.inr rfl)) (fun _ _ _ _ _ => dts_one (PW.pt (d_and (d_tcmp hK (o_in (neg := true) hK hu66) (d_var (i := 5)) (d_var (i := 4)) rfl fIn_bl) (d_and1 (d_tcmp hK (o_in (neg := false) hK hu66) (d_ix hK (d_var (i := 5)) d_int) (d_ix hK (d_var (i := 2)) d_int) rfl fIn_bl))))) (fun _ _ _ _ _ => (d_var (i := 5)))) d_nil)) rfl fEq_bl) (ds_one (ds_ret d_bl)) ds_nil) ?_
  refine ds_cons (ds_set (i := 6) sc_cl.nd rfl (by first | exact Or.inl rfl | exact Or.inr rfl) (d_call F5 hr (by decide) rfl g5 k5 b5 (d_cons (d_var (i := 3)) (d_cons (d_var (i := 2)) d_nil)))) ?_
  exact ds_one (ds_ret (d_cmp (o_eq hK hu64) (d_call F6 hr (by decide) rfl g6 k6 b6 (d_cons (d_var (i := 2)) (d_cons (d_tup d_nil esN_nil) (d_cons (d_var (i := 6)) d_nil)))) (d_call F6 hr (by decide) rfl g6 k6 b6 (d_cons (d_var (i := 0)) (d_cons (d_var (i := 1)) (d_cons (d_var (i := 6)) d_nil)))) rfl))
abbrev s_clq : Stmt := top 43
def n_clq : List Str := ["_law_grid", "_law_gone", "_law_less", "_law_head", "_law_some", "_law_kept", "_law_one", "_law_said", "_law_paid", "_law_spots", "_law_k", "_law_entry", "_law_cut"]
theorem sc_clq : FnScope n_clq ["_law_grid", "_law_gone", "_law_less", "_law_head", "_law_some"] (defScope s_clq) := ⟨rfl, rfl, rfl, by decide +kernel, rfl, by decide +kernel, by decide +kernel⟩
def clq_1 : MS := sSet 5 (eFn fTupOf (es1 (eLc (.nm 6) (iSeq (eVar 4)) (tTru (eOp2 (fIn false) (eVar 6) (eCall m_cand (es2 (eVar 2) (eVar 3))))) (eVar 6) [6])))
def clq_2 : MS := sIf (tTru (eOp2 (fEq true) (eCall m_fa (es4 (eVar 2) (eTup esNil) (eVar 3) (eVar 5))) (eCall m_fa (es4 (eVar 0) (eVar 1) (eVar 3) (eVar 4))))) sNo sSkip
def clq_3 : MS := sSet 8 (eCall m_paid (es5 (eVar 0) (eVar 1) (eVar 3) (eVar 4) (eVar 7)))
def clq_4 : MS := sIf (tOrD (tTru (eOp2 (fEq true) (eCall m_sb (es4 (eVar 2) (eVar 3) (eVar 5) (eVar 7))) (eVar 8))) (tTru (eOp2 (fEq true) (eCall m_paid (es5 (eVar 2) (eTup esNil) (eVar 3) (eVar 5) (eVar 7))) (eVar 8)))) sNo sSkip
def clq_5 : MS := sSet 9 (eLc (.nm 10) (iRng1M (eFn fLen (es1 (eOp2 fIx (eVar 0) (eI 0))))) (tTru (eOp2 (fIn false) (eOp2 fIx (eOp2 fIx (eVar 0) (eI 0)) (eVar 10)) (eOp2 fIx (eVar 2) (eI 0)))) (eVar 10) [10])
def clq_6 : MS := sSet 12 (eFn fTupOf (es1 (eLc (.nm 10) (iSeq (eVar 9)) tYesM (eOp2 fIx (eVar 11) (eVar 10)) [10])))
def clq_7 : MS := sIf (tTru (eOp2 (fEq true) (eCall m_ain (es4 (eVar 2) (eVar 12) (eVar 3) (eVar 5))) (eCall m_ain (es4 (eVar 0) (eVar 11) (eVar 3) (eVar 4))))) sNo sSkip
def b_clq : MS := sSeq clq_1 (sSeq clq_2 (sSeq (sFor (gNm 7) (iSeq eYN) (sSeq clq_3 clq_4)) (sSeq clq_5 (sSeq (sFor (gNm 11) (iSeq (eCall m_alive (es2 (eVar 0) (eVar 1)))) (sSeq clq_6 clq_7)) (sRet (eCon (.bl true)))))))
def m_clq : MF := defM false b_clq 13 5
theorem ok_clq {f : Addr} {fd : FuncData} (F : Fun K "_law_check_left_question" "_law_check_left_question" s_clq f fd) (hK : g.K = K) (hw : g.w = w) (mtuple : mg "tuple" = none) (mrange : mg "range" = none) (mlen : mg "len" = none) (C1 : Cal1 P w K mg base g 1 "candidates_of" ["table", "item"] m_cand) (C2 : Cal1 P w K mg base g 6 "forced_answer" ["table", "struck", "item", "chosen"] m_fa) (C3 : Cal1 P w K mg base g 5 "paid_by" ["table", "struck", "item", "chosen", "answer"] m_paid) (C4 : Cal1 P w K mg base g 3 "struck_by" ["table", "item", "chosen", "answer"] m_sb) (C5 : Cal1 P w K mg base g 3 "alive_rows" ["table", "struck"] m_alive) (C6 : Cal1 P w K mg base g 3 "answer_in" ["table", "row", "item", "chosen"] m_ain) : FnOk P w K mg base CX0 8 f fd ["_law_grid", "_law_gone", "_law_less", "_law_head", "_law_some"] (spD g m_clq) := by
  obtain ⟨f1, fd1, F1, g1, k1, b1⟩ := C1.ex
  obtain ⟨f2, fd2, F2, g2, k2, b2⟩ := C2.ex
  obtain ⟨f3, fd3, F3, g3, k3, b3⟩ := C3.ex
  obtain ⟨f4, fd4, F4, g4, k4, b4⟩ := C4.ex
  obtain ⟨f5, fd5, F5, g5, k5, b5⟩ := C5.ex
  obtain ⟨f6, fd6, F6, g6, k6, b6⟩ := C6.ex
  refine ok_def F sc_clq rfl fun cdv A outer s H E hr => ?_
  have hu : (A.deeper (envOfC "_law_check_left_question" (defScope s_clq) s.heap.objs.size f cdv)).units + 200 < cLine := by have := hr.un; omega
  have hu12 := Nat.lt_of_le_of_lt (Nat.add_le_add_left (show 12 ≤ 200 by decide) _) hu
  have hu20 := Nat.lt_of_le_of_lt (Nat.add_le_add_left (show 20 ≤ 200 by decide) _) hu
  have hu64 := Nat.lt_of_le_of_lt (Nat.add_le_add_left (show 64 ≤ 200 by decide) _) hu
  have hu66 := Nat.lt_of_le_of_lt (Nat.add_le_add_left (show 66 ≤ 200 by decide) _) hu
  refine ds_cons (ds_set (i := 5) sc_clq.nd rfl (by first | exact Or.inl rfl | exact Or.inr rfl) (d_typ (c_tuple hK) rfl mtuple (by decide +kernel) (d_cons (d_lc (own := [("_law_one", 6)]) hK rfl sc_clq.nd (di_seq hK (d_var (i := 4))) (show BlkOk n_clq (defScope s_clq) _ _ from ⟨rfl, by decide +kernel, by decide +kernel, by decide +kernel, by decide +kernel⟩) (by decide) (fun _ _ _ _ _ => pg_name sc_clq.nd rfl (by first | exact Or.inl rfl | exact Or.inr rfl)) (fun _ _ _ _ _ => dts_one (d_tcmp hK (o_in (neg := false) hK hu66) (d_var (i := 6)) (d_call F1 hr (by decide) rfl g1 k1 b1 (d_cons (d_var (i := 2)) (d_cons (d_var (i := 3)) d_nil))) rfl fIn_bl)) (fun _ _ _ _ _ => (d_var (i := 6)))) d_nil))) ?_
  refine ds_cons (ds_if (d_tcmp hK (o_ne hK hu64) (d_call F2 hr (by decide) rfl g2 k2 b2 (d_cons (d_var (i := 2)) (d_cons (d_tup d_nil esN_nil) (d_cons (d_var (i := 3)) (d_cons (d_var (i := 5)) d_nil))))) (d_call F2 hr (by decide) rfl g2 k2 b2 (d_cons (d_var (i := 0)) (d_cons (d_var (i := 1)) (d_cons (d_var (i := 3)) (d_cons (d_var (i := 4)) d_nil))))) rfl fEq_bl) (ds_one (ds_ret d_bl)) ds_nil) ?_
  refine ds_cons (ds_for PassesOwn.never rfl (di_seq hK (d_tup (d_cons d_str (d_cons d_str d_nil)) (esN_cons (esN_cons esN_nil)))) (dg_nm (i := 7) sc_clq.nd rfl (by first | exact Or.inl rfl | exact Or.inr rfl)) (ds_cons (ds_set (i := 8) sc_clq.nd rfl (by first | exact Or.inl rfl | exact Or.inr rfl) (d_call F3 hr (by decide) rfl g3 k3 b3 (d_cons (d_var (i := 0)) (d_cons (d_var (i := 1)) (d_cons (d_var (i := 3)) (d_cons (d_var (i := 4)) (d_cons (d_var (i := 7)) d_nil))))))) (ds_one (ds_if (PW.pt (d_or (d_tcmp hK (o_ne hK hu64) (d_call F4 hr (by decide) rfl g4 k4 b4 (d_cons (d_var (i := 2)) (d_cons (d_var (i := 3)) (d_cons (d_var (i := 5)) (d_cons (d_var (i := 7)) d_nil))))) (d_var (i := 8)) rfl fEq_bl) (d_or1 (d_tcmp hK (o_ne hK hu64) (d_call F3 hr (by decide) rfl g3 k3 b3 (d_cons (d_var (i := 2)) (d_cons (d_tup d_nil esN_nil) (d_cons (d_var (i := 3)) (d_cons (d_var (i := 5)) (d_cons (d_var (i := 7)) d_nil)))))) (d_var (i := 8)) rfl fEq_bl)))) (ds_one (ds_ret d_bl)) ds_nil)))) ?_
  refine ds_cons (ds_setLc (own := [("_law_k", 10)]) (i := 9) hK rfl sc_clq.nd rfl rfl rfl (di_rng1 rfl mrange (d_blt (c_len hK) rfl mlen (by decide +kernel) (d_cons (d_ix hK (d_var (i := 0)) d_int) d_nil))) (show BlkOk n_clq (defScope s_clq) _ _ from ⟨rfl, by decide +kernel, by decide +kernel, by decide +kernel, by decide +kernel⟩) (by decide) (fun _ _ _ _ _ => pg_name sc_clq.nd rfl (by first | exact Or.inl rfl | exact Or.inr rfl)) (fun _ _ _ _ _ => dts_one (d_tcmp hK (o_in (neg := false) hK hu66) (d_ix hK (d_ix hK (d_var (i := 0)) d_int) (d_var (i := 10))) (d_ix hK (d_var (i := 2)) d_int) rfl fIn_bl)) (fun _ _ _ _ _ => (d_var (i := 10)))) ?_
  refine ds_cons (ds_for PassesOwn.never rfl (di_seq hK (d_call F5 hr (by decide) rfl g5 k5 b5 (d_cons (d_var (i := 0)) (d_cons (d_var (i := 1)) d_nil)))) (dg_nm (i := 11) sc_clq.nd rfl (by first | exact Or.inl rfl | exact Or.inr rfl)) (ds_cons (ds_set (i := 12) sc_clq.nd rfl (by first | exact Or.inl rfl | exact Or.inr rfl) (d_typ (c_tuple hK) rfl mtuple (by decide +kernel) (d_cons (d_lc (own := [("_law_k", 10)]) hK rfl sc_clq.nd (di_seq hK (d_var (i := 9))) (show BlkOk n_clq (defScope s_clq) _ _ from ⟨rfl, by decide +kernel, by decide +kernel, by decide +kernel, by decide +kernel⟩) (by decide) (fun _ _ _ _ _ => pg_name sc_clq.nd rfl (by first | exact Or.inl rfl | exact Or.inr rfl)) (fun _ _ _ _ _ => dts_nil) (fun _ _ _ _ _ => (d_ix hK (d_var (i := 11)) (d_var (i := 10))))) d_nil))) (ds_one (ds_if (d_tcmp hK (o_ne hK hu64) (d_call F6 hr (by decide) rfl g6 k6 b6 (d_cons (d_var (i := 2)) (d_cons (d_var (i := 12)) (d_cons (d_var (i := 3)) (d_cons (d_var (i := 5)) d_nil))))) (d_call F6 hr (by decide) rfl g6 k6 b6 (d_cons (d_var (i := 0)) (d_cons (d_var (i := 11)) (d_cons (d_var (i := 3)) (d_cons (d_var (i := 4)) d_nil))))) rfl fEq_bl) (ds_one (ds_ret d_bl)) ds_nil)))) ?_
  exact ds_one (ds_ret d_bl)
end
end Pilot
namespace Pilot
open PySem PySem.Spec PyProof.Rows L2 Mp
section
variable {P : Program} {w : World} {K : PySem.W.Frag} {mg : Str → Option Value} {base : Heap} {g : Gx}
abbrev s_wd : Stmt := top 44
def n_wd : List Str := ["_law_grid", "_law_heads", "_law_spot", "_law_entries", "_law_entry"]
theorem sc_wd : FnScope n_wd ["_law_grid"] (defScope s_wd) := ⟨rfl, rfl, rfl, by decide +kernel, rfl, by decide +kernel, by decide +kernel⟩
def wd_e (w : Str) : ME := eLc (.nm 4) (iSeq (eOp2 fIx (eVar 0) (eI 1))) tYesM (eOp2 fAdd (eOp2 fAdd (eSl (eVar 4) oNo (oSo (eVar 2))) (eTup (es1 (eT w)))) (eSl (eVar 4) (oSo (eVar 2)) oNo)) [4]
def b_wd : MS := sSeq (sSet 1 (eFn fTupP (es1 (eFn fSortT (es1 (eOp2 fAddP (eOp2 fIx (eVar 0) (eI 0)) (eTup (es1 (eT "zone"))))))))) (sSeq (sSet 2 (eMeth isP fIdx (eVar 1) (es1 (eT "zone")))) (sSeq (sSet 3 (wd_e "near")) (sSeq (sSet 3 (eOp2 fAdd (eVar 3) (wd_e "wide"))) (sRet (eTup (es2 (eVar 1) (eFn fTupOf (es1 (eFn fSortL (es1 (eVar 3)))))))))))
def m_wd : MF := defM false b_wd 5 1
theorem ok_wd {f : Addr} {fd : FuncData} (F : Fun K "_law_wider" "_law_wider" s_wd f fd) (hK : g.K = K) (hw : g.w = w) (mtuple : mg "tuple" = none) (msorted : mg "sorted" = none)  : FnOk P w K mg base CX0 1 f fd ["_law_grid"] (spD g m_wd) := by
  refine ok_def F sc_wd rfl fun cdv A outer s H E hr => ?_
  have hu : (A.deeper (envOfC "_law_wider" (defScope s_wd) s.heap.objs.size f cdv)).units + 200 < cLine := by have := hr.un; omega
  have hu12 := Nat.lt_of_le_of_lt (Nat.add_le_add_left (show 12 ≤ 200 by decide) _) hu
  have hu20 := Nat.lt_of_le_of_lt (Nat.add_le_add_left (show 20 ≤ 200 by decide) _) hu
  have hu64 := Nat.lt_of_le_of_lt (Nat.add_le_add_left (show 64 ≤ 200 by decide) _) hu
  have hu66 := Nat.lt_of_le_of_lt (Nat.add_le_add_left (show 66 ≤ 200 by decide) _) hu
  refine ds_cons (ds_set (i := 1) sc_wd.nd rfl (by first | exact Or.inl rfl | exact Or.inr rfl) (d_typ c_tupleP rfl mtuple (by decide +kernel) (d_cons (d_blt (c_sortT hK hu20) rfl msorted (by decide +kernel) (d_cons (d_bin (o_addP hK) (d_ix hK (d_var (i := 0)) d_int) (d_tup (d_cons d_str d_nil) (esN_cons esN_nil))) d_nil)) d_nil))) ?_
  refine ds_cons (ds_set (i := 2) sc_wd.nd rfl (by first | exact Or.inl rfl | exact Or.inr rfl) (d_idx hK (d_var (i := 1)) (d_cons d_str d_nil))) ?_
  refine ds_cons (ds_setLc (own := [("_law_entry", 4)]) (i := 3) hK rfl sc_wd.nd rfl rfl rfl (di_seq hK (d_ix hK (d_var (i := 0)) d_int)) (show BlkOk n_wd (defScope s_wd) _ _ from ⟨rfl, by decide +kernel, by decide +kernel, by decide +kernel, by decide +kernel⟩) (by decide) (fun _ _ _ _ _ => pg_name sc_wd.nd rfl (by first | exact Or.inl rfl | exact Or.inr rfl)) (fun _ _ _ _ _ => dts_nil) (fun _ _ _ _ _ => (d_bin (o_add hK) (d_bin (o_add hK) (d_sl hK (d_var (i := 4)) do_no (do_so (d_var (i := 2)))) (d_tup (d_cons d_str d_nil) (esN_cons esN_nil))) (d_sl hK (d_var (i := 4)) (do_so (d_var (i := 2))) do_no)))) ?_
  refine ds_cons (ds_set (i := 3) sc_wd.nd rfl (by first | exact Or.inl rfl | exact Or.inr rfl) (d_bin (o_add hK) (d_var (i := 3)) (d_lc (own := [("_law_entry", 4)]) hK rfl sc_wd.nd (di_seq hK (d_ix hK (d_var (i := 0)) d_int)) (show BlkOk n_wd (defScope s_wd) _ _ from ⟨rfl, by decide +kernel, by decide +kernel, by decide +kernel, by decide +kernel⟩) (by decide) (fun _ _ _ _ _ => pg_name sc_wd.nd rfl (by first | exact Or.inl rfl | exact Or.inr rfl)) (fun _ _ _ _ _ => dts_nil) (fun _ _ _ _ _ => (d_bin (o_add hK) (d_bin (o_add hK) (d_sl hK (d_var (i := 4)) do_no (do_so (d_var (i := 2)))) (d_tup (d_cons d_str d_nil) (esN_cons esN_nil))) (d_sl hK (d_var (i := 4)) (do_so (d_var (i := 2))) do_no)))))) ?_
  exact ds_one (ds_ret (d_tup (d_cons (d_var (i := 1)) (d_cons (d_typ (c_tuple hK) rfl mtuple (by decide +kernel) (d_cons (d_blt (c_sort hK hu20) rfl msorted (by decide +kernel) (d_cons (d_var (i := 3)) d_nil)) d_nil)) d_nil)) (esN_cons (esN_cons esN_nil))))
abbrev s_cw : Stmt := top 45
def n_cw : List Str := ["_law_grid", "_law_gone", "_law_wide", "_law_more", "_law_spot", "_law_fresh", "_law_alive", "_law_one", "_law_entry", "_law_dead"]
theorem sc_cw : FnScope n_cw ["_law_grid", "_law_gone", "_law_wide", "_law_more"] (defScope s_cw) := ⟨rfl, rfl, rfl, by decide +kernel, rfl, by decide +kernel, by decide +kernel⟩
def cw_1 : MS := sAsg (gTp [4, 5]) (eTup (es2 (eMeth isP fIdx (eOp2 fIx (eVar 2) (eI 0)) (es1 (eT "zone"))) (eTup (es2 (eTup (es2 (eT "zone") (eT "near"))) (eTup (es2 (eT "zone") (eT "wide")))))))
def cw_2 : MS := sSet 6 (eCall m_alive (es2 (eVar 2) (eVar 1)))
def cw_lc : ME := eLc (.nm 8) (iSeq (eVar 6)) (tTru (eOp2 (fEq false) (eOp2 fIx (eVar 8) (eVar 4)) (eVar 7))) (eOp2 fAdd (eSl (eVar 8) oNo (oSo (eVar 4))) (eSl (eVar 8) (oSo (eOp2 fAdd (eVar 4) (eI 1))) oNo)) [8]
def cw_3 : MS := sFor (gNm 7) (iSeq (eTup (es2 (eT "near") (eT "wide")))) (sIf (tTru (eOp2 (fEq true) cw_lc (eFn fLstOf (es1 (eCall m_alive (es2 (eVar 0) (eVar 1))))))) sNo sSkip)
def cw_4 : MS := sSet 9 (eCall m_dead (es2 (eVar 0) (eVar 1)))
def cw_none : MT := tTru (eOp2 (fEq false) (eVar 6) (eTup esNil))
def cw_5 : MS := sIf (tTru (eOp2 (fEq true) (eCall m_dead (es2 (eVar 2) (eVar 1))) (eIfE cw_none (eFn fTupOf (es1 (eFn fSortT (es1 (eOp2 fAdd (eVar 9) (eVar 5)))))) (eVar 9)))) sNo sSkip
def cw_br (a b c : ME) : ME := eCall m_break (es3 a b c)
def cw_6 : MS := sIf (tTru (eOp2 (fEq true) (cw_br (eVar 2) (eVar 1) (eVar 3)) (cw_br (eVar 0) (eVar 1) (eVar 3)))) sNo sSkip
def cw_7 : MS := sIf (tTru (eOp2 (fIs true) (cw_br (eVar 2) (eVar 1) (eVar 5)) (eCon (.bl true)))) sNo sSkip
def cw_8 : MS := sIf (tTru (eOp2 (fEq true) (cw_br (eVar 2) (eVar 1) (eSl (eVar 5) oNo (oSo (eI 1)))) (eOp2 (fEq false) (eVar 6) (eTup esNil)))) sNo sSkip
def cw_9 : MS := sRet (eOp2 (fEq false) (eCall m_fa (es4 (eVar 2) (eVar 1) (eT "zone") (eTup (es1 (eT "near"))))) (eIfE cw_none (eT "none") (eT "open")))
def b_cw : MS := sSeq cw_1 (sSeq cw_2 (sSeq cw_3 (sSeq cw_4 (sSeq cw_5 (sSeq cw_6 (sSeq cw_7 (sSeq cw_8 cw_9)))))))
def m_cw : MF := defM false b_cw 10 4
theorem ok_cw {f : Addr} {fd : FuncData} (F : Fun K "_law_check_wider" "_law_check_wider" s_cw f fd) (hK : g.K = K) (hw : g.w = w) (mlist : mg "list" = none) (mtuple : mg "tuple" = none) (msorted : mg "sorted" = none) (C1 : Cal1 P w K mg base g 3 "alive_rows" ["table", "struck"] m_alive) (C2 : Cal1 P w K mg base g 4 "dead_pairs" ["table", "struck"] m_dead) (C3 : Cal1 P w K mg base g 4 "does_break" ["table", "struck", "pairs"] m_break) (C4 : Cal1 P w K mg base g 6 "forced_answer" ["table", "struck", "item", "chosen"] m_fa) : FnOk P w K mg base CX0 8 f fd ["_law_grid", "_law_gone", "_law_wide", "_law_more"] (spD g m_cw) := by
  obtain ⟨f1, fd1, F1, g1, k1, b1⟩ := C1.ex
  obtain ⟨f2, fd2, F2, g2, k2, b2⟩ := C2.ex
  obtain ⟨f3, fd3, F3, g3, k3, b3⟩ := C3.ex
  obtain ⟨f4, fd4, F4, g4, k4, b4⟩ := C4.ex
  refine ok_def F sc_cw rfl fun cdv A outer s H E hr => ?_
  have hu : (A.deeper (envOfC "_law_check_wider" (defScope s_cw) s.heap.objs.size f cdv)).units + 200 < cLine := by have := hr.un; omega
  have hu12 := Nat.lt_of_le_of_lt (Nat.add_le_add_left (show 12 ≤ 200 by decide) _) hu
  have hu20 := Nat.lt_of_le_of_lt (Nat.add_le_add_left (show 20 ≤ 200 by decide) _) hu
  have hu64 := Nat.lt_of_le_of_lt (Nat.add_le_add_left (show 64 ≤ 200 by decide) _) hu
  have hu66 := Nat.lt_of_le_of_lt (Nat.add_le_add_left (show 66 ≤ 200 by decide) _) hu
  refine ds_cons (ds_asg (d_tup (d_cons (d_idx hK (d_ix hK (d_var (i := 2)) d_int) (d_cons d_str d_nil)) (d_cons (d_tup (d_cons (d_tup (d_cons d_str (d_cons d_str d_nil)) (esN_cons (esN_cons esN_nil))) (d_cons (d_tup (d_cons d_str (d_cons d_str d_nil)) (esN_cons (esN_cons esN_nil))) d_nil)) (esN_cons (esN_cons esN_nil))) d_nil)) (esN_cons (esN_cons esN_nil))) (dg_tp hK rfl (dgs_cons (i := 4) sc_cw.nd rfl (by first | exact Or.inl rfl | exact Or.inr rfl) (dgs_cons (i := 5) sc_cw.nd rfl (by first | exact Or.inl rfl | exact Or.inr rfl) dgs_nil)))) ?_
  refine ds_cons (ds_set (i := 6) sc_cw.nd rfl (by first | exact Or.inl rfl | exact Or.inr rfl) (d_call F1 hr (by decide) rfl g1 k1 b1 (d_cons (d_var (i := 2)) (d_cons (d_var (i := 1)) d_nil)))) ?_
  refine ds_cons (ds_for PassesOwn.never rfl (di_seq hK (d_tup (d_cons d_str (d_cons d_str d_nil)) (esN_cons (esN_cons esN_nil)))) (dg_nm (i := 7) sc_cw.nd rfl (by first | exact Or.inl rfl | exact Or.inr rfl)) (ds_one (ds_if (d_tcmp hK (o_ne hK hu64) (d_lc (own := [("_law_entry", 8)]) hK rfl sc_cw.nd (di_seq hK (d_var (i := 6))) (show BlkOk n_cw (defScope s_cw) _ _ from ⟨rfl, by decide +kernel, by decide +kernel, by decide +kernel, by decide +kernel⟩) (by decide) (fun _ _ _ _ _ => pg_name sc_cw.nd rfl (by first | exact Or.inl rfl | exact Or.inr rfl)) (fun _ _ _ _ _ => dts_one (d_tcmp hK (o_eq hK hu64) (d_ix hK (d_var (i := 8)) (d_var (i := 4))) (d_var (i := 7)) rfl fEq_bl)) (fun _ _ _ _ _ => (d_bin (o_add hK) (d_sl hK (d_var (i := 8)) do_no (do_so (d_var (i := 4)))) (d_sl hK (d_var (i := 8)) (do_so (d_bin (o_add hK) (d_var (i := 4)) d_int)) do_no)))) (d_typ (c_list hK) rfl mlist (by decide +kernel) (d_cons (d_call F1 hr (by decide) rfl g1 k1 b1 (d_cons (d_var (i := 0)) (d_cons (d_var (i := 1)) d_nil))) d_nil)) rfl fEq_bl) (ds_one (ds_ret d_bl)) ds_nil))) ?_
  refine ds_cons (ds_set (i := 9) sc_cw.nd rfl (by first | exact Or.inl rfl | exact Or.inr rfl) (d_call F2 hr (by decide) rfl g2 k2 b2 (d_cons (d_var (i := 0)) (d_cons (d_var (i := 1)) d_nil)))) ?_
  refine ds_cons (ds_if (d_tcmp hK (o_ne hK hu64) (d_call F2 hr (by decide) rfl g2 k2 b2 (d_cons (d_var (i := 2)) (d_cons (d_var (i := 1)) d_nil))) (d_ifE (d_tcmp hK (o_eq hK hu64) (d_var (i := 6)) (d_tup d_nil esN_nil) rfl fEq_bl) (d_typ (c_tuple hK) rfl mtuple (by decide +kernel) (d_cons (d_blt (c_sortT hK hu20) rfl msorted (by decide +kernel) (d_cons (d_bin (o_add hK) (d_var (i := 9)) (d_var (i := 5))) d_nil)) d_nil)) (d_var (i := 9))) rfl fEq_bl) (ds_one (ds_ret d_bl)) ds_nil) ?_
  refine ds_cons (ds_if (d_tcmp hK (o_ne hK hu64) (d_call F3 hr (by decide) rfl g3 k3 b3 (d_cons (d_var (i := 2)) (d_cons (d_var (i := 1)) (d_cons (d_var (i := 3)) d_nil)))) (d_call F3 hr (by decide) rfl g3 k3 b3 (d_cons (d_var (i := 0)) (d_cons (d_var (i := 1)) (d_cons (d_var (i := 3)) d_nil)))) rfl fEq_bl) (ds_one (ds_ret d_bl)) ds_nil) ?_
  refine ds_cons (ds_if (d_tcmp hK (o_is (neg := true)) (d_call F3 hr (by decide) rfl g3 k3 b3 (d_cons (d_var (i := 2)) (d_cons (d_var (i := 1)) (d_cons (d_var (i := 5)) d_nil)))) d_bl rfl fIs_bl') (ds_one (ds_ret d_bl)) ds_nil) ?_
  refine ds_cons (ds_if (d_tcmp hK (o_ne hK hu64) (d_call F3 hr (by decide) rfl g3 k3 b3 (d_cons (d_var (i := 2)) (d_cons (d_var (i := 1)) (d_cons (d_sl hK (d_var (i := 5)) do_no (do_so d_int)) d_nil)))) (d_cmp (o_eq hK hu64) (d_var (i := 6)) (d_tup d_nil esN_nil) rfl) rfl fEq_bl) (ds_one (ds_ret d_bl)) ds_nil) ?_
  exact ds_one (ds_ret (d_cmp (o_eq hK hu64) (d_call F4 hr (by decide) rfl g4 k4 b4 (d_cons (d_var (i := 2)) (d_cons (d_var (i := 1)) (d_cons d_str (d_cons (d_tup (d_cons d_str d_nil) (esN_cons esN_nil)) d_nil))))) (d_ifE (d_tcmp hK (o_eq hK hu64) (d_var (i := 6)) (d_tup d_nil esN_nil) rfl fEq_bl) d_str d_str) rfl))
abbrev s_cwq : Stmt := top 46
def n_cwq : List Str := ["_law_grid", "_law_gone", "_law_wide", "_law_head", "_law_some", "_law_spot", "_law_said", "_law_entry", "_law_short"]
theorem sc_cwq : FnScope n_cwq ["_law_grid", "_law_gone", "_law_wide", "_law_head", "_law_some"] (defScope s_cwq) := ⟨rfl, rfl, rfl, by decide +kernel, rfl, by decide +kernel, by decide +kernel⟩
def cwq_1 : MS := sSet 5 (eMeth isP fIdx (eOp2 fIx (eVar 2) (eI 0)) (es1 (eT "zone")))
def cwq_fa (i : Nat) : ME := eCall m_fa (es4 (eVar i) (eVar 1) (eVar 3) (eVar 4))
def cwq_2 : MS := sIf (tTru (eOp2 (fEq true) (cwq_fa 2) (cwq_fa 0))) sNo sSkip
def cwq_pd (i : Nat) : ME := eCall m_paid (es5 (eVar i) (eVar 1) (eVar 3) (eVar 4) (eVar 6))
def cwq_3 : MS := sIf (tTru (eOp2 (fEq true) (cwq_pd 2) (cwq_pd 0))) sNo sSkip
def cwq_4 : MS := sSet 8 (eOp2 fAdd (eSl (eVar 7) oNo (oSo (eVar 5))) (eSl (eVar 7) (oSo (eOp2 fAdd (eVar 5) (eI 1))) oNo))
def cwq_5 : MS := sIf (tTru (eOp2 (fEq true) (eCall m_ain (es4 (eVar 2) (eVar 7) (eVar 3) (eVar 4))) (eCall m_ain (es4 (eVar 0) (eVar 8) (eVar 3) (eVar 4))))) sNo sSkip
def b_cwq : MS := sSeq cwq_1 (sSeq cwq_2 (sSeq (sFor (gNm 6) (iSeq eYN) cwq_3) (sSeq (sFor (gNm 7) (iSeq (eOp2 fIx (eVar 2) (eI 1))) (sSeq cwq_4 cwq_5)) (sRet (eCon (.bl true))))))
def m_cwq : MF := defM false b_cwq 9 5
theorem ok_cwq {f : Addr} {fd : FuncData} (F : Fun K "_law_check_wider_question" "_law_check_wider_question" s_cwq f fd) (hK : g.K = K) (hw : g.w = w)  (C1 : Cal1 P w K mg base g 6 "forced_answer" ["table", "struck", "item", "chosen"] m_fa) (C2 : Cal1 P w K mg base g 5 "paid_by" ["table", "struck", "item", "chosen", "answer"] m_paid) (C3 : Cal1 P w K mg base g 3 "answer_in" ["table", "row", "item", "chosen"] m_ain) : FnOk P w K mg base CX0 8 f fd ["_law_grid", "_law_gone", "_law_wide", "_law_head", "_law_some"] (spD g m_cwq) := by
  obtain ⟨f1, fd1, F1, g1, k1, b1⟩ := C1.ex
  obtain ⟨f2, fd2, F2, g2, k2, b2⟩ := C2.ex
  obtain ⟨f3, fd3, F3, g3, k3, b3⟩ := C3.ex
  refine ok_def F sc_cwq rfl fun cdv A outer s H E hr => ?_
  have hu : (A.deeper (envOfC "_law_check_wider_question" (defScope s_cwq) s.heap.objs.size f cdv)).units + 200 < cLine := by have := hr.un; omega
  have hu12 := Nat.lt_of_le_of_lt (Nat.add_le_add_left (show 12 ≤ 200 by decide) _) hu
  have hu20 := Nat.lt_of_le_of_lt (Nat.add_le_add_left (show 20 ≤ 200 by decide) _) hu
  have hu64 := Nat.lt_of_le_of_lt (Nat.add_le_add_left (show 64 ≤ 200 by decide) _) hu
  have hu66 := Nat.lt_of_le_of_lt (Nat.add_le_add_left (show 66 ≤ 200 by decide) _) hu
  refine ds_cons (ds_set (i := 5) sc_cwq.nd rfl (by first | exact Or.inl rfl | exact Or.inr rfl) (d_idx hK (d_ix hK (d_var (i := 2)) d_int) (d_cons d_str d_nil))) ?_
  refine ds_cons (ds_if (d_tcmp hK (o_ne hK hu64) (d_call F1 hr (by decide) rfl g1 k1 b1 (d_cons (d_var (i := 2)) (d_cons (d_var (i := 1)) (d_cons (d_var (i := 3)) (d_cons (d_var (i := 4)) d_nil))))) (d_call F1 hr (by decide) rfl g1 k1 b1 (d_cons (d_var (i := 0)) (d_cons (d_var (i := 1)) (d_cons (d_var (i := 3)) (d_cons (d_var (i := 4)) d_nil))))) rfl fEq_bl) (ds_one (ds_ret d_bl)) ds_nil) ?_
  refine ds_cons (ds_for PassesOwn.never rfl (di_seq hK (d_tup (d_cons d_str (d_cons d_str d_nil)) (esN_cons (esN_cons esN_nil)))) (dg_nm (i := 6) sc_cwq.nd rfl (by first | exact Or.inl rfl | exact Or.inr rfl)) (ds_one (ds_if (d_tcmp hK (o_ne hK hu64) (d_call F2 hr (by decide) rfl g2 k2 b2 (d_cons (d_var (i := 2)) (d_cons (d_var (i := 1)) (d_cons (d_var (i := 3)) (d_cons (d_var (i := 4)) (d_cons (d_var (i := 6)) d_nil)))))) (d_call F2 hr (by decide) rfl g2 k2 b2 (d_cons (d_var (i := 0)) (d_cons (d_var (i := 1)) (d_cons (d_var (i := 3)) (d_cons (d_var (i := 4)) (d_cons (d_var (i := 6)) d_nil)))))) rfl fEq_bl) (ds_one (ds_ret d_bl)) ds_nil))) ?_
  refine ds_cons (ds_for PassesOwn.never rfl (di_seq hK (d_ix hK (d_var (i := 2)) d_int)) (dg_nm (i := 7) sc_cwq.nd rfl (by first | exact Or.inl rfl | exact Or.inr rfl)) (ds_cons (ds_set (i := 8) sc_cwq.nd rfl (by first | exact Or.inl rfl | exact Or.inr rfl) (d_bin (o_add hK) (d_sl hK (d_var (i := 7)) do_no (do_so (d_var (i := 5)))) (d_sl hK (d_var (i := 7)) (do_so (d_bin (o_add hK) (d_var (i := 5)) d_int)) do_no))) (ds_one (ds_if (d_tcmp hK (o_ne hK hu64) (d_call F3 hr (by decide) rfl g3 k3 b3 (d_cons (d_var (i := 2)) (d_cons (d_var (i := 7)) (d_cons (d_var (i := 3)) (d_cons (d_var (i := 4)) d_nil))))) (d_call F3 hr (by decide) rfl g3 k3 b3 (d_cons (d_var (i := 0)) (d_cons (d_var (i := 8)) (d_cons (d_var (i := 3)) (d_cons (d_var (i := 4)) d_nil))))) rfl fEq_bl) (ds_one (ds_ret d_bl)) ds_nil)))) ?_
  exact ds_one (ds_ret d_bl)
end
end Pilot
namespace Pilot
open PySem PySem.Spec PyProof.Rows L2 Mp
section
variable {P : Program} {w : World} {K : PySem.W.Frag} {mg : Str → Option Value} {base : Heap} {g : Gx}
abbrev s_cq : Stmt := top 47
def n_cq : List Str := ["_law_reader_here", "_law_grid", "_law_gone", "_law_less", "_law_wide", "_law_head", "_law_some", "_law_one"]
theorem sc_cq : FnScope n_cq ["_law_reader_here", "_law_grid", "_law_gone", "_law_less", "_law_wide"] (defScope s_cq) := ⟨rfl, rfl, rfl, by decide +kernel, rfl, by decide +kernel, by decide +kernel⟩
def cq_1 : MS := sSet 5 (eOp2 fIx (eOp2 fIx (eVar 1) (eI 0)) (c_draw (eFn fLen (es1 (eOp2 fIx (eVar 1) (eI 0))))))
def cq_2 : MS := sSet 6 (eFn fTupOf (es1 (eLc (.nm 7) (iSeq (eCall m_cand (es2 (eVar 1) (eVar 5)))) (tTru (eOp2 (fEq false) (c_draw (eI 2)) (eI 0))) (eVar 7) [7])))
def cq_3 : MS := sIf (tAndD (tTru (eOp2 (fIs true) (eVar 3) (eCon .non))) (tTru (eOp2 (fIn false) (eVar 5) (eOp2 fIx (eVar 3) (eI 0))))) (sIf (tNotD (tTru (eCall m_clq (es5 (eVar 1) (eVar 2) (eVar 3) (eVar 5) (eVar 6))))) sNo sSkip) sSkip
def b_cq : MS := sSeq cq_1 (sSeq cq_2 (sSeq cq_3 (sRet (eCall m_cwq (es5 (eVar 1) (eVar 2) (eVar 4) (eVar 5) (eVar 6))))))
def m_cq : MF := defM true b_cq 8 5
theorem ok_cq {f : Addr} {fd : FuncData} (F : Fun K "_law_check_question" "_law_check_question" s_cq f fd) (hK : g.K = K) (hw : g.w = w) (mtuple : mg "tuple" = none) (mlen : mg "len" = none) (C1 : Cal1 P w K mg base g 1 "_law_draw" ["_law_reader_here", "_law_many"] m_draw) (C2 : Cal1 P w K mg base g 1 "candidates_of" ["table", "item"] m_cand) (C3 : Cal1 P w K mg base g 8 "_law_check_left_question" ["_law_grid", "_law_gone", "_law_less", "_law_head", "_law_some"] m_clq) (C4 : Cal1 P w K mg base g 8 "_law_check_wider_question" ["_law_grid", "_law_gone", "_law_wide", "_law_head", "_law_some"] m_cwq) : FnOk P w K mg base CX0 9 f fd ["_law_reader_here", "_law_grid", "_law_gone", "_law_less", "_law_wide"] (spD g m_cq) := by
  obtain ⟨f1, fd1, F1, g1, k1, b1⟩ := C1.ex
  obtain ⟨f2, fd2, F2, g2, k2, b2⟩ := C2.ex
  obtain ⟨f3, fd3, F3, g3, k3, b3⟩ := C3.ex
  obtain ⟨f4, fd4, F4, g4, k4, b4⟩ := C4.ex
  refine ok_def F sc_cq rfl fun cdv A outer s H E hr => ?_
  have hu : (A.deeper (envOfC "_law_check_question" (defScope s_cq) s.heap.objs.size f cdv)).units + 200 < cLine := by have := hr.un; omega
  have hu12 := Nat.lt_of_le_of_lt (Nat.add_le_add_left (show 12 ≤ 200 by decide) _) hu
  have hu20 := Nat.lt_of_le_of_lt (Nat.add_le_add_left (show 20 ≤ 200 by decide) _) hu
  have hu64 := Nat.lt_of_le_of_lt (Nat.add_le_add_left (show 64 ≤ 200 by decide) _) hu
  have hu66 := Nat.lt_of_le_of_lt (Nat.add_le_add_left (show 66 ≤ 200 by decide) _) hu
  refine ds_cons (ds_set (i := 5) sc_cq.nd rfl (by first | exact Or.inl rfl | exact Or.inr rfl) (d_ix hK (d_ix hK (d_var (i := 1)) d_int) (d_call F1 hr (by decide) rfl g1 k1 b1 (d_cons (d_var (i := 0)) (d_cons (d_blt (c_len hK) rfl mlen (by decide +kernel) (d_cons (d_ix hK (d_var (i := 1)) d_int) d_nil)) d_nil))))) ?_
  refine ds_cons (ds_set (i := 6) sc_cq.nd rfl (by first | exact Or.inl rfl | exact Or.inr rfl) (d_typ (c_tuple hK) rfl mtuple (by decide +kernel) (d_cons (d_lc (own := [("_law_one", 7)]) hK rfl sc_cq.nd (di_seq hK (d_call F2 hr (by decide) rfl g2 k2 b2 (d_cons (d_var (i := 1)) (d_cons (d_var (i := 5)) d_nil)))) (show BlkOk n_cq (defScope s_cq) _ _ from ⟨rfl, by decide +kernel, by decide +kernel, by decide +kernel, by decide +kernel⟩) (by decide) (fun _ _ _ _ _ => pg_name sc_cq.nd rfl (by first | exact Or.inl rfl | exact Or.inr rfl)) (fun _ _ _ _ _ => dts_one (d_tcmp hK (o_eq hK hu64) (d_call F1 hr (by decide) rfl g1 k1 b1 (d_cons (d_var (i := 0)) (d_cons d_int d_nil))) d_int rfl fEq_bl)) (fun _ _ _ _ _ => (d_var (i := 7)))) d_nil))) ?_
  refine ds_cons (ds_if (PW.pt (d_and (d_tcmp hK (o_is (neg := true)) (d_var (i := 3)) d_non rfl fIs_bl') (d_and1 (d_tcmp hK (o_in (neg := false) hK hu66) (d_var (i := 5)) (d_ix hK (d_var (i := 3)) d_int) rfl fIn_bl)))) (ds_one (ds_if (d_not (d_tru hK (d_call F3 hr (by decide) rfl g3 k3 b3 (d_cons (d_var (i := 1)) (d_cons (d_var (i := 2)) (d_cons (d_var (i := 3)) (d_cons (d_var (i := 5)) (d_cons (d_var (i := 6)) d_nil)))))))) (ds_one (ds_ret d_bl)) ds_nil)) ds_nil) ?_
  exact ds_one (ds_ret (d_call F4 hr (by decide) rfl g4 k4 b4 (d_cons (d_var (i := 1)) (d_cons (d_var (i := 2)) (d_cons (d_var (i := 4)) (d_cons (d_var (i := 5)) (d_cons (d_var (i := 6)) d_nil)))))))
abbrev s_lw : Stmt := top 48
def n_lw : List Str := ["_law_script", "_law_reader_here", "_law_turn", "_law_grid", "_law_wide", "_law_k", "_law_gone", "_law_more", "_law_less", "_law_j"]
theorem sc_lw : FnScope n_lw ["_law_script"] (defScope s_lw) := ⟨rfl, rfl, rfl, by decide +kernel, rfl, by decide +kernel, by decide +kernel⟩
def k_a : MS := sSet 3 (eCall m_table (es3 (eVar 1) (eI 3) (eI 8)))
def k_b : MS := sSet 4 (eCall m_wd (es1 (eVar 3)))
def k_c : MS := sIf (tTru (eOp2 (fEq true) (eCall m_lts (es1 (eVar 4))) (eOp2 fMul (eI 2) (eFn fLen (es1 (eOp2 fIx (eVar 3) (eI 1))))))) sNo sSkip
def k_sub : ME := eCall m_subset (es2 (eVar 1) (eCall m_pairs_of (es1 (eVar 3))))
def k_d : MS := sPar 6 7 k_sub k_sub
def k_e : MS := sSet 8 (eCall m_left (es2 (eVar 3) (eVar 6)))
def k_some : MT := tTru (eOp2 (fIs true) (eVar 8) (eCon .non))
def k_f : MS := sIf (tAndD k_some (tNotD (tTru (eCall m_cl (es4 (eVar 3) (eVar 6) (eVar 8) (eVar 7)))))) sNo sSkip
def k_g : MS := sIf (tNotD (tTru (eCall m_cw (es4 (eVar 3) (eVar 6) (eVar 4) (eVar 7))))) sNo sSkip
def k_h : MS := sIf (tAndD k_some (tTru (eOp2 (fEq true) (eCall m_left (es2 (eVar 4) (eVar 6))) (eCall m_wd (es1 (eVar 8)))))) sNo sSkip
def k_i : MS := sIf (tNotD (tTru (eCall m_cq (es5 (eVar 1) (eVar 3) (eVar 6) (eVar 8) (eVar 4))))) sNo sSkip
def k_in : MS := sSeq k_d (sSeq k_e (sSeq k_f (sSeq k_g (sSeq k_h (sFor (gNm 9) (iRng1M (eI 2)) k_i)))))
def k_body : MS := sSeq k_a (sSeq k_b (sSeq k_c (sFor (gNm 5) (iRng1M (eI 3)) k_in)))
def b_lw : MS := sSeq (sSet 1 (eCall m_reader (es1 (eVar 0)))) (sSeq (sFor (gNm 2) (iRng1M (eI 4)) k_body) (sRet (eCon (.bl true))))
def m_lw : MF := defM true b_lw 10 1
theorem ok_lw {f : Addr} {fd : FuncData} (F : Fun K "law" "law" s_lw f fd) (hK : g.K = K) (hw : g.w = w) (mlen : mg "len" = none) (mrange : mg "range" = none) (C1 : Cal1 P w K mg base g 1 "_law_reader" ["_law_script"] m_reader) (C2 : Cal1 P w K mg base g 2 "_law_table" ["_law_reader_here", "_law_wide", "_law_most"] m_table) (C3 : Cal1 P w K mg base g 1 "_law_wider" ["_law_grid"] m_wd) (C4 : Cal1 P w K mg base g 4 "lets_table" ["thing"] m_lts) (C5 : Cal1 P w K mg base g 2 "_law_subset" ["_law_reader_here", "_law_parts"] m_subset) (C6 : Cal1 P w K mg base g 1 "pairs_of" ["table"] m_pairs_of) (C7 : Cal1 P w K mg base g 5 "_law_left" ["_law_grid", "_law_gone"] m_left) (C8 : Cal1 P w K mg base g 6 "_law_check_left" ["_law_grid", "_law_gone", "_law_less", "_law_more"] m_cl) (C9 : Cal1 P w K mg base g 8 "_law_check_wider" ["_law_grid", "_law_gone", "_law_wide", "_law_more"] m_cw) (C10 : Cal1 P w K mg base g 9 "_law_check_question" ["_law_reader_here", "_law_grid", "_law_gone", "_law_less", "_law_wide"] m_cq) : FnOk P w K mg base CX0 10 f fd ["_law_script"] (spD g m_lw) := by
  obtain ⟨f1, fd1, F1, g1, k1, b1⟩ := C1.ex
  obtain ⟨f2, fd2, F2, g2, k2, b2⟩ := C2.ex
  obtain ⟨f3, fd3, F3, g3, k3, b3⟩ := C3.ex
  obtain ⟨f4, fd4, F4, g4, k4, b4⟩ := C4.ex
  obtain ⟨f5, fd5, F5, g5, k5, b5⟩ := C5.ex
  obtain ⟨f6, fd6, F6, g6, k6, b6⟩ := C6.ex
  obtain ⟨f7, fd7, F7, g7, k7, b7⟩ := C7.ex
  obtain ⟨f8, fd8, F8, g8, k8, b8⟩ := C8.ex
  obtain ⟨f9, fd9, F9, g9, k9, b9⟩ := C9.ex
  obtain ⟨f10, fd10, F10, g10, k10, b10⟩ := C10.ex
  refine ok_def F sc_lw rfl fun cdv A outer s H E hr => ?_
  have hu : (A.deeper (envOfC "law" (defScope s_lw) s.heap.objs.size f cdv)).units + 200 < cLine := by have := hr.un; omega
  have hu12 := Nat.lt_of_le_of_lt (Nat.add_le_add_left (show 12 ≤ 200 by decide) _) hu
  have hu20 := Nat.lt_of_le_of_lt (Nat.add_le_add_left (show 20 ≤ 200 by decide) _) hu
  have hu64 := Nat.lt_of_le_of_lt (Nat.add_le_add_left (show 64 ≤ 200 by decide) _) hu
  have hu66 := Nat.lt_of_le_of_lt (Nat.add_le_add_left (show 66 ≤ 200 by decide) _) hu
  refine ds_cons (ds_set (i := 1) sc_lw.nd rfl (by first | exact Or.inl rfl | exact Or.inr rfl) (d_call F1 hr (by decide) rfl g1 k1 b1 (d_cons (d_var (i := 0)) d_nil))) ?_
  refine ds_cons (ds_for PassesOwn.never rfl (di_rng1 rfl mrange d_int) (dg_nm (i := 2) sc_lw.nd rfl (by first | exact Or.inl rfl | exact Or.inr rfl)) (ds_cons (ds_set (i := 3) sc_lw.nd rfl (by first | exact Or.inl rfl | exact Or.inr rfl) (d_call F2 hr (by decide) rfl g2 k2 b2 (d_cons (d_var (i := 1)) (d_cons d_int (d_cons d_int d_nil))))) (ds_cons (ds_set (i := 4) sc_lw.nd rfl (by first | exact Or.inl rfl | exact Or.inr rfl) (d_call F3 hr (by decide) rfl g3 k3 b3 (d_cons (d_var (i := 3)) d_nil))) (ds_cons (ds_if (d_tcmp hK (o_ne hK hu64) (d_call F4 hr (by decide) rfl g4 k4 b4 (d_cons (d_var (i := 4)) d_nil)) (d_bin o_mul d_int (d_blt (c_len hK) rfl mlen (by decide +kernel) (d_cons (d_ix hK (d_var (i := 3)) d_int) d_nil))) rfl fEq_bl) (ds_one (ds_ret d_bl)) ds_nil) (ds_one (ds_for PassesOwn.never rfl (di_rng1 rfl mrange d_int) (dg_nm (i := 5) sc_lw.nd rfl (by first | exact Or.inl rfl | exact Or.inr rfl)) (ds_cons (ds_par (i := 6) (j := 7) rfl sc_lw.nd rfl rfl (by decide) rfl rfl (d_call F5 hr (by decide) rfl g5 k5 b5 (d_cons (d_var (i := 1)) (d_cons (d_call F6 hr (by decide) rfl g6 k6 b6 (d_cons (d_var (i := 3)) d_nil)) d_nil))) (d_call F5 hr (by decide) rfl g5 k5 b5 (d_cons (d_var (i := 1)) (d_cons (d_call F6 hr (by decide) rfl g6 k6 b6 (d_cons (d_var (i := 3)) d_nil)) d_nil))) rfl) (ds_cons (ds_set (i := 8) sc_lw.nd rfl (by first | exact Or.inl rfl | exact Or.inr rfl) (d_call F7 hr (by decide) rfl g7 k7 b7 (d_cons (d_var (i := 3)) (d_cons (d_var (i := 6)) d_nil)))) (ds_cons (ds_if (PW.pt (d_and (d_tcmp hK (o_is (neg := true)) (d_var (i := 8)) d_non rfl fIs_bl') (d_and1 (d_not (d_tru hK (d_call F8 hr (by decide) rfl g8 k8 b8 (d_cons (d_var (i := 3)) (d_cons (d_var (i := 6)) (d_cons (d_var (i := 8)) (d_cons (d_var (i := 7)) d_nil)))))))))) (ds_one (ds_ret d_bl)) ds_nil) (ds_cons (ds_if (d_not (d_tru hK (d_call F9 hr (by decide) rfl g9 k9 b9 (d_cons (d_var (i := 3)) (d_cons (d_var (i := 6)) (d_cons (d_var (i := 4)) (d_cons (d_var (i := 7)) d_nil))))))) (ds_one (ds_ret d_bl)) ds_nil) (ds_cons (ds_if (PW.pt (d_and (d_tcmp hK (o_is (neg := true)) (d_var (i := 8)) d_non rfl fIs_bl') (d_and1 (d_tcmp hK (o_ne hK hu64) (d_call F7 hr (by decide) rfl g7 k7 b7 (d_cons (d_var (i := 4)) (d_cons (d_var (i := 6)) d_nil))) (d_call F3 hr (by decide) rfl g3 k3 b3 (d_cons (d_var (i := 8)) d_nil)) rfl fEq_bl)))) (ds_one (ds_ret d_bl)) ds_nil) (ds_one (ds_for PassesOwn.never rfl (di_rng1 rfl mrange d_int) (dg_nm (i := 9) sc_lw.nd rfl (by first | exact Or.inl rfl | exact Or.inr rfl)) (ds_one (ds_if (d_not (d_tru hK (d_call F10 hr (by decide) rfl g10 k10 b10 (d_cons (d_var (i := 1)) (d_cons (d_var (i := 3)) (d_cons (d_var (i := 6)) (d_cons (d_var (i := 8)) (d_cons (d_var (i := 4)) d_nil)))))))) (ds_one (ds_ret d_bl)) ds_nil))))))))))))))) ?_
  exact ds_one (ds_ret d_bl)
end
end Pilot
namespace K13
open PySem PySem.Spec PyProof.Rows L2 Mp Pilot K5
variable {S : Sto} {T : Tab}
/-! ### questions -/
def at_ (T : Tab) (r : List Str) (x : Str) : Str := r.getD (T.items.idxOf x) nox
def yn (b : Bool) : Str := if b = true then "yes" else "no"
structure Qn (T : Tab) (x : Str) (C : List Str) : Prop where
  it : x ∈ T.items
  ch : ∀ c ∈ C, c ∈ cands T (T.items.idxOf x)
def ans (T : Tab) (r : List Str) (x : Str) (C : List Str) : Bool := decide (at_ T r x ∈ C)
def strk (T : Tab) (x : Str) (C : List Str) (b : Bool) : List NK := ((cands T (T.items.idxOf x)).filter fun c => (decide (c ∈ C) ^^ b)).map (pK x)
def paid (T : Tab) (G : List NK) (x : Str) (C : List Str) (b : Bool) : List NK := (strk T x C b).filter fun p => decide (p ∉ dead T G)
theorem row_at {r : List Str} {x : Str} (ok : T.Ok) (hr : r ∈ T.rows) (hx : x ∈ T.items) : at_ T r x ∈ r := by
  have h : T.items.idxOf x < r.length := by rw [ok.len r hr]; exact List.idxOf_lt_length_of_mem hx
  unfold at_
  rw [List.getD_eq_getElem?_getD, List.getElem?_eq_getElem h]
  exact List.getElem_mem _
theorem cands_pool {x c : Str} (ok : T.Ok) (hx : x ∈ T.items) (h : c ∈ cands T (T.items.idxOf x)) : c ∈ wideW := by
  obtain ⟨r, hr, e⟩ := mem_cands.mp h
  rw [← e]
  exact ok.wd r hr _ (row_at ok hr hx)
theorem at_cands {r : List Str} {x : Str} (hr : r ∈ T.rows) : at_ T r x ∈ cands T (T.items.idxOf x) := mem_cands.mpr ⟨r, hr, rfl⟩
theorem cands_nodup {n : Nat} : (cands T n).Nodup := (List.mergeSort_perm _ _).symm.nodup (nodup_uniqT _)
theorem cands_five {x : Str} (ok : T.Ok) (hx : x ∈ T.items) : (cands T (T.items.idxOf x)).length ≤ 7 := (cands_nodup.length_le_of_subset fun c hc => cands_pool ok hx hc : _ ≤ wideW.length)
theorem txt_fine {c : Str} (h : c ∈ wideW) : Fine (txt c) := ⟨show PyData.strOk c = true from wideW_ok c h, by simp [NestedKey.depth]⟩
theorem fIn_txt {neg : Bool} {c : Str} {C : List Str} (hc : c ∈ wideW) (hC : ∀ d ∈ C, d ∈ wideW) : fIn neg S (.str c) (.tup (sV C)) = some (.bl (neg ^^ decide (c ∈ C))) := by
  have h := fIn_tup (neg := neg) (S := S) (a := txt c) (ks := C.map txt) (txt_fine hc) (fun k hk => by
    obtain ⟨d, hd, rfl⟩ := List.mem_map.mp hk
    exact txt_fine (hC d hd))
  rw [ofKs_txt] at h
  rw [show (Val.str c) = ofK (txt c) from rfl, h]
  congr 3
  refine decide_eq_decide.mpr ⟨fun q => ?_, fun q => List.mem_map_of_mem q⟩
  obtain ⟨d, hd, e⟩ := List.mem_map.mp q
  injection e with e
  rw [← e]; exact hd
theorem Qn.pool {x : Str} {C : List Str} (ok : T.Ok) (q : Qn T x C) : ∀ c ∈ C, c ∈ wideW := fun c hc => cands_pool ok q.it (q.ch c hc)
theorem seq_ret {a b : MS} {sl sl1 : Sl} {S S1 : Sto} {v : Val} (h : a sl S = some (.ret v, sl1, S1)) : sSeq a b sl S = some (.ret v, sl1, S1) := by simp only [sSeq, h, Option.bind_some]
theorem str_fine (b : Bool) : Fine (txt (yn b)) := by
  cases b <;> exact ⟨by decide +kernel, by simp [NestedKey.depth]⟩
theorem fEq_str {neg : Bool} {a b : Str} (ha : Fine (txt a)) (hb : Fine (txt b)) : fEq neg S (.str a) (.str b) = some (.bl (neg ^^ decide (a = b))) := by
  have h := fEq_ofK (neg := neg) (S := S) ha hb
  rw [show (Val.str a) = ofK (txt a) from rfl, show (Val.str b) = ofK (txt b) from rfl, h]
  congr 3
  exact decide_eq_decide.mpr ⟨fun q => by injection q, fun q => by rw [q]⟩
theorem yn_inj {a b : Bool} : (yn a = yn b) ↔ a = b := by
  cases a <;> cases b <;> simp [yn] <;> decide
theorem sp_rq {x : Str} {C : List Str} (ok : T.Ok) (q : Qn T x C) : m_rq [vT T, .str x, .tup (sV C)] S = some (.non, S) := by
  obtain ⟨sl', S', e, hS, _⟩ := for_inv (tg := gNm 4) (body := sIf (tTru (eOp2 (fIn true) (eVar 4) (eVar 3))) sStuck sSkip) (s := ⟨sV C, none⟩) (fun sl S' => S' = S ∧ ∃ y, sl = [some (vT T), some (.str x), some (.tup (sV C)), some (.tup (sV (cands T (T.items.idxOf x)))), y]) rfl Val.str C (sl := [some (vT T), some (.str x), some (.tup (sV C)), some (.tup (sV (cands T (T.items.idxOf x)))), none]) (S := S) (fun c hc sl S' h => by
    obtain ⟨rfl, y, rfl⟩ := h
    refine ⟨_, _, S', rfl, if_f (tru_ev (op2_ev (x := .str c) (y := .tup (sV (cands T (T.items.idxOf x)))) (var_ev rfl) (var_ev rfl) ?_)) skip_ev, rfl, _, rfl⟩
    rw [fIn_txt (q.pool ok c hc) (fun d hd => cands_pool ok q.it hd), decide_eq_true (q.ch c hc)]
    rfl) ⟨rfl, none, rfl⟩
  subst hS
  exact def_nxt (sl := sl') rfl (seq_ev (set_ev (call_ev (cons_ev (var_ev rfl) (cons_ev (var_ev rfl) nil_ev)) (sp_cand ok q.it))) (for_ev (s := ⟨sV C, none⟩) (S1 := S') (seqT_ev (var_ev rfl)) e))
theorem sp_aat {r C : List Str} {n : Nat} (hn : n < r.length) (hr : ∀ c ∈ r, c ∈ wideW) (hC : ∀ d ∈ C, d ∈ wideW) : m_aat [vR r, .int (n : Int), .tup (sV C)] S = some (.str (yn (decide (r.getD n nox ∈ C))), S) := by
  have hx : r.getD n nox ∈ wideW := hr _ (by rw [List.getD_eq_getElem?_getD, List.getElem?_eq_getElem hn]; exact List.getElem_mem _)
  have hc : tTru (eOp2 (fIn false) (eOp2 fIx (eVar 0) (eVar 1)) (eVar 2)) ([vR r, .int (n : Int), .tup (sV C)].map some ++ List.replicate (3 - 3) none) S = some (decide (r.getD n nox ∈ C), S) := by
    refine tru_ev (op2_ev (x := .str (r.getD n nox)) (y := .tup (sV C)) (op2_ev (x := vR r) (y := .int (n : Int)) (var_ev rfl) (var_ev rfl) (atI_str hn)) (var_ev rfl) ?_)
    rw [fIn_txt hx hC, Bool.false_xor]
  by_cases h : r.getD n nox ∈ C
  · rw [decide_eq_true h] at hc ⊢
    exact def_ret (sl := _) rfl (seq_ret (if_t hc (ret_ev con_ev)))
  · rw [decide_eq_false h] at hc ⊢
    exact def_ret (sl := _) rfl (seq_ev (if_f hc skip_ev) (ret_ev con_ev))
theorem idx_ev {sl : Sl} {i j : Nat} {x : Str} (hx : x ∈ T.items) (h0 : sl[i]? = some (some (vT T))) (h1 : sl[j]? = some (some (.str x))) : eMeth isP fIdx (eOp2 fIx (eVar i) (eI 0)) (es1 (eVar j)) sl S = some (.int ((T.items.idxOf x : Nat) : Int), S) := by
  have e1 : fIdx S (.ptp (sV T.items)) [.str x] = some (.int ((T.items.idxOf x : Nat) : Int), S) := by
    simp only [fIdx, toT_sV, Option.bind_some, hx, if_true]
  have e0 : eOp2 fIx (eVar i) (eI 0) sl S = some (.ptp (sV T.items), S) := ixT0 h0
  simp only [eMeth, e0, Option.bind_some, isP, if_true]
  rw [show es1 (eVar j) sl S = some ([.str x], S) from cons_ev (var_ev h1) nil_ev, Option.bind_some]
  exact e1
theorem sp_ain {r C : List Str} {x : Str} (ok : T.Ok) (hr : r ∈ T.rows) (q : Qn T x C) : m_ain [vT T, vR r, .str x, .tup (sV C)] S = some (.str (yn (ans T r x C)), S) := by
  refine def_ret (sl := _) rfl (seq_ev (exp_ev (call_ev (vs := [vT T, .str x, .tup (sV C)]) (S1 := S) (cons_ev (var_ev rfl) (cons_ev (var_ev rfl) (cons_ev (var_ev rfl) nil_ev))) (sp_rq ok q))) (ret_ev (call_ev (vs := [vR r, .int ((T.items.idxOf x : Nat) : Int), .tup (sV C)]) (S1 := S) (cons_ev (var_ev rfl) (cons_ev (idx_ev q.it rfl rfl) (cons_ev (var_ev rfl) nil_ev))) ?_)))
  exact sp_aat (by rw [ok.len r hr]; exact List.idxOf_lt_length_of_mem q.it) (ok.wd r hr) (q.pool ok)
theorem lcsb_ev {x : Str} {C : List Str} {neg : Bool} {y z : Option Val} (ok : T.Ok) (q : Qn T x C) : lc_sb neg [some (vT T), some (.str x), some (.tup (sV C)), y, z] S = some (gV (strk T x C neg), S) := by
  refine fn_ev (vs := [.lst (ofKs (strk T x C neg))]) (S1 := S) (cons_ev ?_ nil_ev) rfl
  rw [strk, ← every_val]
  refine eLc_pure (cands T (T.items.idxOf x)) Val.str _ _ (seqT_ev (call_ev (cons_ev (var_ev rfl) (cons_ev (var_ev rfl) nil_ev)) (sp_cand ok q.it))) (fun c hc => tru_ev (op2_ev (x := .str c) (y := .tup (sV C)) (var_ev rfl) (var_ev rfl) ?_)) fun c _ _ => tup_ev (cons_ev (var_ev rfl) (cons_ev (var_ev rfl) nil_ev))
  rw [fIn_txt (cands_pool ok q.it hc) (q.pool ok), Bool.xor_comm]
theorem sp_sb {x : Str} {C : List Str} {b : Bool} (ok : T.Ok) (q : Qn T x C) : m_sb [vT T, .str x, .tup (sV C), .str (yn b)] S = some (gV (strk T x C b), S) := by
  have hc : tTru (eOp2 (fEq false) (eVar 3) (eT "yes")) ([vT T, .str x, .tup (sV C), .str (yn b)].map some ++ List.replicate (5 - 4) none) S = some (b, S) := by
    refine tru_ev (op2_ev (x := .str (yn b)) (y := .str "yes") (var_ev rfl) con_ev ?_)
    have h := fEq_str (neg := false) (S := S) (str_fine b) (str_fine true)
    rw [Bool.false_xor] at h
    refine h.trans ?_
    cases b <;> rfl
  cases b with
  | true => exact def_ret (sl := _) rfl (seq_ev (exp_ev (call_ev (vs := [vT T, .str x, .tup (sV C)]) (S1 := S) (cons_ev (var_ev rfl) (cons_ev (var_ev rfl) (cons_ev (var_ev rfl) nil_ev))) (sp_rq ok q))) (seq_ret (if_t hc (ret_ev (lcsb_ev ok q)))))
  | false => exact def_ret (sl := _) rfl (seq_ev (exp_ev (call_ev (vs := [vT T, .str x, .tup (sV C)]) (S1 := S) (cons_ev (var_ev rfl) (cons_ev (var_ev rfl) (cons_ev (var_ev rfl) nil_ev))) (sp_rq ok q))) (seq_ev (if_f hc skip_ev) (ret_ev (lcsb_ev ok q))))
theorem mem_strk {x : Str} {C : List Str} {b : Bool} {k : NK} : k ∈ strk T x C b ↔ ∃ c ∈ cands T (T.items.idxOf x), (decide (c ∈ C) ^^ b) = true ∧ k = pK x c := by
  unfold strk
  rw [List.mem_map]
  constructor
  · rintro ⟨c, hc, rfl⟩
    obtain ⟨h1, h2⟩ := List.mem_filter.mp hc
    exact ⟨c, h1, h2, rfl⟩
  · rintro ⟨c, h1, h2, rfl⟩
    exact ⟨c, List.mem_filter.mpr ⟨h1, h2⟩, rfl⟩
theorem strk_sub {x : Str} {C : List Str} {b : Bool} (ok : T.Ok) (hx : x ∈ T.items) : Sub T (strk T x C b) := by
  refine ⟨fun k hk => ?_, ?_⟩
  · obtain ⟨c, hc, _, rfl⟩ := mem_strk.mp hk
    obtain ⟨r, hr, e⟩ := mem_cands.mp hc
    exact mem_allP.mpr ⟨r, hr, (mem_prs ok hr).mpr ⟨hx, e⟩⟩
  · unfold strk
    rw [List.length_map]
    refine Nat.le_trans (List.length_filter_le ..) ?_
    have := cands_five ok hx
    omega
theorem paid_sub {G : List NK} {x : Str} {C : List Str} {b : Bool} (ok : T.Ok) (hx : x ∈ T.items) : Sub T (paid T G x C b) := filter_sub (strk_sub ok hx)
theorem sp_paid {G : List NK} {x : Str} {C : List Str} {b : Bool} (ok : T.Ok) (hG : Sub T G) (q : Qn T x C) : m_paid [vT T, gV G, .str x, .tup (sV C), .str (yn b)] S = some (gV (paid T G x C b), S) := by
  have hD := dead_sub (G := G) ok
  have hs := strk_sub (b := b) (C := C) ok q.it
  refine def_ret (sl := _) rfl (seq_ev (exp_ev (call_ev (vs := [vT T, .str x, .tup (sV C)]) (S1 := S) (cons_ev (var_ev rfl) (cons_ev (var_ev rfl) (cons_ev (var_ev rfl) nil_ev))) (sp_rq ok q))) (seq_ev (set_ev (v := gV (dead T G)) (S1 := S) (call_ev (cons_ev (var_ev rfl) (cons_ev (var_ev rfl) nil_ev)) (sp_dead ok hG.sub))) (ret_ev (fn_ev (vs := [.lst (ofKs (paid T G x C b))]) (S1 := S) (cons_ev ?_ nil_ev) rfl))))
  rw [ofKs_map]
  refine eLc_pure (strk T x C b) ofK _ ofK (by rw [← ofKs_map]; exact seqT_ev (call_ev (vs := [vT T, .str x, .tup (sV C), .str (yn b)]) (cons_ev (var_ev rfl) (cons_ev (var_ev rfl) (cons_ev (var_ev rfl) (cons_ev (var_ev rfl) nil_ev)))) (sp_sb ok q))) (fun k hk => tru_ev (op2_ev (x := ofK k) (y := gV (dead T G)) (var_ev rfl) (var_ev rfl) ?_)) fun _ _ _ => var_ev rfl
  rw [fIn_tup (hs.pr ok k hk).fine fun k hk => (hD.pr ok k hk).fine]
  simp
def stt (T : Tab) (G : List NK) (x : Str) (C : List Str) : Str := if alive T G = [] then "none" else if paid T G x C true = [] then "yes" else if paid T G x C false = [] then "no" else "open"
theorem eq_nil {G : List NK} (hG : ∀ k ∈ G, Pr k) {neg : Bool} : fEq neg S (gV G) (.tup []) = some (.bl (neg ^^ decide (G = []))) := by
  have h := eq_gV (neg := neg) (S := S) hG (H := []) (fun _ q => (List.not_mem_nil q).elim)
  exact h
theorem rows_nil {G : List NK} (ok : T.Ok) {neg : Bool} : fEq neg S (.tup ((alive T G).map vR)) (.tup []) = some (.bl (neg ^^ decide (alive T G = []))) := by
  have h := fEq_ofK (neg := neg) (S := S) (rows_fineT ok G) (b := .tup []) (fineTup (ks := []) (fun _ h => by cases h) fun _ h => by cases h)
  rw [ofK, ofK, ofKs_rows] at h
  rw [show (Val.tup [] : Val) = .tup (ofKs []) from rfl, h]
  congr 3
  refine decide_eq_decide.mpr ⟨fun q => ?_, fun q => by rw [q]; rfl⟩
  injection q with q
  exact List.map_eq_nil_iff.mp q
theorem for_nxt {tg : MG} {body : MS} {s : Src} {v : Val} {vs : List Val} {sl sl1 sl2 : Sl} {S S2 : Sto} {r : Option (Fl × Sl × Sto)} (hs : s.n = none) (h1 : tg sl S v = some sl1) (h2 : body sl1 S = some (.nxt, sl2, S2)) (h3 : forX tg body s vs sl2 S2 = r) : forX tg body s (v :: vs) sl S = r := by
  simp only [forX, Src.ok, hs, if_true, h1, Option.bind_some, h2, h3]
theorem for_ret {tg : MG} {body : MS} {s : Src} {v w : Val} {vs : List Val} {sl sl1 sl2 : Sl} {S S2 : Sto} (hs : s.n = none) (h1 : tg sl S v = some sl1) (h2 : body sl1 S = some (.ret w, sl2, S2)) : forX tg body s (v :: vs) sl S = some (.ret w, sl2, S2) := by
  simp only [forX, Src.ok, hs, if_true, h1, Option.bind_some, h2]
theorem for_nil {tg : MG} {body : MS} {s : Src} {sl : Sl} {S : Sto} (hs : s.n = none) : forX tg body s [] sl S = some (.nxt, sl, S) := by simp [forX, Src.ok, hs]
theorem sp_fa {G : List NK} {x : Str} {C : List Str} (ok : T.Ok) (hG : Sub T G) (q : Qn T x C) : m_fa [vT T, gV G, .str x, .tup (sV C)] S = some (.str (stt T G x C), S) := by
  have c0 : ([vT T, gV G, .str x, .tup (sV C)].map some ++ List.replicate (5 - 4) none : Sl) = [some (vT T), some (gV G), some (.str x), some (.tup (sV C)), none] := rfl
  have h0 : sExp (eCall m_rq (es3 (eVar 0) (eVar 2) (eVar 3))) [some (vT T), some (gV G), some (.str x), some (.tup (sV C)), none] S = some (.nxt, [some (vT T), some (gV G), some (.str x), some (.tup (sV C)), none], S) :=
    exp_ev (call_ev (vs := [vT T, .str x, .tup (sV C)]) (S1 := S) (cons_ev (var_ev rfl) (cons_ev (var_ev rfl) (cons_ev (var_ev rfl) nil_ev))) (sp_rq ok q))
  have h1 : tTru (eOp2 (fEq false) (eCall m_alive (es2 (eVar 0) (eVar 1))) (eTup esNil)) [some (vT T), some (gV G), some (.str x), some (.tup (sV C)), none] S = some (decide (alive T G = []), S) := by
    refine tru_ev (op2_ev (y := .tup []) (S1 := S) (S2 := S) (call_ev (vs := [vT T, gV G]) (S1 := S) (cons_ev (var_ev rfl) (cons_ev (var_ev rfl) nil_ev)) (sp_alive ok hG.sub)) (tup_ev nil_ev) ?_)
    rw [rows_nil ok, Bool.false_xor]
  have h2 : ∀ (y : Option Val) (b : Bool), tTru (eOp2 (fEq false) (eCall m_paid (es5 (eVar 0) (eVar 1) (eVar 2) (eVar 3) (eVar 4))) (eTup esNil)) [some (vT T), some (gV G), some (.str x), some (.tup (sV C)), some (.str (yn b))] S = some (decide (paid T G x C b = []), S) := fun y b => by
    refine tru_ev (op2_ev (x := gV (paid T G x C b)) (y := .tup []) (S1 := S) (S2 := S) (call_ev (vs := [vT T, gV G, .str x, .tup (sV C), .str (yn b)]) (S1 := S) (cons_ev (var_ev rfl) (cons_ev (var_ev rfl) (cons_ev (var_ev rfl) (cons_ev (var_ev rfl) (cons_ev (var_ev rfl) nil_ev))))) (sp_paid ok hG q)) (tup_ev nil_ev) ?_)
    rw [eq_nil ((paid_sub ok q.it).pr ok), Bool.false_xor]
  have hit : iSeq eYN [some (vT T), some (gV G), some (.str x), some (.tup (sV C)), none] S = some (⟨[.str (yn true), .str (yn false)], none⟩, S) := seqT_ev (tup_ev (cons_ev con_ev (cons_ev con_ev nil_ev)))
  unfold stt
  by_cases a0 : alive T G = []
  · rw [decide_eq_true a0] at h1
    rw [if_pos a0]
    exact def_ret (sl := _) rfl (by rw [c0]; exact seq_ev h0 (seq_ret (if_t h1 (ret_ev con_ev))))
  · rw [decide_eq_false a0] at h1
    rw [if_neg a0]
    by_cases p1 : paid T G x C true = []
    · have h3 := h2 none true
      rw [decide_eq_true p1] at h3
      rw [if_pos p1]
      exact def_ret (sl := _) rfl (by rw [c0]; exact seq_ev h0 (seq_ev (if_f h1 skip_ev) (seq_ret (for_ev hit (for_ret rfl rfl (if_t h3 (ret_ev (var_ev rfl))))))))
    · have h3 := h2 none true
      rw [decide_eq_false p1] at h3
      rw [if_neg p1]
      by_cases p2 : paid T G x C false = []
      · have h4 := h2 none false
        rw [decide_eq_true p2] at h4
        rw [if_pos p2]
        exact def_ret (sl := _) rfl (by rw [c0]; exact seq_ev h0 (seq_ev (if_f h1 skip_ev) (seq_ret (for_ev hit (for_nxt rfl rfl (if_f h3 skip_ev) (for_ret rfl rfl (if_t h4 (ret_ev (var_ev rfl)))))))))
      · have h4 := h2 none false
        rw [decide_eq_false p2] at h4
        rw [if_neg p2]
        exact def_ret (sl := _) rfl (by rw [c0]; exact seq_ev h0 (seq_ev (if_f h1 skip_ev) (seq_ev (for_ev hit (for_nxt rfl rfl (if_f h3 skip_ev) (for_nxt rfl rfl (if_f h4 skip_ev) (for_nil rfl)))) (ret_ev con_ev))))
/-! ### what answers do -/
theorem struck_q {r : List Str} {x : Str} {C : List Str} {b : Bool} (ok : T.Ok) (hr : r ∈ T.rows) (hx : x ∈ T.items) : (∀ p ∈ prs T r, p ∉ strk T x C b) ↔ ans T r x C = b := by
  constructor
  · intro h
    have hm : pK x (at_ T r x) ∈ prs T r := (mem_prs ok hr).mpr ⟨hx, rfl⟩
    cases e : (decide (at_ T r x ∈ C) ^^ b) with
    | true => exact absurd (mem_strk.mpr ⟨_, at_cands hr, e, rfl⟩) (h _ hm)
    | false =>
      show decide (at_ T r x ∈ C) = b
      revert e
      cases decide (at_ T r x ∈ C) <;> cases b <;> simp
  · intro h p hp hs
    obtain ⟨c, _, e, rfl⟩ := mem_strk.mp hs
    have hc := ((mem_prs ok hr).mp hp).2
    have e2 : (ans T r x C ^^ b) = true := by
      show (decide (at_ T r x ∈ C) ^^ b) = true
      rw [show at_ T r x = c from hc]
      exact e
    rw [h] at e2
    cases b <;> simp at e2
theorem alive_strk {G : List NK} {x : Str} {C : List Str} {b : Bool} (ok : T.Ok) (hx : x ∈ T.items) : alive T (G ++ strk T x C b) = (alive T G).filter fun r => ans T r x C == b := by
  unfold alive
  rw [List.filter_filter]
  refine List.filter_congr fun r hr => ?_
  have q : ∀ G : List NK, (!struckB T r G) = decide (∀ p ∈ prs T r, p ∉ G) := fun G => by
    rw [Bool.eq_iff_iff,
          decide_eq_true_eq]
    simp only [struckB, Bool.not_eq_true', List.any_eq_false, decide_eq_true_eq]
  rw [q, q, Bool.eq_iff_iff, decide_eq_true_eq, Bool.and_eq_true, decide_eq_true_eq, beq_iff_eq, ← struck_q ok hr hx]
  constructor
  · intro h
    exact ⟨fun p hp z => h p hp (List.mem_append_right _ z), fun p hp z => h p hp (List.mem_append_left _ z)⟩
  · rintro ⟨h1, h2⟩ p hp z
    exact (List.mem_append.mp z).elim (h2 p hp) (h1 p hp)
theorem alive_paid {G : List NK} {x : Str} {C : List Str} {b : Bool} : alive T (G ++ paid T G x C b) = alive T (G ++ strk T x C b) := alive_ext fun r hr => by
  constructor
  · intro h p hp z
    rcases List.mem_append.mp z with z | z
    · exact h p hp (List.mem_append_left _ z)
    · refine h p hp (List.mem_append_right _ (List.mem_filter.mpr ⟨z, decide_eq_true fun hd => ?_⟩))
      exact (mem_dead.mp hd).2 r (mem_alive.mpr ⟨hr, fun p hp z => h p hp (List.mem_append_left _ z)⟩) hp
  · intro h p hp z
    rcases List.mem_append.mp z with z | z
    · exact h p hp (List.mem_append_left _ z)
    · exact h p hp (List.mem_append_right _ (List.mem_filter.mp z).1)
theorem paid_nil {G : List NK} {x : Str} {C : List Str} {b : Bool} (ok : T.Ok) (hx : x ∈ T.items) : paid T G x C b = [] ↔ ∀ r ∈ alive T G, ans T r x C = b := by
  constructor
  · intro h r hr
    have hrow := (mem_alive.mp hr).1
    refine (struck_q ok hrow hx).mp fun p hp hs => ?_
    have : p ∈ paid T G x C b := List.mem_filter.mpr ⟨hs, decide_eq_true fun hd => (mem_dead.mp hd).2 r hr hp⟩
    rw [h] at this
    exact List.not_mem_nil this
  · intro h
    cases e : paid T G x C b with
    | nil => rfl
    | cons p l =>
      exfalso
      have hp : p ∈ paid T G x C b := by rw [e]; exact List.mem_cons_self
      obtain ⟨h1, h2⟩ := List.mem_filter.mp hp
      have hall := (strk_sub (b := b) (C := C) ok hx).sub p h1
      refine (of_decide_eq_true h2) (mem_dead.mpr ⟨hall, fun r hr hm => ?_⟩)
      exact (struck_q ok (mem_alive.mp hr).1 hx).mpr (h r hr) p hm h1
theorem dead_none (ok : T.Ok) : dead T [] = [] := by
  cases e : dead T [] with
  | nil => rfl
  | cons p l =>
    exfalso
    obtain ⟨h1, h2⟩ := mem_dead.mp (show p ∈ dead T [] by rw [e]; exact List.mem_cons_self)
    obtain ⟨r, hr, hp⟩ := mem_allP.mp h1
    exact h2 r (mem_alive.mpr ⟨hr, fun _ _ => List.not_mem_nil⟩) hp
theorem paid_none {x : Str} {C : List Str} {b : Bool} (ok : T.Ok) : paid T [] x C b = strk T x C b := by
  unfold paid
  rw [dead_none ok]
  exact List.filter_eq_self.mpr fun k _ => by simp
end K13
namespace K15
open PySem PySem.Spec PyProof.Rows L2 Mp Pilot K5 K13
variable {S : Sto} {T : Tab}
/-! ### the checker of tables -/
theorem toB_true : ∀ n : Nat, toB (List.replicate n (Val.bl true)) = some (List.replicate n true)
  | 0 => rfl
  | n + 1 => by
    rw [List.replicate_succ, List.replicate_succ]
    show (toB (List.replicate n (Val.bl true))).map (fun bs => true :: bs) = _
    rw [toB_true n]
    rfl
theorem all_true {α : Type} (l : List α) : fQuant true S [.lst (l.map fun _ => Val.bl true)] = some (.bl true) := by
  have e : (l.map fun _ => Val.bl true) = List.replicate l.length (Val.bl true) := List.map_const' ..
  simp only [fQuant, lstOf, Option.bind_some, e, toB_true, Option.map_some, if_true]
  simp
theorem le_int {a b : Int} : fOrd .LtE S (.int a) (.int b) = some (.bl (!decide (b < a))) := by
  simp only [fOrd, toDS, toD, Option.bind_some, ordOk_int, if_true, ordV, PySem.W.dataLt_int, Option.map_some]
theorem names_ok : ∀ c ∈ wideH ++ wideW, 1 ≤ c.cps.size ∧ c.cps.size ≤ 8 ∧ ∀ k ∈ c.cps.toList, k ∈ letters26.cps.toList := by decide +kernel
theorem sp_isn {c : Str} (h : c ∈ wideH ∨ c ∈ wideW) : m_isn [.str c] S = some (.bl true, S) := by
  obtain ⟨h1, h8, hk⟩ := names_ok c (List.mem_append.mpr h)
  have big : (1000 : Nat) ≤ sizeLine := by unfold sizeLine; decide
  have el : fLen S [.str c] = some (.int (c.cps.size : Int)) := by
    show (if c.length ≤ sizeLine then some (Val.int c.length) else none) = _
    rw [if_pos (by show c.cps.size ≤ sizeLine; omega)]
    rfl
  have e1 : isn_c [some (.str c), none] S = some (false, S) := by
    refine or_f (S1 := S) (not_ev (b := true) (tru_ev (fn_ev (vs := [.str c, .ty "str"]) (cons_ev (var_ev rfl) (cons_ev con_ev nil_ev)) rfl))) (not_ev (b := true) ?_)
    have a1 : eI 1 [some (.str c), none] S = some (.int 1, S) := con_ev
    have a2 : eFn fLen (es1 (eVar 0)) [some (.str c), none] S = some (.int (c.cps.size : Int), S) := fn_ev (vs := [.str c]) (cons_ev (var_ev rfl) nil_ev) el
    have a3 : eI 8 [some (.str c), none] S = some (.int 8, S) := con_ev
    have b1 : (!decide ((c.cps.size : Int) < 1)) = true := by simp; omega
    have b2 : (!decide ((8 : Int) < (c.cps.size : Int))) = true := by simp; omega
    simp only [tChainM, a1, a2, a3, Option.bind_some, le_int, b1, b2]
  have e2 : isn_l [some (.str c), none] S = some (.bl true, S) := by
    refine fn_ev (vs := [.lst (c.cps.toList.map fun _ => Val.bl true)]) (S1 := S) (cons_ev ?_ nil_ev) (all_true _)
    refine eLc_all c.cps.toList (fun k => Val.str ⟨#[k]⟩) _ ?_ fun k hkk => op2_ev (x := .str ⟨#[k]⟩) (y := .str letters26) (var_ev rfl) con_ev ?_
    · have v0 : eVar 0 [some (.str c), none] S = some (.str c, S) := var_ev rfl
      simp only [iSeq, v0, Option.bind_some]
      rw [if_pos (by omega)]
    · show some (Val.bl (false ^^ (!(Builtin.Str.occurrences letters26 ⟨#[k]⟩ 0 letters26.length 1).isEmpty))) = _
      rw [PySem.StrLaws.found_one, decide_eq_true (hk k hkk)]
      rfl
  exact def_ret (sl := _) rfl (seq_ev (if_f e1 skip_ev) (ret_ev e2))
theorem isi_tup {xs : List Val} : fIsi S [.tup xs, .ty "tuple"] = some (.bl true) := rfl
theorem isi_ptp {xs : List Val} : fIsi S [.ptp xs, .ty "tuple"] = some (.bl true) := rfl
theorem sp_arn {v : Val} {l : List Str} (h : ∀ c ∈ l, c ∈ wideH ∨ c ∈ wideW) (hv : v = .tup (sV l) ∨ v = .ptp (sV l)) : m_arn [v] S = some (.bl true, S) := by
  have e1 : eFn fIsi (es2 (eVar 0) (eCon (.ty "tuple"))) [some v, none] S = some (.bl true, S) := by
    refine fn_ev (vs := [v, .ty "tuple"]) (cons_ev (var_ev rfl) (cons_ev con_ev nil_ev)) ?_
    rcases hv with rfl | rfl <;> rfl
  have e2 : eFn (fQuant true) (es1 (eLc (.nm 1) (iSeq (eVar 0)) tYesM (eCall m_isn (es1 (eVar 1))) [1])) [some v, none] S = some (.bl true, S) := by
    refine fn_ev (vs := [.lst (l.map fun _ => Val.bl true)]) (S1 := S) (cons_ev ?_ nil_ev) (all_true l)
    refine eLc_all l Val.str _ ?_ fun c hc => call_ev (vs := [.str c]) (cons_ev (var_ev rfl) nil_ev) (sp_isn (h c hc))
    rcases hv with rfl | rfl
    · exact seqT_ev (var_ev rfl)
    · exact seqP_ev (var_ev rfl)
  refine def_ret (sl := _) rfl (ret_ev ?_)
  show eAndB _ _ [some v, none] S = _
  simp only [eAndB, e1, Option.bind_some]
  exact e2
theorem keyLt_iff {a b : NK} : PySem.W.dataLt a.data b.data = !keyLe b a := by
  show _ = !(!PyProof.Rows.lexLt PyProof.Rows.itemOrd (PySem.W.keyToks a.data) (PySem.W.keyToks b.data))
  rw [Bool.not_not]
  rfl
theorem strict {a b : NK} (al : PySem.W.alike a.data b.data = true) (h : keyLe a b = true) (hne : a ≠ b) : PySem.W.dataLt a.data b.data = true := by
  rw [keyLt_iff]
  cases e : keyLe b a with
  | false => rfl
  | true => exact absurd (keyLe_anti al h e) hne
theorem toDS_K (k : NK) : toDS S (ofK k) = some k.data := by
  rw [toDS_ofK, toD_ofK]
theorem lt_txt {a b : Str} : fOrd .Lt S (.str a) (.str b) = some (.bl (PySem.W.dataLt (txt a).data (txt b).data)) := by
  have e : ordOk (.str a) (.str b) = true := by simp [ordOk, PySem.W.alike, PyData.depth]
  simp only [fOrd, toDS, toD, Option.bind_some, e, if_true, ordV, Option.map_some]
  rfl
theorem lt_row {r s : List Str} : fOrd .Lt S (vR r) (vR s) = some (.bl (PySem.W.dataLt (rK r).data (rK s).data)) := by
  have e : ordOk (rK r).data (rK s).data = true := by
    unfold ordOk
    rw [alike_rK, data_depth, data_depth]
    have := rK_depth r
    simp only [Bool.true_and, Bool.and_eq_true, decide_eq_true_eq]
    exact ⟨rfl, by omega⟩
  rw [← ofK_rK, ← ofK_rK]
  simp only [fOrd, toDS_K, Option.bind_some, e, if_true, ordV, Option.map_some]
theorem step_txt {l : List Str} (h : l.Pairwise fun a b => txtLe a b = true) (nd : l.Nodup) {i : Nat} (hi : i + 1 < l.length) : PySem.W.dataLt (txt (l.getD i nox)).data (txt (l.getD (i + 1) nox)).data = true := by
  have g : ∀ n, (hn : n < l.length) → l.getD n nox = l[n] := fun n hn => by rw [List.getD_eq_getElem?_getD, List.getElem?_eq_getElem hn]; rfl
  rw [g i (by omega), g (i + 1) hi]
  refine strict (by simp [NestedKey.data, PySem.W.alike]) (List.pairwise_iff_getElem.mp h i (i + 1) (by omega) hi (by omega)) fun q => ?_
  injection q with q
  have := (List.pairwise_iff_getElem.mp nd) i (i + 1) (by omega) hi (by omega)
  exact this q
theorem step_row {l : List (List Str)} (h : l.Pairwise fun a b => keyLe (rK a) (rK b) = true) (nd : l.Nodup) {i : Nat} (hi : i + 1 < l.length) : PySem.W.dataLt (rK (l.getD i [])).data (rK (l.getD (i + 1) [])).data = true := by
  have g : ∀ n, (hn : n < l.length) → l.getD n [] = l[n] := fun n hn => by rw [List.getD_eq_getElem?_getD, List.getElem?_eq_getElem hn]; rfl
  rw [g i (by omega), g (i + 1) hi]
  refine strict (alike_rK _ _) (List.pairwise_iff_getElem.mp h i (i + 1) (by omega) hi (by omega)) fun q => ?_
  exact (List.pairwise_iff_getElem.mp nd) i (i + 1) (by omega) hi (by omega) (rK_inj q)
theorem ix_row {l : List (List Str)} {i : Nat} (hi : i < l.length) : fIx S (.tup (l.map vR)) (.int ((i : Nat) : Int)) = some (vR (l.getD i [])) := by
  show L2.atI (l.map vR) ((i : Nat) : Int) = _
  refine L2.atI_nat ?_
  rw [List.getElem?_map, List.getElem?_eq_getElem hi, List.getD_eq_getElem?_getD, List.getElem?_eq_getElem hi]
  rfl
theorem len_ptp {l : List Str} : fLen S [.ptp (sV l)] = some (.int (l.length : Int)) := by
  show some (Val.int ((sV l).length : Int)) = _
  rw [List.length_map]
theorem len_tupV {l : List Str} : fLen S [.tup (sV l)] = some (.int (l.length : Int)) := by
  show some (Val.int ((sV l).length : Int)) = _
  rw [List.length_map]
theorem len_rows {l : List (List Str)} : fLen S [.tup (l.map vR)] = some (.int (l.length : Int)) := by
  show some (Val.int ((l.map vR).length : Int)) = _
  rw [List.length_map]
theorem sp_ris {l : List Str} (h : l.Pairwise fun a b => txtLe a b = true) (nd : l.Nodup) (hl : l.length ≤ 1000) : m_ris [.ptp (sV l)] S = some (.bl true, S) := by
  refine def_ret (sl := _) rfl (ret_ev (fn_ev (vs := [.lst ((List.range (l.length - 1)).map fun _ => Val.bl true)]) (S1 := S) (cons_ev ?_ nil_ev) (all_true _)))
  have a1 : eI 1 [some (.ptp (sV l)), none] S = some (.int 1, S) := con_ev
  have a2 : eFn fLen (es1 (eVar 0)) [some (.ptp (sV l)), none] S = some (.int (l.length : Int), S) := fn_ev (vs := [.ptp (sV l)]) (cons_ev (var_ev rfl) nil_ev) len_ptp
  have hit : iRng2M (eI 1) (eFn fLen (es1 (eVar 0))) [some (.ptp (sV l)), none] S = some (⟨(List.range (l.length - 1)).map fun i : Nat => Val.int (1 + (i : Int)), none⟩, S) := by
    simp only [iRng2M, a1, a2, Option.bind_some]
    rw [if_pos ⟨by decide, by decide, by omega, by omega⟩]
    have : ((l.length : Int) - 1).toNat = l.length - 1 := by omega
    rw [this]
    rfl
  refine eLc_all (List.range (l.length - 1)) (fun i : Nat => Val.int (1 + (i : Int))) _ hit fun i hi => ?_
  have hi' :=
        List.mem_range.mp hi
  have e1 : eOp2 fIx (eVar 0) (eOp2 fSub (eVar 1) (eI 1)) [some (.ptp (sV l)), some (.int (1 + (i : Int)))] S = some (.str (l.getD i nox), S) := by
    refine op2_ev (x := .ptp (sV l)) (y := .int ((i : Nat) : Int)) (var_ev rfl) (op2_ev (x := .int (1 + (i : Int))) (y := .int 1) (var_ev rfl) con_ev ?_) (show L2.atI (sV l) ((i : Nat) : Int) = _ from atI_str (by omega))
    show some (Val.int (1 + (i : Int) - 1)) = _
    congr 2
    omega
  have e2 : eOp2 fIx (eVar 0) (eVar 1) [some (.ptp (sV l)), some (.int (1 + (i : Int)))] S = some (.str (l.getD (i + 1) nox), S) := by
    refine op2_ev (x := .ptp (sV l)) (y := .int (((i + 1 : Nat) : Nat) : Int)) (var_ev rfl) ?_ (show L2.atI (sV l) (((i + 1 : Nat) : Nat) : Int) = _ from atI_str (by omega))
    have : (1 + (i : Int)) = (((i + 1 : Nat) : Nat) : Int) := by omega
    rw [this]
    exact var_ev rfl
  have e3 : eOp2 (fOrd .Lt) (eOp2 fIx (eVar 0) (eOp2 fSub (eVar 1) (eI 1))) (eOp2 fIx (eVar 0) (eVar 1)) [some (.ptp (sV l)), some (.int (1 + (i : Int)))] S = some (Val.bl true, S) := op2_ev e1 e2 (by rw [lt_txt, step_txt h nd (by omega)])
  exact e3
theorem sp_shp (ok : T.Ok) : m_shp [vT T] S = some (.bl true, S) := by
  have hI : ∀ c ∈ T.items, c ∈ wideH ∨ c ∈ wideW := fun c hc => .inl (ok.it c hc)
  have e1 : shp_c [some (vT T), none] S = some (false, S) := by
    refine or_f (S1 := S) (not_ev (b := true) (tru_ev (fn_ev (vs := [vT T, .ty "tuple"]) (cons_ev (var_ev rfl) (cons_ev con_ev nil_ev)) rfl))) (or_f (S1 := S) (tru_ev (op2_ev (x := .int 2) (y := .int 2) (S1 := S) (S2 := S) (fn_ev (vs := [vT T]) (cons_ev (var_ev rfl) nil_ev) rfl) con_ev ?_)) (not_ev (b := true) (tru_ev (call_ev (vs := [.ptp (sV T.items)]) (S1 := S) (cons_ev (ixT0 rfl) nil_ev) (sp_arn hI (.inr rfl))))))
    have h := fEq_ofK (neg := true) (S := S) (a := .num 2) (b := .num 2) ⟨rfl, by simp [NestedKey.depth]⟩ ⟨rfl, by simp [NestedKey.depth]⟩
    rw [decide_eq_true rfl] at h
    exact h
  have e2 : eFn fIsi (es2 (eOp2 fIx (eVar 0) (eI 1)) (eCon (.ty "tuple"))) [some (vT T), none] S = some (.bl true, S) := fn_ev (vs := [.tup (T.rows.map vR), .ty "tuple"]) (S1 := S) (cons_ev (ixT1 rfl) (cons_ev con_ev nil_ev)) rfl
  have e3 : eFn (fQuant true) (es1 (eLc (.nm 1) (iSeq (eOp2 fIx (eVar 0) (eI 1))) tYesM (eCall m_arn (es1 (eVar 1))) [1])) [some (vT T), none] S = some (.bl true, S) := by
    refine fn_ev (vs := [.lst (T.rows.map fun _ => Val.bl true)]) (S1 := S) (cons_ev ?_ nil_ev) (all_true _)
    exact eLc_all T.rows vR _ (seqT_ev (ixT1 rfl)) fun r hr => call_ev (vs := [vR r]) (cons_ev (var_ev rfl) nil_ev) (sp_arn (fun c hc => .inr (ok.wd r hr c hc)) (.inl rfl))
  refine def_ret (sl := _) rfl (seq_ev (if_f e1 skip_ev) (ret_ev ?_))
  show eAndB _ _ [some (vT T), none] S = _
  simp only [eAndB, e2, Option.bind_some]
  exact e3
theorem sp_crw (ok : T.Ok) (g : Good T) : m_crw [.ptp (sV T.items), .tup (T.rows.map vR)] S = some (.non, S) := by
  obtain ⟨sl', S', e, rfl, y, rfl⟩ := for_inv (tg := gNm 2) (s := ⟨(List.range T.rows.length).map fun i : Nat => Val.int (i : Int), none⟩) (body := sSeq crw_1 crw_2) (fun sl S' => S' = S ∧ ∃ y, sl = [some (.ptp (sV T.items)), some (.tup (T.rows.map vR)), y]) rfl (fun i : Nat => Val.int (i : Int)) (List.range T.rows.length) (sl := [some (.ptp (sV T.items)), some (.tup (T.rows.map vR)), none]) (S := S)
    (fun k hk sl S' h => by
      obtain ⟨rfl, y, rfl⟩ := h
      have hk' := List.mem_range.mp hk
      have hrow : T.rows.getD k [] ∈ T.rows := by rw [List.getD_eq_getElem?_getD, List.getElem?_eq_getElem hk']; exact List.getElem_mem _
      have ek : eOp2 fIx (eVar 1) (eVar 2) [some (.ptp (sV T.items)), some (.tup (T.rows.map vR)), some (.int (k : Int))] S' = some (vR (T.rows.getD k []), S') := op2_ev (x := .tup (T.rows.map vR)) (y := .int ((k : Nat) : Int)) (var_ev rfl) (var_ev rfl) (ix_row hk')
      refine ⟨_, [some (.ptp (sV T.items)), some (.tup (T.rows.map vR)), some (.int (k : Int))], S', rfl, seq_ev (if_f (S1 := S') (tru_ev (op2_ev (x := .int (T.items.length : Int)) (y := .int (T.items.length : Int)) (S1 := S') (S2 := S') (fn_ev (vs := [vR (T.rows.getD k [])]) (cons_ev ek nil_ev) (by rw [len_tupV, ok.len _ hrow])) (fn_ev (vs := [.ptp (sV T.items)]) (cons_ev (var_ev rfl) nil_ev) len_ptp) ?_)) skip_ev) (if_f (S1 := S') ?_ skip_ev), rfl, _, rfl⟩
      · have h := fEq_ofK (neg := true) (S := S') (a := .num (T.items.length : Int)) (b := .num (T.items.length : Int)) ⟨rfl, by simp [NestedKey.depth]⟩ ⟨rfl, by simp [NestedKey.depth]⟩
        rw [decide_eq_true rfl] at h
        exact h
      · cases k with
        | zero => exact and_f (tru_ev (op2_ev (x := .int ((0 : Nat) : Int)) (y := .int 0) (var_ev rfl) con_ev (by rw [K5.gt_int]; rfl)))
        | succ n =>
          refine and_t (S1 := S') (tru_ev (op2_ev (x := .int ((n + 1 : Nat) : Int)) (y := .int 0) (var_ev rfl) con_ev (by rw [K5.gt_int, decide_eq_true (by omega)]))) (not_ev (b := true) (tru_ev (op2_ev (x := vR (T.rows.getD n [])) (y := vR (T.rows.getD (n + 1) [])) (S1 := S') (S2 := S') (op2_ev (x := .tup (T.rows.map vR)) (y := .int ((n : Nat) : Int)) (var_ev rfl) (op2_ev (x := .int ((n + 1 : Nat) : Int)) (y := .int 1) (var_ev rfl) con_ev ?_) (ix_row (by omega))) ek (by rw [lt_row, step_row g.sr g.nr hk']))))
          show some (Val.int (((n + 1 : Nat) : Int) - 1)) = _
          congr 2
          omega) ⟨rfl, none, rfl⟩
  exact def_nxt (sl := _) rfl (for_ev (s := ⟨rngL 0 T.rows.length, none⟩) (S1 := S') (rng_ev (fn_ev (vs := [.tup (T.rows.map vR)]) (cons_ev (var_ev rfl) nil_ev) len_rows) (by have := ok.few; omega)) (by rw [rng_map]; exact e))
theorem uniq_two {l : List Str} {a b : Str} (ha : a ∈ l) (hb : b ∈ l) (h : a ≠ b) : 2 ≤ (uniqT l).length := by
  have nd : [a, b].Nodup := by simp [h]
  have : [a, b].length ≤ (uniqT l).length := nd.length_le_of_subset fun x hx => by
    rcases List.mem_cons.mp hx
          with rfl | hx
    · exact mem_uniqT.mpr ha
    · rw [List.mem_singleton] at hx
      rw [hx]
      exact mem_uniqT.mpr hb
  exact this
theorem col_len {n : Nat} (hn : T.rows.length < 4000) : fLenTxt S [.lst (sV (T.rows.map fun r => r.getD n nox))] = some (.int ((uniqT (T.rows.map fun r => r.getD n nox)).length : Int)) := by
  have hl : (T.rows.map fun r => r.getD n nox).length < 4000 := by rw [List.length_map]; exact hn
  simp only [fLenTxt, lstOf, Option.bind_some, toT_sV, hl, if_true]
theorem sp_ccd (ok : T.Ok) (g : Good T) : m_ccd [.ptp (sV T.items), .tup (T.rows.map vR)] S = some (.non, S) := by
  obtain ⟨sl', S', e, rfl, y, rfl⟩ := for_inv (tg := gNm 2) (s := ⟨(List.range T.items.length).map fun i : Nat => Val.int (i : Int), none⟩) (body := sIf (tTru (eOp2 (fOrd .Lt) (eFn fLenTxt (es1 (eLc (.nm 3) (iSeq (eVar 1)) tYesM (eOp2 fIx (eVar 3) (eVar 2)) [3]))) (eI 2))) sStuck sSkip) (fun sl S' => S' = S ∧ ∃ y, sl = [some (.ptp (sV T.items)), some (.tup (T.rows.map vR)), y, none]) rfl (fun i : Nat => Val.int (i : Int)) (List.range T.items.length) (sl := [some (.ptp (sV T.items)), some (.tup (T.rows.map vR)), none, none]) (S := S)
    (fun k hk sl S' h => by
      obtain ⟨rfl, y, rfl⟩ := h
      have hk' := List.mem_range.mp hk
      obtain ⟨r, hr, s, hs, hne⟩ := g.two k hk'
      have h2 := uniq_two (l := T.rows.map fun r => r.getD k nox) (List.mem_map_of_mem hr) (List.mem_map_of_mem hs) hne
      refine ⟨_, [some (.ptp (sV T.items)), some (.tup (T.rows.map vR)), some (.int (k : Int)), none], S', rfl, if_f (S1 := S') (tru_ev (op2_ev (x := .int ((uniqT (T.rows.map fun r => r.getD k nox)).length : Int)) (y := .int 2) (S1 := S') (S2 := S') (fn_ev (vs := [.lst (sV (T.rows.map fun r => r.getD k nox))]) (S1 := S') (cons_ev ?_ nil_ev) (col_len (by have := ok.few; omega))) con_ev (by rw [K5.lt_int, decide_eq_false (by omega)]))) skip_ev, rfl, _, rfl⟩
      rw [show sV (T.rows.map fun r => r.getD k nox) = T.rows.map fun r => Val.str (r.getD k nox) from List.map_map ..]
      exact eLc_all T.rows vR _ (seqT_ev (var_ev rfl)) fun r hr => op2_ev (x := vR r) (y := .int ((k : Nat) : Int)) (var_ev rfl) (var_ev rfl) (show L2.atI (sV r) ((k : Nat) : Int) = _ from atI_str (by rw [ok.len r hr]; exact hk'))) ⟨rfl, none, rfl⟩
  exact def_nxt (sl := _) rfl (for_ev (s := ⟨rngL 0 T.items.length, none⟩) (S1 := S') (rng_ev (fn_ev (vs := [.ptp (sV T.items)]) (cons_ev (var_ev rfl) nil_ev) len_ptp) (by have := items_len ok; omega)) (by rw [rng_map]; exact e))
theorem sp_lts (ok : T.Ok) (g : Good T) (hi : T.items ≠ []) (hr : T.rows ≠ []) : m_lts [vT T] S = some (.int (T.rows.length : Int), S) := by
  have h5 := items_len ok
  have ti : tTru (eVar 1) [some (vT T), some (.ptp (sV T.items)), some (.tup (T.rows.map vR))] S = some (true, S) := by
    have v : eVar 1 [some (vT T), some (.ptp (sV T.items)), some (.tup (T.rows.map vR))] S = some (.ptp (sV T.items), S) := var_ev rfl
    simp only [tTru, v, Option.bind_some, truth]
    cases h : T.items with
    | nil => exact absurd h hi
    | cons a l => rfl
  have tr' : tTru (eVar 2) [some (vT T), some (.ptp (sV T.items)), some (.tup (T.rows.map vR))] S = some (true, S) := by
    have v : eVar 2 [some (vT T), some (.ptp (sV T.items)), some (.tup (T.rows.map vR))] S = some (.tup (T.rows.map vR), S) := var_ev rfl
    simp only [tTru, v, Option.bind_some, truth]
    cases h : T.rows with
    | nil => exact absurd h hr
    | cons a l => rfl
  refine def_ret (sl := [some (vT T), some (.ptp (sV T.items)), some (.tup (T.rows.map vR))]) rfl (seq_ev (if_f (S1 := S) (not_ev (b := true) (tru_ev (call_ev (vs := [vT T]) (S1 := S) (cons_ev (var_ev rfl) nil_ev) (sp_shp ok)))) skip_ev) (seq_ev (asg_ev (v := vT T) (sl1 := [some (vT T), some (.ptp (sV T.items)), some (.tup (T.rows.map vR))]) (S1 := S) (var_ev rfl) rfl) (seq_ev (if_f (S1 := S) (or_f (S1 := S) (not_ev (b := true) ti) (not_ev (b := true) (tru_ev (call_ev (vs := [.ptp (sV T.items)]) (S1 := S) (cons_ev (var_ev rfl) nil_ev) (sp_ris g.si ok.nd (by omega)))))) skip_ev) (seq_ev (if_f (S1 := S) (not_ev (b := true) tr') skip_ev) (seq_ev (exp_ev (call_ev (vs := [.ptp (sV T.items), .tup (T.rows.map vR)]) (S1 := S) (cons_ev (var_ev rfl) (cons_ev (var_ev rfl) nil_ev)) (sp_crw ok g))) (seq_ev (exp_ev (call_ev (vs := [.ptp (sV T.items), .tup (T.rows.map vR)]) (S1 := S) (cons_ev (var_ev rfl) (cons_ev (var_ev rfl) nil_ev)) (sp_ccd ok g))) (ret_ev (fn_ev (vs := [.tup (T.rows.map vR)]) (S1 := S) (cons_ev (var_ev rfl) nil_ev) len_rows))))))))
end K15
namespace K15
open PySem PySem.Spec PyProof.Rows L2 Mp Pilot K5 K13
variable {S : Sto} {T : Tab}
/-! ### the order of rows, item by item -/
theorem toks_cons (a : Str) (r : List Str) : PySem.W.keyToks (rK (a :: r)).data = [.inl 1, .inr a.cps.toList] ++ PySem.W.keyToks (rK r).data := by
  simp [rK, NestedKey.data, NestedKey.datas, PySem.W.keyToks, PySem.W.keyToksAll]
theorem row_same {a : Str} {r s : List Str} : keyLe (rK (a :: r)) (rK (a :: s)) = keyLe (rK r) (rK s) := by
  show (!PyProof.Rows.lexLt PyProof.Rows.itemOrd (PySem.W.keyToks (rK (a :: s)).data) (PySem.W.keyToks (rK (a :: r)).data)) = (!PyProof.Rows.lexLt PyProof.Rows.itemOrd (PySem.W.keyToks (rK s).data) (PySem.W.keyToks (rK r).data))
  rw [toks_cons, toks_cons, PySem.W.lex_pre]
theorem row_diff {a b : Str} {r s : List Str} (h : a ≠ b) : keyLe (rK (a :: r)) (rK (b :: s)) = txtLe a b := by
  have hne : (Sum.inr b.cps.toList : Int ⊕ List Nat) ≠ .inr a.cps.toList := fun z => h (PySem.W.str_of_cps (Sum.inr.inj z)).symm
  show (!PyProof.Rows.lexLt PyProof.Rows.itemOrd (PySem.W.keyToks (rK (b :: s)).data) (PySem.W.keyToks (rK (a :: r)).data)) = (!PyProof.Rows.lexLt PyProof.Rows.itemOrd [.inr b.cps.toList] [.inr a.cps.toList])
  rw [toks_cons, toks_cons]
  show (!PyProof.Rows.lexLt PyProof.Rows.itemOrd ([.inl 1] ++ (.inr b.cps.toList :: PySem.W.keyToks (rK s).data)) ([.inl 1] ++ (.inr a.cps.toList :: PySem.W.keyToks (rK r).data))) = _
  rw [PySem.W.lex_pre, PySem.W.lex_atom hne]
def ins (p : Nat) (w : Str) (r : List Str) : List Str := r.take p ++ [w] ++ r.drop p
theorem ins_zero {w : Str} {r : List Str} : ins 0 w r = w :: r := by simp [ins]
theorem ins_succ {p : Nat} {w a : Str} {r : List Str} : ins (p + 1) w (a :: r) = a :: ins p w r := by simp [ins]
theorem ins_mono {w : Str} : ∀ (p : Nat) (r s : List Str), p ≤ r.length → p ≤ s.length → keyLe (rK (ins p w r)) (rK (ins p w s)) = keyLe (rK r) (rK s)
  | 0, r, s, _, _ => by rw [ins_zero, ins_zero, row_same]
  | p + 1, [], _, h, _ => by simp at h
  | p + 1, _ :: _, [], _, h => by simp at h
  | p + 1, a :: r, b :: s, h1, h2 => by
    rw [ins_succ, ins_succ]
    by_cases e : a = b
    · subst e
      rw [row_same, row_same, ins_mono p r s (by simpa using h1) (by simpa using h2)]
    · rw [row_diff e, row_diff e]
theorem ins_len {p : Nat} {w : Str} {r : List Str} (h : p ≤ r.length) : (ins p w r).length = r.length + 1 := by
  simp only [ins, List.length_append, List.length_take, List.length_cons, List.length_nil, List.length_drop]
  omega
theorem ins_at {p : Nat} {w : Str} {r : List Str} (h : p ≤ r.length) : (ins p w r).getD p nox = w := by
  have hl : (r.take p).length = p := by rw [List.length_take]; omega
  rw [ins, List.append_assoc, List.getD_eq_getElem?_getD, List.getElem?_append_right (by omega), hl, Nat.sub_self]
  rfl
def del (p : Nat) (r : List Str) : List Str := r.take p ++ r.drop (p + 1)
theorem del_ins {w : Str} : ∀ (p : Nat) (r : List Str), p ≤ r.length → del p (ins p w r) = r
  | 0, r, _ => by simp [del, ins_zero]
  | p + 1, [], h => by simp at h
  | p + 1, a :: r, h => by
    have ih := del_ins (w := w) p r (by simpa using h)
    rw [ins_succ]
    simp only [del, List.take_succ_cons, List.drop_succ_cons, List.cons_append] at ih ⊢
    rw [ih]
theorem ins_inj {p : Nat} {w v : Str} {r s : List Str} (h1 : p ≤ r.length) (h2 : p ≤ s.length) (e : ins p w r = ins p v s) : w = v ∧ r = s := by
  refine ⟨?_, ?_⟩
  · rw [← ins_at (w := w) h1, e, ins_at h2]
  · rw [← del_ins (w := w) p r h1, e, del_ins p s h2]
theorem zip_ins {w i : Str} : ∀ (p : Nat) (a r : List Str), a.length = r.length → p ≤ a.length → ∀ k, k ∈ List.zipWith pK (ins p i a) (ins p w r) ↔ k ∈ List.zipWith pK a r ∨ k = pK i w
  | 0, a, r, _, _, k => by rw [ins_zero, ins_zero, List.zipWith_cons_cons, List.mem_cons, or_comm]
  | p + 1, [], _, _, h, _ => by simp at h
  | p + 1, _ :: _, [], h, _, _ => by simp at h
  | p + 1, b :: a, c :: r, h1, h2, k => by
    rw [ins_succ, ins_succ, List.zipWith_cons_cons, List.zipWith_cons_cons, List.mem_cons, List.mem_cons, zip_ins p a r (by simpa using h1) (by simpa using h2), or_assoc]
theorem idx_ins {i x w : Str} (hx : x ≠ i) : ∀ (p : Nat) (a r : List Str), a.length = r.length → p ≤ a.length → (ins p w r).getD ((ins p i a).idxOf x) nox = r.getD (a.idxOf x) nox
  | 0, a, r, _, _ => by
    rw [ins_zero, ins_zero, List.idxOf_cons]
    have e : (i == x) = false := by simpa using fun z => hx z.symm
    rw [e]
    rfl
  | p + 1, [], _, _, h => by simp at h
  | p + 1, _ :: _, [], h, _ => by simp at h
  | p + 1, b :: a, c :: r, h1, h2 => by
    rw [ins_succ, ins_succ, List.idxOf_cons, List.idxOf_cons]
    cases e : (b == x) with
    | true => rfl
    | false =>
      simp only [cond_false, List.getD_cons_succ]
      exact idx_ins hx p a r (by simpa using h1) (by simpa using h2)
theorem idx_new {i : Str} : ∀ (p : Nat) (a : List Str), p ≤ a.length → i ∉ a → (ins p i a).idxOf i = p
  | 0, a, _, _ => by rw [ins_zero, List.idxOf_cons]; simp
  | p + 1, [], h, _ => by simp at h
  | p + 1, b :: a, h, hn => by
    rw [ins_succ, List.idxOf_cons]
    have e : (b == i) = false := by simpa using fun z => hn (by rw [← z]; exact List.mem_cons_self)
    rw [e]
    simp only [cond_false]
    rw [idx_new p a (by simpa using h) fun z => hn (List.mem_cons_of_mem _ z)]
/-! ### the wider table -/
theorem txt_total : PySem.W.TotalLe txtLe := ⟨fun a b c h1 h2 => keyLe_total.trans (.text a) (.text b) (.text c) h1 h2, fun a b => keyLe_total.total (.text a) (.text b)⟩
theorem sorted_txt {a b : List Str} (sa : a.Pairwise fun a b => txtLe a b = true) (sb : b.Pairwise fun a b => txtLe a b = true) (na : a.Nodup) (nb : b.Nodup) (m : ∀ k, k ∈ a ↔ k ∈ b) : a = b :=
  ((List.perm_ext_iff_of_nodup na nb).mpr m).eq_of_pairwise (fun x y hx hy h1 h2 => by
    have := keyLe_anti (a := .text x) (b := .text y) (by simp [NestedKey.data, PySem.W.alike]) h1 h2
    injection this) sa sb
abbrev zoneS : Str := "zone"
def wideI (T : Tab) : List Str := (T.items ++ [zoneS]).mergeSort txtLe
def spot (T : Tab) : Nat := (wideI T).idxOf zoneS
theorem wideI_perm : (wideI T).Perm (T.items ++ [zoneS]) := List.mergeSort_perm _ _
theorem wideI_sorted : (wideI T).Pairwise fun a b => txtLe a b = true := List.pairwise_mergeSort (le := txtLe) (fun a b c h1 h2 => keyLe_total.trans (.text a) (.text b) (.text c) h1 h2) (fun a b => by rw [Bool.or_eq_true]; exact keyLe_total.total (.text a) (.text b)) _
theorem wideI_nodup (nd : T.items.Nodup) (hz : zoneS ∉ T.items) : (wideI T).Nodup := wideI_perm.symm.nodup (List.nodup_append.mpr ⟨nd, by simp, fun a ha b hb e => by
  rw [List.mem_singleton] at hb
  rw [e, hb] at ha
  exact hz ha⟩)
theorem spot_lt : spot T < (wideI T).length := List.idxOf_lt_length_of_mem (wideI_perm.mem_iff.mpr (List.mem_append_right _ (List.mem_singleton.mpr rfl)))
theorem wideI_ins (nd : T.items.Nodup) (hz : zoneS ∉ T.items) (si : T.items.Pairwise fun a b => txtLe a b = true) : spot T ≤ T.items.length ∧ wideI T = ins (spot T) zoneS T.items := by
  have hl : (wideI T).length = T.items.length + 1 := by rw [wideI_perm.length_eq]; simp
  have hp := spot_lt (T := T)
  have hnd := wideI_nodup nd hz
  have e1 : (wideI T)[spot T] = zoneS := List.getElem_idxOf hp
  have split : wideI T = (wideI T).take (spot T) ++ zoneS :: (wideI T).drop (spot T + 1) := by
    conv => lhs; rw [← List.take_append_drop (spot T) (wideI T), List.drop_eq_getElem_cons hp, e1]
  have sub : List.Sublist (del (spot T) (wideI T)) (wideI T) := by
    conv => rhs; rw [split]
    exact List.Sublist.append (List.Sublist.refl _) (List.sublist_cons_self _ _)
  have hmem : ∀ k, k ∈ del (spot T) (wideI T) ↔ k ∈ T.items := fun k => by
    have h1 : k ∈ wideI T ↔ k ∈ T.items ∨ k = zoneS := by rw [wideI_perm.mem_iff, List.mem_append, List.mem_singleton]
    have h2 : k ∈ wideI T ↔ k ∈ del (spot T) (wideI T) ∨ k = zoneS := by
      conv => lhs; rw [split]
      rw [List.mem_append, List.mem_cons, del, List.mem_append]
      constructor
      · rintro (h | h | h)
        · exact .inl (.inl h)
        · exact .inr h
        · exact .inl (.inr h)
      · rintro ((h | h) | h)
        · exact .inl h
        · exact .inr (.inr h)
        · exact .inr (.inl h)
    have hzd : zoneS ∉ del (spot T) (wideI T) := fun h => by
      have q := hnd
      rw [split, List.nodup_append] at q
      obtain ⟨_, q2, q3⟩ := q
      rcases List.mem_append.mp h
            with h | h
      · exact q3 _ h _ List.mem_cons_self rfl
      · exact (List.nodup_cons.mp q2).1 h
    constructor
    · intro h
      rcases h1.mp (h2.mpr (.inl h)) with q | q
      · exact q
      · subst q; exact absurd h hzd
    · intro h
      rcases h2.mp (h1.mpr (.inl h)) with q | q
      · exact q
      · subst q; exact absurd h hz
  have e2 : del (spot T) (wideI T) = T.items := sorted_txt (wideI_sorted.sublist sub) si (hnd.sublist sub) nd hmem
  have hle : spot T ≤ T.items.length := by omega
  have ht : T.items.take (spot T) = (wideI T).take (spot T) := by
    rw [← e2, del, List.take_append_of_le_length (by rw [List.length_take]; omega), List.take_take, Nat.min_self]
  have hd : T.items.drop (spot T) = (wideI T).drop (spot T + 1) := by
    rw [← e2, del, List.drop_append, List.length_take, Nat.min_eq_left (by omega), Nat.sub_self, List.drop_zero, List.drop_take]
    simp
  refine ⟨hle, ?_⟩
  rw [ins, ht, hd, List.append_assoc]
  exact split
end K15
namespace K15
open PySem PySem.Spec PyProof.Rows L2 Mp Pilot K5 K13
variable {S : Sto} {T : Tab}
def rowLe (a b : List Str) : Bool := keyLe (rK a) (rK b)
def sortR (l : List (List Str)) : List (List Str) := l.mergeSort rowLe
theorem sortR_perm (l : List (List Str)) : (sortR l).Perm l := List.mergeSort_perm _ _
theorem sortR_sorted (l : List (List Str)) : (sortR l).Pairwise fun a b => keyLe (rK a) (rK b) = true := List.pairwise_mergeSort (le := rowLe) (fun a b c h1 h2 => keyLe_total.trans (rK a) (rK b) (rK c) h1 h2) (fun a b => by rw [Bool.or_eq_true]; exact keyLe_total.total (rK a) (rK b)) _
theorem sorted_rows {a b : List (List Str)} (sa : a.Pairwise fun a b => keyLe (rK a) (rK b) = true) (sb : b.Pairwise fun a b => keyLe (rK a) (rK b) = true) (na : a.Nodup) (nb : b.Nodup) (m : ∀ k, k ∈ a ↔ k ∈ b) : a = b :=
  ((List.perm_ext_iff_of_nodup na nb).mpr m).eq_of_pairwise (fun x y hx hy h1 h2 => rK_inj (keyLe_anti (alike_rK x y) h1 h2)) sa sb
theorem fSortL_rows {n : Nat} {l : List (List Str)} (h : ∀ r ∈ l, r.length = n ∧ ∀ c ∈ r, c ∈ wideW) : fSortL S [.lst (l.map vR)] = some (.lst ((sortR l).map vR)) := by
  have ok : sortOk (l.map rK) = true := row_sortOk (n := n) fun k hk => by
    obtain ⟨r, hr, rfl⟩ := List.mem_map.mp hk
    exact ⟨r, rfl, (h r hr).1, (h r hr).2⟩
  have em : (l.mergeSort rowLe).map rK = (l.map rK).mergeSort keyLe := List.map_mergeSort fun a _ b _ => rfl
  simp only [fSortL, lstOf, Option.bind_some, ← ofKs_rows, toKs_ofKs, ok, if_true]
  rw [← em]
  rfl
theorem fSortT_txt {l : List Str} : fSortT S [.tup (sV l)] = some (.lst (sV (l.mergeSort txtLe))) := by
  have ok : sortOk (l.map txt) = true := by
    unfold sortOk
    rw [alikeKeys_of fun a ha b hb => by
      obtain ⟨x, _, rfl⟩ := List.mem_map.mp ha
      obtain ⟨y, _, rfl⟩ := List.mem_map.mp hb
      simp [NestedKey.data, PySem.W.alike]]
    have e : sortableKeys (l.map txt) = true := by
      unfold sortableKeys
      rw [Bool.or_eq_true, List.all_eq_true, List.all_eq_true]
      right
      intro k hk
      obtain ⟨x, _, rfl⟩ := List.mem_map.mp hk
      rfl
    rw [e]
    simp [NestedKey.depth]
  have em : (l.mergeSort txtLe).map txt = (l.map txt).mergeSort keyLe := List.map_mergeSort fun a _ b _ => rfl
  simp only [fSortT, toKs_sV, Option.bind_some, ok, if_true]
  rw [← em, ofKs_txt]
theorem cut_from {r : List Str} {j : Nat} (h : j ≤ r.length) : cutG (sV r) (some (j : Int)) none = sV (r.drop j) := by
  unfold cutG
  have e : HT.sIx (sV r).length 0 (some (j : Int)) = j := by
    have q := HT.sIx_nat (sV r).length 0 j
    have hl : (sV r).length = r.length := List.length_map ..
    rw [hl] at q ⊢
    rw [Nat.min_eq_left h] at q
    exact q
  rw [e, show HT.sIx (sV r).length (sV r).length none = (sV r).length from rfl]
  have e2 : (sV r).drop j = sV (r.drop j) := (List.map_drop ..).symm
  rw [e2, List.length_map, List.take_of_length_le]
  rw [List.length_map, List.length_drop]
  exact Nat.le_refl _
/-- entry[:p] + (w,) + entry[p:] -/
theorem ins_ev {sl : Sl} {i j p : Nat} {w : Str} {r : List Str} (hi : sl[i]? = some (some (vR r))) (hj : sl[j]? = some (some (.int (p : Int)))) (hp : p ≤ r.length) (hl : r.length ≤ 100) : eOp2 fAdd (eOp2 fAdd (eSl (eVar i) oNo (oSo (eVar j))) (eTup (es1 (eT w)))) (eSl (eVar i) (oSo (eVar j)) oNo) sl S = some (vR (ins p w r), S) := by
  refine op2_ev (x := .tup (sV (r.take p ++ [w]))) (y := .tup (sV (r.drop p))) (S1 := S) (S2 := S) (op2_ev (x := .tup (sV (r.take p))) (y := .tup (sV [w])) (S1 := S) (S2 := S) (sl_ev (v := vR r) (lo := none) (hi := some (p : Int)) (S1 := S) (S2 := S) (var_ev hi) rfl (so_ev (var_ev hj)) ?_) (tup_ev (cons_ev con_ev nil_ev)) (add_tups ?_)) (sl_ev (v := vR r) (lo := some (p : Int)) (hi := none) (S1 := S) (S2 := S) (var_ev hi) (so_ev (var_ev hj)) rfl ?_) (add_tups ?_)
  · show some (Val.tup (cutG (sV r) none (some (p : Int)))) = _
    rw [cut_lo hp]
  · simp only [List.length_take, List.length_cons, List.length_nil]; omega
  · show some (Val.tup (cutG (sV r) (some (p : Int)) none)) = _
    rw [cut_from hp]
  · simp only [List.length_append, List.length_take, List.length_cons, List.length_nil, List.length_drop]; omega
def wideE (T : Tab) : List (List Str) := T.rows.map (ins (spot T) "near") ++ T.rows.map (ins (spot T) "wide")
def wideT (T : Tab) : Tab := ⟨wideI T, sortR (wideE T)⟩
structure Base (T : Tab) : Prop where
  ok : T.Ok
  g : Good T
  ne : T.items ≠ []
  nr : T.rows ≠ []
  nz : zoneS ∉ T.items
  i3 : T.items.length ≤ 5
  r12 : T.rows.length ≤ 12
theorem Base.sp {T : Tab} (b : Base T) : spot T ≤ T.items.length := (wideI_ins b.ok.nd b.nz b.g.si).1
theorem Base.it {T : Tab} (b : Base T) : (wideT T).items = ins (spot T) zoneS T.items := (wideI_ins b.ok.nd b.nz b.g.si).2
theorem Base.spr {T : Tab} (b : Base T) {r : List Str} (hr : r ∈ T.rows) : spot T ≤ r.length := by rw [b.ok.len r hr]; exact b.sp
theorem mem_wideE {e : List Str} : e ∈ wideE T ↔ ∃ r ∈ T.rows, e = ins (spot T) "near" r ∨ e = ins (spot T) "wide" r := by
  rw [wideE, List.mem_append, List.mem_map, List.mem_map]
  constructor
  · rintro (⟨r, hr, rfl⟩ | ⟨r, hr, rfl⟩)
    · exact ⟨r, hr, .inl rfl⟩
    · exact ⟨r, hr, .inr rfl⟩
  · rintro ⟨r, hr, rfl | rfl⟩
    · exact .inl ⟨r, hr, rfl⟩
    · exact .inr ⟨r, hr, rfl⟩
theorem mem_wide {e : List Str} : e ∈ (wideT T).rows ↔ ∃ r ∈ T.rows, e = ins (spot T) "near" r ∨ e = ins (spot T) "wide" r := (sortR_perm _).mem_iff.trans mem_wideE
theorem wide_cells (b : Base T) {e : List Str} (he : e ∈ wideE T) : e.length = T.items.length + 1 ∧ ∀ c ∈ e, c ∈ wideW := by
  have key : ∀ (r : List Str) (w : Str), r ∈ T.rows → w ∈ wideW → (ins (spot T) w r).length = T.items.length + 1 ∧ ∀ c ∈ ins (spot T) w r, c ∈ wideW := fun r w hr hw => by
    refine ⟨by rw [ins_len (b.spr hr), b.ok.len r hr], fun c hc => ?_⟩
    rw [ins, List.mem_append, List.mem_append, List.mem_singleton] at hc
    rcases hc with (q | q) | q
    · exact b.ok.wd r hr c (List.mem_of_mem_take q)
    · rw [q]; exact hw
    · exact b.ok.wd r hr c (List.mem_of_mem_drop q)
  obtain ⟨r, hr, rfl | rfl⟩ := mem_wideE.mp he
  · exact key r _ hr (by decide)
  · exact key r _ hr (by decide)
theorem wide_ok (b : Base T) : (wideT T).Ok := by
  refine ⟨wideI_nodup b.ok.nd b.nz, fun i hi => ?_, fun r hr => ?_, fun r hr => ?_, ?_⟩
  · rcases List.mem_append.mp (wideI_perm.mem_iff.mp hi) with q | q
    · exact b.ok.it i q
    · rw [List.mem_singleton] at q
      rw [q]; decide
  · have hl : (wideT T).items.length = T.items.length + 1 := by rw [b.it, ins_len b.sp]
    rw [hl]
    exact (wide_cells b ((sortR_perm _).mem_iff.mp hr)).1
  · exact (wide_cells b ((sortR_perm _).mem_iff.mp hr)).2
  · show (sortR (wideE T)).length ≤ 24
    rw [(sortR_perm _).length_eq, wideE, List.length_append, List.length_map, List.length_map]
    have := b.r12
    omega
theorem wideE_nodup (b : Base T) : (wideE T).Nodup := by
  have h1 : ∀ w, (T.rows.map (ins (spot T) w)).Nodup := fun w => by
    refine List.pairwise_map.mpr ?_
    exact List.Pairwise.imp_of_mem (fun ha hb h q => h (ins_inj (b.spr ha) (b.spr hb) q).2) b.g.nr
  refine List.nodup_append.mpr ⟨h1 _, h1 _, fun x hx y hy e => ?_⟩
  obtain ⟨r, hr, rfl⟩ := List.mem_map.mp hx
  obtain ⟨s, hs, e'⟩ := List.mem_map.mp hy
  rw [← e'] at e
  exact absurd (ins_inj (b.spr hr) (b.spr hs) e).1 (by decide)
theorem wide_at (b : Base T) {x w : Str} {r : List Str} (hr : r ∈ T.rows) (hx : x ≠ zoneS) : at_ (wideT T) (ins (spot T) w r) x = at_ T r x := by
  unfold at_
  rw [b.it]
  exact idx_ins hx _ _ _ (b.ok.len r hr).symm b.sp
theorem wide_good (b : Base T) : Good (wideT T) := by
  refine ⟨wideI_sorted, sortR_sorted _, (sortR_perm _).symm.nodup (wideE_nodup b), fun n hn => ?_⟩
  have hx : (wideT T).items[n] ∈ (wideT T).items := List.getElem_mem _
  have hid : (wideT T).items.idxOf ((wideT T).items[n]) = n := (wide_ok b).nd.idxOf_getElem n hn
  generalize (wideT T).items[n] = x at hx hid
  by_cases e : x = zoneS
  · obtain ⟨r, hr⟩ := List.exists_mem_of_ne_nil _ b.nr
    refine ⟨ins (spot T) "near" r, mem_wide.mpr ⟨r, hr, .inl rfl⟩, ins (spot T) "wide" r, mem_wide.mpr ⟨r, hr, .inr rfl⟩, ?_⟩
    rw [← hid, e, b.it, idx_new _ _ b.sp b.nz, ins_at (b.spr hr), ins_at (b.spr hr)]
    decide
  · have hxi : x ∈ T.items := by
      rcases List.mem_append.mp (wideI_perm.mem_iff.mp hx) with q | q
      · exact q
      · exact absurd (List.mem_singleton.mp q) e
    obtain ⟨r, hr, s, hs, hne⟩ := b.g.two _ (List.idxOf_lt_length_of_mem hxi)
    refine ⟨ins (spot T) "near" r, mem_wide.mpr ⟨r, hr, .inl rfl⟩, ins (spot T) "near" s, mem_wide.mpr ⟨s, hs, .inl rfl⟩, ?_⟩
    rw [← hid]
    have h1 := wide_at (w := "near") b hr e
    have h2 := wide_at (w := "near") b hs e
    unfold at_ at h1 h2
    rw [h1, h2]
    exact hne
theorem sp_wd (b : Base T) : m_wd [vT T] S = some (vT (wideT T), S) := by
  have hsp := b.sp
  have h3 := b.i3
  have w_e : ∀ (w : Str) (y3 : Option Val), wd_e w [some (vT T), some (.ptp (sV (wideI T))), some (.int ((spot T : Nat) : Int)), y3, none] S = some (.lst ((T.rows.map (ins (spot T) w)).map vR), S) := fun w y3 => by
    rw [List.map_map]
    exact eLc_all T.rows vR _ (seqT_ev (ixT1 rfl)) fun r hr => ins_ev rfl rfl (b.spr hr) (by rw [b.ok.len r hr]; omega)
  have z1 : sSet 1 (eFn fTupP (es1 (eFn fSortT (es1 (eOp2 fAddP (eOp2 fIx (eVar 0) (eI 0)) (eTup (es1 (eT "zone")))))))) [some (vT T), none, none, none, none] S = some (.nxt, [some (vT T), some (.ptp (sV (wideI T))), none, none, none], S) := by
    refine set_ev (v := .ptp (sV (wideI T))) (fn_ev (vs := [.lst (sV (wideI T))]) (S1 := S) (cons_ev (fn_ev (vs := [.tup (sV (T.items ++ [zoneS]))]) (S1 := S) (cons_ev (op2_ev (x := .ptp (sV T.items)) (y := .tup (sV [zoneS])) (S1 := S) (S2 := S) (ixT0 rfl) (tup_ev (cons_ev con_ev nil_ev)) ?_) nil_ev) fSortT_txt) nil_ev) rfl)
    have hl : (sV T.items).length + (sV [zoneS]).length ≤ sizeLine := by
      rw [List.length_map, List.length_map]
      have := sizes
      have : [zoneS].length = 1 := rfl
      omega
    simp only [fAddP, tupOf, Option.bind_some]
    rw [if_pos hl, ← List.map_append]
  have z2 : sSet 2 (eMeth isP fIdx (eVar 1) (es1 (eT "zone"))) [some (vT T), some (.ptp (sV (wideI T))), none, none, none] S = some (.nxt, [some (vT T), some (.ptp (sV (wideI T))), some (.int ((spot T : Nat) : Int)), none, none], S) := by
    refine set_ev ?_
    have hm : zoneS ∈ wideI T := wideI_perm.mem_iff.mpr (List.mem_append_right _ (List.mem_singleton.mpr rfl))
    have e1 : fIdx S (.ptp (sV (wideI T))) [.str zoneS] = some (.int ((spot T : Nat) : Int), S) := by
      simp only [fIdx, toT_sV, Option.bind_some, hm, if_true]
      rfl
    have e0 : eVar 1 [some (vT T), some (.ptp (sV (wideI T))), none, none, none] S = some (.ptp (sV (wideI T)), S) := var_ev rfl
    have e2 : es1 (eT "zone") [some (vT T), some (.ptp (sV (wideI T))), none, none, none] S = some ([.str zoneS], S) := cons_ev con_ev nil_ev
    simp only [eMeth, e0, Option.bind_some, isP, if_true, e2]
    exact e1
  have z3 : sSet 3 (wd_e "near") [some (vT T), some (.ptp (sV (wideI T))), some (.int ((spot T : Nat) : Int)), none, none] S = some (.nxt, [some (vT T), some (.ptp (sV (wideI T))), some (.int ((spot T : Nat) : Int)), some (.lst ((T.rows.map (ins (spot T) "near")).map vR)), none], S) := set_ev (w_e "near" none)
  have z4 : sSet 3 (eOp2 fAdd (eVar 3) (wd_e "wide")) [some (vT T), some (.ptp (sV (wideI T))), some (.int ((spot T : Nat) : Int)), some (.lst ((T.rows.map (ins (spot T) "near")).map vR)), none] S = some (.nxt, [some (vT T), some (.ptp (sV (wideI T))), some (.int ((spot T : Nat) : Int)), some (.lst ((wideE T).map vR)), none], S) := by
    refine set_ev (op2_ev (x := .lst ((T.rows.map (ins (spot T) "near")).map vR)) (y := .lst ((T.rows.map (ins (spot T) "wide")).map vR)) (S1 := S) (S2 := S) (var_ev rfl) (w_e "wide" _) ?_)
    have hl : ((T.rows.map (ins (spot T) "near")).map vR).length + ((T.rows.map (ins (spot T) "wide")).map vR).length ≤ sizeLine := by
      simp only [List.length_map]
      have := sizes
      have := b.r12
      omega
    have e : fAdd S (.lst ((T.rows.map (ins (spot T) "near")).map vR)) (.lst ((T.rows.map (ins (spot T) "wide")).map vR)) = if ((T.rows.map (ins (spot T) "near")).map vR).length + ((T.rows.map (ins (spot T) "wide")).map vR).length ≤ sizeLine then some (.lst ((T.rows.map (ins (spot T) "near")).map vR ++ (T.rows.map (ins (spot T) "wide")).map vR)) else none := rfl
    rw [e, if_pos hl, ← List.map_append]
    rfl
  refine def_ret (sl := _) rfl (seq_ev z1 (seq_ev z2 (seq_ev z3 (seq_ev z4 (ret_ev (tup_ev (cons_ev (var_ev rfl) (cons_ev (fn_ev (vs := [.lst ((sortR (wideE T)).map vR)]) (S1 := S) (cons_ev (fn_ev (vs := [.lst ((wideE T).map vR)]) (S1 := S) (cons_ev (var_ev rfl) nil_ev) (fSortL_rows fun r hr => wide_cells b hr)) nil_ev) rfl) nil_ev)))))))) 
end K15
namespace K15
open PySem PySem.Spec PyProof.Rows L2 Mp Pilot K5 K13
variable {S : Sto} {T : Tab}
abbrev nearS : Str := "near"
abbrev wideS : Str := "wide"
theorem prsW (b : Base T) {r : List Str} (hr : r ∈ T.rows) {w : Str} {k : NK} : k ∈ prs (wideT T) (ins (spot T) w r) ↔ k ∈ prs T r ∨ k = pK zoneS w := by
  unfold prs
  rw [b.it]
  exact zip_ins _ _ _ (b.ok.len r hr).symm b.sp k
theorem notz (b : Base T) {k : NK} (h : k ∈ allP T) (w : Str) : k ≠ pK zoneS w := fun e => by
  obtain ⟨r, hr, hk⟩ := mem_allP.mp h
  rw [e] at hk
  exact b.nz ((mem_prs b.ok hr).mp hk).1
theorem memW (b : Base T) {k : NK} : k ∈ allP (wideT T) ↔ k ∈ allP T ∨ k = pK zoneS nearS ∨ k = pK zoneS wideS := by
  rw [mem_allP, mem_allP]
  constructor
  · rintro ⟨e, he, hk⟩
    obtain ⟨r, hr, rfl | rfl⟩ := mem_wide.mp he
    · rcases (prsW b hr).mp hk with q | q
      · exact .inl ⟨r, hr, q⟩
      · exact .inr (.inl q)
    · rcases (prsW b hr).mp hk with q | q
      · exact .inl ⟨r, hr, q⟩
      · exact .inr (.inr q)
  · obtain ⟨r0, hr0⟩ := List.exists_mem_of_ne_nil _ b.nr
    rintro (⟨r, hr, hk⟩ | h | h)
    · exact ⟨_, mem_wide.mpr ⟨r, hr, .inl rfl⟩, (prsW b hr).mpr (.inl hk)⟩
    · exact ⟨_, mem_wide.mpr ⟨r0, hr0, .inl rfl⟩, (prsW b hr0).mpr (.inr h)⟩
    · exact ⟨_, mem_wide.mpr ⟨r0, hr0, .inr rfl⟩, (prsW b hr0).mpr (.inr h)⟩
theorem subW (b : Base T) {G : List NK} (h : Sub T G) : Sub (wideT T) G := ⟨fun k hk => (memW b).mpr (.inl (h.sub k hk)), h.few⟩
theorem aliveW (b : Base T) {G : List NK} (hG : Sub T G) {e : List Str} : e ∈ alive (wideT T) G ↔ ∃ r ∈ alive T G, e = ins (spot T) nearS r ∨ e = ins (spot T) wideS r := by
  have key : ∀ (r : List Str) (w : Str), r ∈ T.rows → ((∀ p ∈ prs (wideT T) (ins (spot T) w r), p ∉ G) ↔ ∀ p ∈ prs T r, p ∉ G) := fun r w hr => by
    constructor
    · exact fun h p hp => h p ((prsW b hr).mpr (.inl hp))
    · intro h p hp
      rcases (prsW b hr).mp hp with q | q
      · exact h p q
      · exact fun z => notz b (hG.sub p z) w q
  rw [mem_alive]
  constructor
  · rintro ⟨he, h⟩
    obtain ⟨r, hr, rfl | rfl⟩ := mem_wide.mp he
    · exact ⟨r, mem_alive.mpr ⟨hr, (key r _ hr).mp h⟩, .inl rfl⟩
    · exact ⟨r, mem_alive.mpr ⟨hr, (key r _ hr).mp h⟩, .inr rfl⟩
  · rintro ⟨r, hr, rfl | rfl⟩
    · obtain ⟨h1, h2⟩ := mem_alive.mp hr
      exact ⟨mem_wide.mpr ⟨r, h1, .inl rfl⟩, (key r _ h1).mpr h2⟩
    · obtain ⟨h1, h2⟩ := mem_alive.mp hr
      exact ⟨mem_wide.mpr ⟨r, h1, .inr rfl⟩, (key r _ h1).mpr h2⟩
theorem aliveW_nil (b : Base T) {G : List NK} (hG : Sub T G) : alive (wideT T) G = [] ↔ alive T G = [] := by
  rw [List.eq_nil_iff_forall_not_mem, List.eq_nil_iff_forall_not_mem]
  constructor
  · exact fun h r hr => h _ ((aliveW b hG).mpr ⟨r, hr, .inl rfl⟩)
  · intro h e he
    obtain ⟨r, hr, _⟩ := (aliveW b hG).mp he
    exact h r hr
theorem deadW (b : Base T) {G : List NK} (hG : Sub T G) {k : NK} : k ∈ dead (wideT T) G ↔ k ∈ dead T G ∨ (alive T G = [] ∧ (k = pK zoneS nearS ∨ k = pK zoneS wideS)) := by
  rw [mem_dead, mem_dead, memW b]
  have inrow : ∀ r ∈ alive T G, r ∈ T.rows := fun r hr => (mem_alive.mp hr).1
  constructor
  · rintro ⟨h1, h2⟩
    rcases h1 with h1 | h1
    · exact .inl ⟨h1, fun r hr hk => h2 _ ((aliveW b hG).mpr ⟨r, hr, .inl rfl⟩) ((prsW b (inrow r hr)).mpr (.inl hk))⟩
    · refine .inr ⟨List.eq_nil_iff_forall_not_mem.mpr fun r hr => ?_, h1⟩
      rcases h1 with h1 | h1
      · exact h2 _ ((aliveW b hG).mpr ⟨r, hr, .inl rfl⟩) ((prsW b (inrow r hr)).mpr (.inr h1))
      · exact h2 _ ((aliveW b hG).mpr ⟨r, hr, .inr rfl⟩) ((prsW b (inrow r hr)).mpr (.inr h1))
  · rintro (⟨h1, h2⟩ | ⟨h1, h2⟩)
    · refine ⟨.inl h1, fun e he hk => ?_⟩
      obtain ⟨r, hr, rfl | rfl⟩ := (aliveW b hG).mp he
      · rcases (prsW b (inrow r hr)).mp hk with q | q
        · exact h2 r hr q
        · exact notz b h1 _ q
      · rcases (prsW b (inrow r hr)).mp hk with q | q
        · exact h2 r hr q
        · exact notz b h1 _ q
    · refine ⟨.inr h2, fun e he => ?_⟩
      rw [(aliveW_nil b hG).mpr h1] at he
      exact absurd he List.not_mem_nil
/-! questions -/
theorem cands_sorted (n : Nat) : (cands T n).Pairwise fun a b => txtLe a b = true := List.pairwise_mergeSort (le := txtLe) (fun a b c h1 h2 => keyLe_total.trans (.text a) (.text b) (.text c) h1 h2) (fun a b => by rw [Bool.or_eq_true]; exact keyLe_total.total (.text a) (.text b)) _
theorem itz (b : Base T) {x : Str} (hx : x ∈ T.items) : x ≠ zoneS := fun e => b.nz (by rw [← e]; exact hx)
theorem candsW (b : Base T) {x : Str} (hx : x ∈ T.items) : cands (wideT T) ((wideT T).items.idxOf x) = cands T (T.items.idxOf x) := by
  refine sorted_txt (cands_sorted _) (cands_sorted _) cands_nodup cands_nodup fun c => ?_
  rw [mem_cands, mem_cands]
  constructor
  · rintro ⟨e, he, h⟩
    obtain ⟨r, hr, rfl | rfl⟩ := mem_wide.mp he
    · exact ⟨r, hr, (wide_at b hr (itz b hx)).symm.trans h⟩
    · exact ⟨r, hr, (wide_at b hr (itz b hx)).symm.trans h⟩
  · rintro ⟨r, hr, h⟩
    exact ⟨_, mem_wide.mpr ⟨r, hr, .inl rfl⟩, (wide_at b hr (itz b hx)).trans h⟩
theorem qnW (b : Base T) {x : Str} {C : List Str} (q : Qn T x C) : Qn (wideT T) x C := ⟨wideI_perm.mem_iff.mpr (List.mem_append_left _ q.it), fun c hc => by rw [candsW b q.it]; exact q.ch c hc⟩
theorem strkW (b : Base T) {x : Str} {C : List Str} {y : Bool} (hx : x ∈ T.items) : strk (wideT T) x C y = strk T x C y := by
  unfold strk
  rw [candsW b hx]
theorem paidW (b : Base T) {G : List NK} (hG : Sub T G) {x : Str} {C : List Str} {y : Bool} (hx : x ∈ T.items) : paid (wideT T) G x C y = paid T G x C y := by
  unfold paid
  rw [strkW b hx]
  refine List.filter_congr fun k hk => decide_eq_decide.mpr (not_congr ?_)
  rw [deadW b hG]
  constructor
  · rintro (h | ⟨_, h⟩)
    · exact h
    · have hk' := (strk_sub (b := y) (C := C) b.ok hx).sub k hk
      rcases h with h | h
      · exact absurd h (notz b hk' _)
      · exact absurd h (notz b hk' _)
  · exact .inl
theorem sttW (b : Base T) {G : List NK} (hG : Sub T G) {x : Str} {C : List Str} (hx : x ∈ T.items) : stt (wideT T) G x C = stt T G x C := by
  unfold stt
  rw [paidW b hG hx, paidW b hG hx]
  by_cases h : alive T G = []
  · rw [if_pos h, if_pos ((aliveW_nil b hG).mpr h)]
  · rw [if_neg h, if_neg fun z => h ((aliveW_nil b hG).mp z)]
theorem ansW (b : Base T) {r : List Str} (hr : r ∈ T.rows) {x w : Str} {C : List Str} (hx : x ∈ T.items) : ans (wideT T) (ins (spot T) w r) x C = ans T r x C := by
  unfold ans
  rw [wide_at b hr (itz b hx)]
theorem del_ev {sl : Sl} {i j p : Nat} {r : List Str} (hi : sl[i]? = some (some (vR r))) (hj : sl[j]? = some (some (.int (p : Int)))) (hp : p + 1 ≤ r.length) (hl : r.length ≤ 100) : eOp2 fAdd (eSl (eVar i) oNo (oSo (eVar j))) (eSl (eVar i) (oSo (eOp2 fAdd (eVar j) (eI 1))) oNo) sl S = some (vR (del p r), S) := by
  refine op2_ev (x := .tup (sV (r.take p))) (y := .tup (sV (r.drop (p + 1)))) (S1 := S) (S2 := S) (sl_ev (v := vR r) (lo := none) (hi := some (p : Int)) (S1 := S) (S2 := S) (var_ev hi) rfl (so_ev (var_ev hj)) ?_) (sl_ev (v := vR r) (lo := some ((p : Int) + 1)) (hi := none) (S1 := S) (S2 := S) (var_ev hi) (so_ev (op2_ev (x := .int (p : Int)) (y := .int 1) (var_ev hj) con_ev add_int)) rfl ?_) (add_tups ?_)
  · show some (Val.tup (cutG (sV r) none (some (p : Int)))) = _
    rw [cut_lo (by omega)]
  · show some (Val.tup (cutG (sV r) (some ((p : Int) + 1)) none)) = _
    rw [cut_hi hp]
  · simp only [List.length_take, List.length_drop]; omega
theorem spot_ev (b : Base T) {sl : Sl} {i : Nat} (h : sl[i]? = some (some (vT (wideT T)))) : eMeth isP fIdx (eOp2 fIx (eVar i) (eI 0)) (es1 (eT "zone")) sl S = some (.int ((spot T : Nat) : Int), S) := by
  have hm : zoneS ∈ (wideT T).items := wideI_perm.mem_iff.mpr (List.mem_append_right _ (List.mem_singleton.mpr rfl))
  have e1 : fIdx S (.ptp (sV (wideT T).items)) [.str zoneS] = some (.int ((spot T : Nat) : Int), S) := by
    simp only [fIdx, toT_sV, Option.bind_some, hm, if_true]
    rfl
  have e0 : eOp2 fIx (eVar i) (eI 0) sl S = some (.ptp (sV (wideT T).items), S) := ixT0 h
  have e2 : es1 (eT "zone") sl S = some ([.str zoneS], S) := cons_ev con_ev nil_ev
  simp only [eMeth, e0, Option.bind_some, isP, if_true, e2]
  exact e1
theorem none_fine : Fine (txt "none") := ⟨by decide +kernel, by simp [NestedKey.depth]⟩
theorem open_fine : Fine (txt "open") := ⟨by decide +kernel, by simp [NestedKey.depth]⟩
theorem stt_cases (T : Tab) (G : List NK) (x : Str) (C : List Str) : stt T G x C = "none" ∨ stt T G x C = "yes" ∨ stt T G x C = "no" ∨ stt T G x C = "open" := by
  unfold stt
  split
  · exact .inl rfl
  · split
    · exact .inr (.inl rfl)
    · split
      · exact .inr (.inr (.inl rfl))
      · exact .inr (.inr (.inr rfl))
theorem stt_fine {G : List NK} {x : Str} {C : List Str} : Fine (txt (stt T G x C)) := by
  rcases stt_cases T G x C with e | e | e | e <;> rw [e] <;> exact ⟨by decide +kernel, by simp [NestedKey.depth]⟩
abbrev cwqS (T : Tab) (G : List NK) (x : Str) (C : List Str) (y5 y6 y7 y8 : Option Val) : Sl := [some (vT T), some (gV G), some (vT (wideT T)), some (.str x), some (.tup (sV C)), y5, y6, y7, y8]
theorem sp_cwq (b : Base T) {G : List NK} {x : Str} {C : List Str} (hG : Sub T G) (q : Qn T x C) : m_cwq [vT T, gV G, vT (wideT T), .str x, .tup (sV C)] S = some (.bl true, S) := by
  have okW := wide_ok b
  have qW := qnW b q
  have hGW := subW b hG
  have z1 : cwq_1 (cwqS T G x C none none none none) S = some (.nxt, cwqS T G x C (some (.int ((spot T : Nat) : Int))) none none none, S) := set_ev (spot_ev b rfl)
  have z2 : cwq_2 (cwqS T G x C (some (.int ((spot T : Nat) : Int))) none none none) S = some (.nxt, cwqS T G x C (some (.int ((spot T : Nat) : Int))) none none none, S) := by
    refine if_f (S1 := S) (tru_ev (op2_ev (x := .str (stt (wideT T) G x C)) (y := .str (stt T G x C)) (S1 := S) (S2 := S) (call_ev (vs := [vT (wideT T), gV G, .str x, .tup (sV C)]) (cons_ev (var_ev rfl) (cons_ev (var_ev rfl) (cons_ev (var_ev rfl) (cons_ev (var_ev rfl) nil_ev)))) (sp_fa okW hGW qW)) (call_ev (vs := [vT T, gV G, .str x, .tup (sV C)]) (cons_ev (var_ev rfl) (cons_ev (var_ev rfl) (cons_ev (var_ev rfl) (cons_ev (var_ev rfl) nil_ev)))) (sp_fa b.ok hG q)) ?_)) skip_ev
    rw [sttW b hG q.it, fEq_str stt_fine stt_fine, decide_eq_true rfl]
    rfl
  have z3 : ∀ (y : Bool) (y6 y7 y8 : Option Val), cwq_3 (cwqS T G x C (some (.int ((spot T : Nat) : Int))) (some (.str (yn y))) y7 y8) S = some (.nxt, cwqS T G x C (some (.int ((spot T : Nat) : Int))) (some (.str (yn y))) y7 y8, S) := fun y y6 y7 y8 => by
    have hp := paid_sub (G := G) (b := y) (C := C) b.ok q.it
    refine if_f (S1 := S) (tru_ev (op2_ev (x := gV (paid (wideT T) G x C y)) (y := gV (paid T G x C y)) (S1 := S) (S2 := S) (call_ev (vs := [vT (wideT T), gV G, .str x, .tup (sV C), .str (yn y)]) (cons_ev (var_ev rfl) (cons_ev (var_ev rfl) (cons_ev (var_ev rfl) (cons_ev (var_ev rfl) (cons_ev (var_ev rfl) nil_ev))))) (sp_paid okW hGW qW)) (call_ev (vs := [vT T, gV G, .str x, .tup (sV C), .str (yn y)]) (cons_ev (var_ev rfl) (cons_ev (var_ev rfl) (cons_ev (var_ev rfl) (cons_ev (var_ev rfl) (cons_ev (var_ev rfl) nil_ev))))) (sp_paid b.ok hG q)) ?_)) skip_ev
    rw [paidW b hG q.it, eq_gV (hp.pr b.ok) (hp.pr b.ok), decide_eq_true rfl]
    rfl
  have hit : iSeq eYN (cwqS T G x C (some (.int ((spot T : Nat) : Int))) none none none) S = some (⟨[.str (yn true), .str (yn false)], none⟩, S) := seqT_ev (tup_ev (cons_ev con_ev (cons_ev con_ev nil_ev)))
  obtain ⟨sl', S', e, rfl, y7, y8, rfl⟩ := for_inv (tg := gNm 7) (s := ⟨(wideT T).rows.map vR, none⟩) (body := sSeq cwq_4 cwq_5) (fun sl S' => S' = S ∧ ∃ y7 y8, sl = cwqS T G x C (some (.int ((spot T : Nat) : Int))) (some (.str (yn false))) y7 y8) rfl vR (wideT T).rows (sl := cwqS T G x C (some (.int ((spot T : Nat) : Int))) (some (.str (yn false))) none none) (S := S)
    (fun e he sl S' h => by
      obtain ⟨rfl, y7, y8, rfl⟩ := h
      obtain ⟨w, r, hr, rfl⟩ : ∃ w r, r ∈ T.rows ∧ e = ins (spot T) w r := by
        obtain ⟨r, hr, h | h⟩ := mem_wide.mp he
        · exact ⟨_, r, hr, h⟩
        · exact ⟨_, r, hr, h⟩
      have hl := ins_len (w := w) (b.spr hr)
      have hrl := b.ok.len r hr
      have h3 := b.i3
      have hsp := b.sp
      refine ⟨_, cwqS T G x C (some (.int ((spot T : Nat) : Int))) (some (.str (yn false))) (some (vR (ins (spot T) w r))) (some (vR r)), S', rfl, seq_ev (set_ev (v := vR r) (S1 := S') ?_) (if_f (S1 := S') (tru_ev (op2_ev (x := .str (yn (ans T r x C))) (y := .str (yn (ans T r x C))) (S1 := S') (S2 := S') ?_ (call_ev (vs := [vT T, vR r, .str x, .tup (sV C)]) (cons_ev (var_ev rfl) (cons_ev (var_ev rfl) (cons_ev (var_ev rfl) (cons_ev (var_ev rfl) nil_ev)))) (sp_ain b.ok hr q)) (by rw [fEq_str (str_fine _) (str_fine _), decide_eq_true rfl]; rfl))) skip_ev), rfl, _, _, rfl⟩
      · have e := del_ev (S := S') (sl := cwqS T G x C (some (.int ((spot T : Nat) : Int))) (some (.str (yn false))) (some (vR (ins (spot T) w r))) y8) (i := 7) (j := 5) (p := spot T) (r := ins (spot T) w r) rfl rfl (by omega) (by omega)
        rw [del_ins _ _ (b.spr hr)] at e
        exact e
      · refine call_ev (vs := [vT (wideT T), vR (ins (spot T) w r), .str x, .tup (sV C)]) (cons_ev (var_ev rfl) (cons_ev (var_ev rfl) (cons_ev (var_ev rfl) (cons_ev (var_ev rfl) nil_ev)))) ?_
        rw [sp_ain okW he qW, ansW b hr q.it]) ⟨rfl, none, none, rfl⟩
  exact def_ret (sl := _) rfl (seq_ev z1 (seq_ev z2 (seq_ev (for_ev hit (for_nxt rfl rfl (z3 true none none none) (for_nxt rfl rfl (z3 false none none none) (for_nil rfl)))) (seq_ev (for_ev (s := ⟨(wideT T).rows.map vR, none⟩) (S1 := S') (seqT_ev (ixT1 rfl)) e) (ret_ev con_ev)))))
end K15
namespace K15
open PySem PySem.Spec PyProof.Rows L2 Mp Pilot K5 K13
variable {S : Sto} {T : Tab}
theorem lst_depth {a : List NK} (h : Fine (.tup a)) : (PyData.list (NestedKey.datas a)).depth ≤ 64 := by
  have q := h.2
  rw [← data_depth] at q
  simp only [NestedKey.data, PyData.depth] at q ⊢
  omega
theorem eq_self {a : List NK} (hf : ∀ k ∈ a, Fine k) (h : Fine (.tup a)) : fEq true S (.lst (ofKs a)) (.lst (ofKs a)) = some (.bl false) := by
  rw [fEq_lst hf hf (lst_depth h), decide_eq_true rfl]
  rfl
abbrev fr : List NK := [pK zoneS nearS, pK zoneS wideS]
theorem fr_sub (b : Base T) : Sub (wideT T) fr := ⟨fun k hk => by
  rcases List.mem_cons.mp hk with rfl | hk
  · exact (memW b).mpr (.inr (.inl rfl))
  · rw [List.mem_singleton] at hk
    exact (memW b).mpr (.inr (.inr hk)), by decide⟩
theorem n_sub (b : Base T) : Sub (wideT T) [pK zoneS nearS] := ⟨fun k hk => by
  rw [List.mem_singleton] at hk
  exact (memW b).mpr (.inr (.inl hk)), by decide⟩
theorem pick (b : Base T) {G : List NK} (hG : Sub T G) {one : Str} (ho : one = nearS ∨ one = wideS) : ((alive (wideT T) G).filter fun e => decide (e.getD (spot T) nox = one)) = (alive T G).map (ins (spot T) one) := by
  have hr : ∀ r ∈ alive T G, r ∈ T.rows := fun r h => (mem_alive.mp h).1
  have sub : List.Sublist (alive T G) T.rows := List.filter_sublist
  have subW' : List.Sublist (alive (wideT T) G) (wideT T).rows := List.filter_sublist
  have gW := wide_good b
  refine sorted_rows ((gW.sr.sublist subW').filter _) (List.pairwise_map.mpr ?_) ((gW.nr.sublist subW').filter _) (List.pairwise_map.mpr ?_) fun e => ?_
  · exact List.Pairwise.imp_of_mem (fun ha hb h => by rw [ins_mono _ _ _ (b.spr (hr _ ha)) (b.spr (hr _ hb))]; exact h) (b.g.sr.sublist sub)
  · exact List.Pairwise.imp_of_mem (fun ha hb h q => h (ins_inj (b.spr (hr _ ha)) (b.spr (hr _ hb)) q).2) (b.g.nr.sublist sub)
  · rw [List.mem_filter, List.mem_map, aliveW b hG, decide_eq_true_eq]
    have nw : nearS ≠ wideS := by decide
    constructor
    · rintro ⟨⟨r, h, rfl | rfl⟩, h2⟩
      · rw [ins_at (b.spr (hr r h))] at h2
        exact ⟨r, h, by rw [← h2]⟩
      · rw [ins_at (b.spr (hr r h))] at h2
        exact ⟨r, h, by rw [← h2]⟩
    · rintro ⟨r, h, rfl⟩
      refine ⟨⟨r, h, ?_⟩, ins_at (b.spr (hr r h))⟩
      rcases ho with rfl | rfl
      · exact .inl rfl
      · exact .inr rfl
theorem breaksW (b : Base T) {G M : List NK} (hG : Sub T G) (hM : Sub T M) : breaks (wideT T) G M = breaks T G M := by
  unfold breaks
  rw [← alive_join, ← alive_join (T := T)]
  exact decide_eq_decide.mpr (aliveW_nil b (hG.join b.ok hM))
theorem breaks_fr (b : Base T) {G : List NK} : breaks (wideT T) G fr = true := by
  unfold breaks
  refine decide_eq_true (List.eq_nil_iff_forall_not_mem.mpr fun e he => ?_)
  obtain ⟨h1, h2⟩ := mem_alive.mp he
  obtain ⟨r, hr, rfl | rfl⟩ := mem_wide.mp h1
  · exact h2 _ ((prsW b hr).mpr (.inr rfl)) (List.mem_append_right _ List.mem_cons_self)
  · exact h2 _ ((prsW b hr).mpr (.inr rfl)) (List.mem_append_right _ (List.mem_cons_of_mem _ List.mem_cons_self))
theorem breaks_n (b : Base T) {G : List NK} (hG : Sub T G) : breaks (wideT T) G [pK zoneS nearS] = decide (alive (wideT T) G = []) := by
  unfold breaks
  refine decide_eq_decide.mpr ?_
  rw [aliveW_nil b hG]
  constructor
  · intro h
    refine List.eq_nil_iff_forall_not_mem.mpr fun r hr => ?_
    obtain ⟨h1, h2⟩ := mem_alive.mp hr
    have : ins (spot T) wideS r ∈ alive (wideT T) (G ++ [pK zoneS nearS]) := by
      refine mem_alive.mpr ⟨mem_wide.mpr ⟨r, h1, .inr rfl⟩, fun p hp hin => ?_⟩
      rcases (prsW b h1).mp hp with q | q
      · rcases List.mem_append.mp hin with z | z
        · exact h2 p q z
        · rw [List.mem_singleton] at z
          exact notz b (mem_allP.mpr ⟨r, h1, q⟩) _ z
      · rcases List.mem_append.mp hin with z | z
        · exact notz b (hG.sub p z) _ q
        · rw [List.mem_singleton] at z
          exact absurd (pK_inj (z.symm.trans q)).2 (by decide)
    rw [h] at this
    exact List.not_mem_nil this
  · intro h
    refine List.eq_nil_iff_forall_not_mem.mpr fun e he => ?_
    obtain ⟨h1, h2⟩ := mem_alive.mp he
    have : e ∈ alive (wideT T) G := mem_alive.mpr ⟨h1, fun p hp z => h2 p hp (List.mem_append_left _ z)⟩
    rw [(aliveW_nil b hG).mpr h] at this
    exact List.not_mem_nil this
theorem idxZ (b : Base T) : (wideT T).items.idxOf zoneS = spot T := rfl
theorem qnZ (b : Base T) : Qn (wideT T) zoneS [nearS] := by
  refine ⟨wideI_perm.mem_iff.mpr (List.mem_append_right _ (List.mem_singleton.mpr rfl)), fun c hc => ?_⟩
  rw [List.mem_singleton] at hc
  subst hc
  obtain ⟨r, hr⟩ := List.exists_mem_of_ne_nil _ b.nr
  exact mem_cands.mpr ⟨_, mem_wide.mpr ⟨r, hr, .inl rfl⟩, ins_at (b.spr hr)⟩
theorem ansZ (b : Base T) {r : List Str} (hr : r ∈ T.rows) {w : Str} : ans (wideT T) (ins (spot T) w r) zoneS [nearS] = decide (w = nearS) := by
  unfold ans at_
  rw [idxZ b, ins_at (b.spr hr)]
  exact decide_eq_decide.mpr List.mem_singleton
theorem stt_zone (b : Base T) {G : List NK} (hG : Sub T G) : stt (wideT T) G zoneS [nearS] = if alive (wideT T) G = [] then ("none" : Str) else ("open" : Str) := by
  unfold stt
  by_cases h : alive (wideT T) G = []
  · rw [if_pos h, if_pos h]
  · rw [if_neg h, if_neg h]
    have hT : alive T G ≠ [] := fun z => h ((aliveW_nil b hG).mpr z)
    obtain ⟨r, hr⟩ := List.exists_mem_of_ne_nil _ hT
    have hrow := (mem_alive.mp hr).1
    have hz := (qnZ b).it
    rw [if_neg, if_neg]
    · intro z
      have := (paid_nil (wide_ok b) hz).mp z _ ((aliveW b hG).mpr ⟨r, hr, .inl rfl⟩)
      rw [ansZ b hrow] at this
      exact absurd this (by decide)
    · intro z
      have := (paid_nil (wide_ok b) hz).mp z _ ((aliveW b hG).mpr ⟨r, hr, .inr rfl⟩)
      rw [ansZ b hrow] at this
      exact absurd this (by decide)
theorem dead_sorted {G : List NK} : (dead T G).Pairwise fun a b => keyLe a b = true := (keyLe_sorted (allP T)).filter _
theorem dead_nodup {G : List NK} : (dead T G).Nodup := (nodup_sortKeys (allP T)).filter _
theorem dead_wide (b : Base T) {G : List NK} (hG : Sub T G) : dead (wideT T) G = if alive (wideT T) G = [] then (dead T G ++ fr).mergeSort keyLe else dead T G := by
  have okW := wide_ok b
  have prW : ∀ k ∈ dead (wideT T) G, Pr k := (dead_sub okW).pr okW
  have prF : ∀ k ∈ fr, Pr k := (fr_sub b).pr okW
  have prT : ∀ k ∈ dead T G, Pr k := (dead_sub b.ok).pr b.ok
  by_cases h : alive (wideT T) G = []
  · rw [if_pos h]
    have hT := (aliveW_nil b hG).mp h
    have pe := List.mergeSort_perm (dead T G ++ fr) keyLe
    have nd : (dead T G ++ fr).Nodup := by
      refine List.nodup_append.mpr ⟨dead_nodup, ?_, fun x hx y hy e => ?_⟩
      · refine List.nodup_cons.mpr ⟨fun q => ?_, by simp⟩
        rw [List.mem_singleton] at q
        exact absurd (pK_inj q).2 (by decide)
      · have hx' := (dead_sub b.ok).sub x hx
        rcases List.mem_cons.mp hy with q | q
        · exact notz b hx' _ (e.trans q)
        · rw [List.mem_singleton] at q
          exact notz b hx' _ (e.trans q)
    refine sorted_ext (fun x hx y hy => alike_pr (prW x hx) ?_) dead_sorted (List.pairwise_mergeSort keyLe_total.trans (fun a b => by rw [Bool.or_eq_true]; exact keyLe_total.total a b) _) dead_nodup (pe.symm.nodup nd) fun k => ?_
    · exact (List.mem_append.mp (pe.mem_iff.mp hy)).elim (prT y) (prF y)
    · rw [pe.mem_iff, deadW b hG, List.mem_append]
      have : k ∈ fr ↔ k = pK zoneS nearS ∨ k = pK zoneS wideS := by rw [List.mem_cons, List.mem_singleton]
      rw [this]
      simp [hT]
  · rw [if_neg h]
    refine sorted_ext (fun x hx y hy => alike_pr (prW x hx) (prT y hy)) dead_sorted dead_sorted dead_nodup dead_nodup fun k => ?_
    rw [deadW b hG]
    constructor
    · rintro (q | ⟨q, _⟩)
      · exact q
      · exact absurd ((aliveW_nil b hG).mpr q) h
    · exact .inl
abbrev cwS (T : Tab) (G M : List NK) (y4 y5 y6 y7 y9 : Option Val) : Sl := [some (vT T), some (gV G), some (vT (wideT T)), some (gV M), y4, y5, y6, y7, none, y9]
theorem sp_cw (b : Base T) {G M : List NK} (hG : Sub T G) (hM : Sub T M) : m_cw [vT T, gV G, vT (wideT T), gV M] S = some (.bl true, S) := by
  have okW := wide_ok b
  have hGW := subW b hG
  have hMW := subW b hM
  have h3 := b.i3
  have hsp := b.sp
  let sp : Option Val := some (.int ((spot T : Nat) : Int))
  let al : Option Val := some (.tup ((alive (wideT T) G).map vR))
  have z1 : cw_1 (cwS T G M none none none none none) S = some (.nxt, cwS T G M sp (some (gV fr)) none none none, S) :=
    asg_ev (tg := gTp [4, 5]) (v := .tup [.int ((spot T : Nat) : Int), gV fr]) (S1 := S) (tup_ev (cons_ev (spot_ev b rfl) (cons_ev (tup_ev (cons_ev (tup_ev (cons_ev con_ev (cons_ev con_ev nil_ev))) (cons_ev (tup_ev (cons_ev con_ev (cons_ev con_ev nil_ev))) nil_ev))) nil_ev))) rfl
  have z2 : cw_2 (cwS T G M sp (some (gV fr)) none none none) S = some (.nxt, cwS T G M sp (some (gV fr)) al none none, S) := set_ev (call_ev (vs := [vT (wideT T), gV G]) (cons_ev (var_ev rfl) (cons_ev (var_ev rfl) nil_ev)) (sp_alive okW hGW.sub))
  have z3 : ∀ (one : Str) (y9 : Option Val), one = nearS ∨ one = wideS → sIf (tTru (eOp2 (fEq true) cw_lc (eFn fLstOf (es1 (eCall m_alive (es2 (eVar 0) (eVar 1))))))) sNo sSkip (cwS T G M sp (some (gV fr)) al (some (.str one)) y9) S = some (.nxt, cwS T G M sp (some (gV fr)) al (some (.str one)) y9, S) := fun one y9 ho => by
    refine if_f (S1 := S) (tru_ev (op2_ev (x := .lst ((alive T G).map vR)) (y := .lst ((alive T G).map vR)) (S1 := S) (S2 := S) ?_ (fn_ev (vs := [.tup ((alive T G).map vR)]) (S1 := S) (cons_ev (call_ev (vs := [vT T, gV G]) (cons_ev (var_ev rfl) (cons_ev (var_ev rfl) nil_ev)) (sp_alive b.ok hG.sub)) nil_ev) rfl) ?_)) skip_ev
    · have e := eLc_pure (i := 8) (it := iSeq (eVar 6)) (tt := tTru (eOp2 (fEq false) (eOp2 fIx (eVar 8) (eVar 4)) (eVar 7))) (m := eOp2 fAdd (eSl (eVar 8) oNo (oSo (eVar 4))) (eSl (eVar 8) (oSo (eOp2 fAdd (eVar 4) (eI 1))) oNo)) (vs := [8]) (sl := cwS T G M sp (some (gV fr)) al (some (.str one)) y9) (S := S) (alive (wideT T) G) vR (fun e => decide (e.getD (spot T) nox = one)) (fun e => vR (del (spot T) e)) (seqT_ev (var_ev rfl))
        (fun e he => by
          have hrow := (mem_alive.mp he).1
          have hl := okW.len e hrow
          rw [b.it, ins_len b.sp] at hl
          have hin : e.getD (spot T) nox ∈ wideW := okW.wd e hrow _ (by rw [List.getD_eq_getElem?_getD, List.getElem?_eq_getElem (show spot T < e.length by omega)]; exact List.getElem_mem _)
          refine tru_ev (op2_ev (x := .str (e.getD (spot T) nox)) (y := .str one) (op2_ev (x := vR e) (y := .int ((spot T : Nat) : Int)) (var_ev rfl) (var_ev rfl) (show L2.atI (sV e) ((spot T : Nat) : Int) = _ from atI_str (by omega))) (var_ev rfl) ?_)
          rw [fEq_str (txt_fine hin) (txt_fine (by rcases ho with rfl | rfl <;> decide)), Bool.false_xor])
        fun e he _ => by
          have hrow := (mem_alive.mp he).1
          have hl := okW.len e hrow
          rw [b.it, ins_len b.sp] at hl
          exact del_ev rfl rfl (by omega) (by omega)
      rw [pick b hG ho, List.map_map] at e
      have e2 : ((alive T G).map ((fun e => vR (del (spot T) e)) ∘ ins (spot T) one)) = (alive T G).map vR := List.map_congr_left fun r hr => by
        show vR (del (spot T) (ins (spot T) one r)) = vR r
        rw [del_ins _ _ (b.spr (mem_alive.mp hr).1)]
      rw [e2] at e
      exact e
    · rw [← ofKs_rows]
      exact eq_self (fun k hk => rows_fine b.ok hk) (rows_fineT b.ok G)
  have hit : iSeq (eTup (es2 (eT "near") (eT "wide"))) (cwS T G M sp (some (gV fr)) al none none) S = some (⟨[.str nearS, .str wideS], none⟩, S) := seqT_ev (tup_ev (cons_ev con_ev (cons_ev con_ev nil_ev)))
  let on : Option Val := some (.str wideS)
  have z4 : cw_4 (cwS T G M sp (some (gV fr)) al on none) S = some (.nxt, cwS T G M sp (some (gV fr)) al on (some (gV (dead T G))), S) := set_ev (ev_de b.ok hG rfl rfl)
  have no : cw_none (cwS T G M sp (some (gV fr)) al on (some (gV (dead T G)))) S = some (decide (alive (wideT T) G = []), S) := tru_ev (op2_ev (x := .tup ((alive (wideT T) G).map vR)) (y := .tup []) (S1 := S) (S2 := S) (var_ev rfl) (tup_ev nil_ev) (by rw [rows_nil okW, Bool.false_xor]))
  have hDW := dead_sub (G := G) okW
  have hD := dead_sub (G := G) b.ok
  have z5 : cw_5 (cwS T G M sp (some (gV fr)) al on (some (gV (dead T G)))) S = some (.nxt, cwS T G M sp (some (gV fr)) al on (some (gV (dead T G))), S) := by
    refine if_f (S1 := S) (tru_ev (op2_ev (x := gV (dead (wideT T) G)) (y := gV (dead (wideT T) G)) (S1 := S) (S2 := S) (call_ev (vs := [vT (wideT T), gV G]) (cons_ev (var_ev rfl) (cons_ev (var_ev rfl) nil_ev)) (sp_dead okW hGW.sub)) ?_ (by rw [eq_gV (hDW.pr okW) (hDW.pr okW), decide_eq_true rfl]; rfl))) skip_ev
    have dw := dead_wide b hG
    by_cases h : alive (wideT T) G = []
    · rw [if_pos h] at dw
      rw [decide_eq_true h] at no
      refine ifE_t no (fn_ev (vs := [.lst (ofKs (dead (wideT T) G))]) (S1 := S) (cons_ev (fn_ev (vs := [gV (dead T G ++ fr)]) (S1 := S) (cons_ev (op2_ev (x := gV (dead T G)) (y := gV fr) (S1 := S) (S2 := S) (var_ev rfl) (var_ev rfl) (add_gV (by have := hD.few; have : fr.length = 2 := rfl; omega))) nil_ev) ?_) nil_ev) rfl)
      have hp : ∀ k ∈ dead T G ++ fr, Pr k := fun k hk => (List.mem_append.mp hk).elim (hD.pr b.ok k) ((fr_sub b).pr okW k)
      show ((toKs (ofKs (dead T G ++ fr))).bind fun ks => if sortOk ks = true then some (Val.lst (ofKs (ks.mergeSort keyLe))) else none) = _
      rw [toKs_ofKs, Option.bind_some, sort_pr hp, if_pos rfl, dw]
    · rw [if_neg h] at dw
      rw [decide_eq_false h] at no
      rw [dw]
      exact ifE_f no (var_ev rfl)
  generalize hsl : cwS T G M sp (some (gV fr)) al on (some (gV (dead T G))) = sl at z4 z5 no
  have brk : ∀ (i : Nat) (U : Tab) (a : ME) (K : List NK), U.Ok → Sub U G → Sub U K → sl[i]? = some (some (vT U)) → a sl S = some (gV K, S) → cw_br (eVar i) (eVar 1) a sl S = some (.bl (breaks U G K), S) := fun i U a K okU hGU hKU h0 h1 => call_ev (vs := [vT U, gV G, gV K]) (cons_ev (var_ev h0) (cons_ev (var_ev (by subst hsl; rfl)) (cons_ev h1 nil_ev))) (sp_break okU hGU.sub hKU.sub (by have := hGU.few; have := hKU.few; omega))
  have z6 : cw_6 sl S = some (.nxt, sl, S) := if_f (S1 := S) (tru_ev (op2_ev (x := .bl (breaks (wideT T) G M)) (y := .bl (breaks T G M)) (S1 := S) (S2 := S) (brk 2 (wideT T) (eVar 3) M okW hGW hMW (by subst hsl; rfl) (var_ev (by subst hsl; rfl))) (brk 0 T (eVar 3) M b.ok hG hM (by subst hsl; rfl) (var_ev (by subst hsl; rfl))) (fEq_flag (breaksW b hG hM)))) skip_ev
  have z7 : cw_7 sl S = some (.nxt, sl, S) := by
    refine if_f (S1 := S) (tru_ev (op2_ev (x := .bl (breaks (wideT T) G fr)) (y := .bl true) (S1 := S) (S2 := S) (brk 2 (wideT T) (eVar 5) fr okW hGW (fr_sub b) (by subst hsl; rfl) (var_ev (by subst hsl; rfl))) con_ev ?_)) skip_ev
    rw [breaks_fr b]
    rfl
  have nilW : eOp2 (fEq false) (eVar 6) (eTup esNil) sl S = some (.bl (decide (alive (wideT T) G = [])), S) := op2_ev (x := .tup ((alive (wideT T) G).map vR)) (y := .tup []) (S1 := S) (S2 := S) (var_ev (by subst hsl; rfl)) (tup_ev nil_ev) (by rw [rows_nil okW, Bool.false_xor])
  have z8 : cw_8 sl S = some (.nxt, sl, S) := by
    refine if_f (S1 := S) (tru_ev (op2_ev (x := .bl (breaks (wideT T) G [pK zoneS nearS])) (y := .bl (decide (alive (wideT T) G = []))) (S1 := S) (S2 := S) (brk 2 (wideT T) _ [pK zoneS nearS] okW hGW (n_sub b) (by subst hsl; rfl) ?_) nilW (fEq_flag (breaks_n b hG)))) skip_ev
    exact sl_ev (v := gV fr) (lo := none) (hi := some 1) (S1 := S) (S2 := S) (var_ev (by subst hsl; rfl)) rfl (so_ev con_ev) rfl
  have z9 : cw_9 sl S = some (.ret (.bl true), sl, S) := by
    refine ret_ev (op2_ev (x := .str (stt (wideT T) G zoneS [nearS])) (y := .str (stt (wideT T) G zoneS [nearS])) (S1 := S) (S2 := S) (call_ev (vs := [vT (wideT T), gV G, .str zoneS, .tup (sV [nearS])]) (cons_ev (var_ev (by subst hsl; rfl)) (cons_ev (var_ev (by subst hsl; rfl)) (cons_ev con_ev (cons_ev (tup_ev (cons_ev con_ev nil_ev)) nil_ev)))) (sp_fa okW hGW (qnZ b))) ?_ (by rw [fEq_str stt_fine stt_fine, decide_eq_true rfl]; rfl))
    have e := stt_zone b hG
    by_cases h : alive (wideT T) G = []
    · rw [if_pos h] at e
      rw [decide_eq_true h] at no
      rw [e]
      exact ifE_t no con_ev
    · rw [if_neg h] at e
      rw [decide_eq_false h] at no
      rw [e]
      exact ifE_f no con_ev
  subst hsl
  exact def_ret (sl := _) rfl (seq_ev z1 (seq_ev z2 (seq_ev (for_ev hit (for_nxt rfl rfl (z3 nearS none (.inl rfl)) (for_nxt rfl rfl (z3 wideS none (.inr rfl)) (for_nil rfl)))) (seq_ev z4 (seq_ev z5 (seq_ev z6 (seq_ev z7 (seq_ev z8 z9))))))))
end K15
namespace K15
open PySem PySem.Spec PyProof.Rows L2 Mp Pilot K5 K13
variable {S : Sto} {T : Tab} {G : List NK}
/-! ### the table that is left -/
abbrev colL (T : Tab) (G : List NK) (k : Nat) : List Str := (alive T G).map fun r => r.getD k nox
def spots (T : Tab) (G : List NK) : List Nat := (List.range T.items.length).filter fun k => decide ((1 : Int) < ((uniqT (colL T G k)).length : Int))
def sel (T : Tab) (G : List NK) (r : List Str) : List Str := (spots T G).map fun k => r.getD k nox
def cutT (T : Tab) (G : List NK) : Tab := ⟨sel T G T.items, sortR ((alive T G).map (sel T G))⟩
theorem mem_spots {k : Nat} : k ∈ spots T G ↔ k < T.items.length ∧ (1 : Int) < ((uniqT (colL T G k)).length : Int) := by
  rw [spots, List.mem_filter, List.mem_range, decide_eq_true_eq]
theorem int_lst {neg : Bool} {l : List Int} : fEq neg S (.lst (l.map Val.int)) (.lst []) = some (.bl (neg ^^ decide (l = []))) := by
  have e : eqOk (.list (l.map PyData.int)) (.list []) = true := by
    unfold eqOk
    have : (PyData.list []).depth ≤ 1 := by simp [PyData.depth, PyData.depthAll]
    simp only [PyData.canLay0, canLay_ints, PyData.canLayAll0, Bool.true_and, decide_eq_true_eq]
    omega
  have d1 : toDS S (.lst (l.map Val.int)) = some (.list (l.map PyData.int)) := by
    show (toDs (l.map Val.int)).map PyData.list = _
    rw [toDs_int]; rfl
  have d2 : toDS S (.lst []) = some (.list []) := rfl
  simp only [fEq, d1, d2, Option.bind_some, e, if_true]
  cases l with
  | nil => simp [PyData.eqv, PyData.eqvAll]
  | cons c cs => simp [PyData.eqv, PyData.eqvAll]
abbrev intsV (l : List Nat) : List Val := l.map fun k : Nat => Val.int (k : Int)
theorem intsV_eq (l : List Nat) : intsV l = (l.map fun k : Nat => (k : Int)).map Val.int := by rw [List.map_map]; rfl
theorem sel_cells (ok : T.Ok) {r : List Str} (hr : r ∈ T.rows) : (sel T G r).length = (spots T G).length ∧ ∀ c ∈ sel T G r, c ∈ wideW := by
  refine ⟨List.length_map .., fun c hc => ?_⟩
  obtain ⟨k, hk, rfl⟩ := List.mem_map.mp hc
  have h := (mem_spots.mp hk).1
  exact ok.wd r hr _ (by rw [List.getD_eq_getElem?_getD, List.getElem?_eq_getElem (show k < r.length by rw [ok.len r hr]; exact h)]; exact List.getElem_mem _)
theorem arow {r : List Str} (h : r ∈ alive T G) : r ∈ T.rows := (mem_alive.mp h).1
abbrev lfS (T : Tab) (G : List NK) (y2 y3 y4 : Option Val) : Sl := [some (vT T), some (gV G), y2, y3, y4, none, none]
theorem left_front (ok : T.Ok) (hG : Sub T G) : ∀ r, sSeq left_3 (sSeq (sSet 4 left_hd) (sRet (eTup (es2 (eVar 4) left_rw)))) (lfS T G (some (.tup ((alive T G).map vR))) (some (.lst (intsV (spots T G)))) none) S = r → b_left (lfS T G none none none) S = r := fun r h => by
  refine seq_ev (sl1 := lfS T G (some (.tup ((alive T G).map vR))) none none) (S1 := S) (set_ev (call_ev (vs := [vT T, gV G]) (cons_ev (var_ev rfl) (cons_ev (var_ev rfl) nil_ev)) (sp_alive ok hG.sub))) (seq_ev (sl1 := lfS T G (some (.tup ((alive T G).map vR))) (some (.lst (intsV (spots T G)))) none) (S1 := S) (set_ev ?_) h)
  have hit : iRng1M (eFn fLen (es1 (eOp2 fIx (eVar 0) (eI 0)))) (lfS T G (some (.tup ((alive T G).map vR))) none none) S = some (⟨intsV (List.range T.items.length), none⟩, S) := by
    have e := rng_ev (m := eFn fLen (es1 (eOp2 fIx (eVar 0) (eI 0)))) (sl := lfS T G (some (.tup ((alive T G).map vR))) none none) (S := S) (S1 := S) (n := T.items.length) (fn_ev (vs := [.ptp (sV T.items)]) (cons_ev (ixT0 rfl) nil_ev) len_ptp) (by have := items_len ok; omega)
    rw [rng_map] at e
    exact e
  refine eLc_pure (List.range T.items.length) (fun k : Nat => Val.int (k : Int)) (fun k => decide ((1 : Int) < ((uniqT (colL T G k)).length : Int))) (fun k : Nat => Val.int (k : Int)) hit (fun k hk => ?_) fun _ _ _ => var_ev rfl
  have hk' := List.mem_range.mp hk
  refine tru_ev (op2_ev (x := .int ((uniqT (colL T G k)).length : Int)) (y := .int 1) (S1 := S) (S2 := S) (fn_ev (vs := [.lst (sV (colL T G k))]) (S1 := S) (cons_ev ?_ nil_ev) ?_) con_ev (by rw [K5.gt_int]))
  · rw [show sV (colL T G k) = (alive T G).map fun r => Val.str (r.getD k nox) from List.map_map ..]
    exact eLc_all (alive T G) vR _ (seqT_ev (var_ev rfl)) fun r hr => op2_ev (x := vR r) (y := .int ((k : Nat) : Int)) (var_ev rfl) (var_ev rfl) (show L2.atI (sV r) ((k : Nat) : Int) = _ from atI_str (by rw [ok.len r (arow hr)]; exact hk'))
  · have hl : (colL T G k).length < 4000 := by
      rw [List.length_map]
      have : (alive T G).length ≤ T.rows.length := List.length_filter_le ..
      have := ok.few
      omega
    simp only [fLenTxt, lstOf, Option.bind_some, toT_sV, hl, if_true]
theorem spots_eq {neg : Bool} : fEq neg S (.lst (intsV (spots T G))) (.lst []) = some (.bl (neg ^^ decide (spots T G = []))) := by
  rw [intsV_eq, int_lst]
  congr 3
  exact decide_eq_decide.mpr List.map_eq_nil_iff
theorem left_none (ok : T.Ok) (hG : Sub T G) (h : spots T G = []) : m_left [vT T, gV G] S = some (.non, S) := by
  refine def_ret (sl := lfS T G (some (.tup ((alive T G).map vR))) (some (.lst (intsV (spots T G)))) none) rfl (left_front ok hG _ ?_)
  refine seq_ret (if_t (S1 := S) (tru_ev (op2_ev (x := .lst (intsV (spots T G))) (y := .lst []) (S1 := S) (S2 := S) (var_ev rfl) (lst_ev nil_ev) ?_)) (ret_ev con_ev))
  rw [spots_eq, Bool.false_xor, decide_eq_true h]
theorem left_some (ok : T.Ok) (hG : Sub T G) (h : spots T G ≠ []) : m_left [vT T, gV G] S = some (vT (cutT T G), S) := by
  refine def_ret (sl := lfS T G (some (.tup ((alive T G).map vR))) (some (.lst (intsV (spots T G)))) (some (.ptp (sV (sel T G T.items))))) rfl (left_front ok hG _ ?_)
  refine seq_ev (if_f (S1 := S) (tru_ev (op2_ev (x := .lst (intsV (spots T G))) (y := .lst []) (S1 := S) (S2 := S) (var_ev rfl) (lst_ev nil_ev) (by rw [spots_eq, Bool.false_xor, decide_eq_false h]))) skip_ev) (seq_ev (set_ev (v := .ptp (sV (sel T G T.items))) (S1 := S) (fn_ev (vs := [.lst (sV (sel T G T.items))]) (S1 := S) (cons_ev ?_ nil_ev) rfl)) (ret_ev (tup_ev (cons_ev (var_ev rfl) (cons_ev (fn_ev (vs := [.lst ((sortR ((alive T G).map (sel T G))).map vR)]) (S1 := S) (cons_ev (fn_ev (vs := [.lst (((alive T G).map (sel T G)).map vR)]) (S1 := S) (cons_ev ?_ nil_ev) (fSortL_rows (n := (spots T G).length) fun r hr => ?_)) nil_ev) rfl) nil_ev)))))
  · rw [show sV (sel T G T.items) = (spots T G).map fun k => Val.str (T.items.getD k nox) from List.map_map ..]
    exact eLc_all (spots T G) (fun k : Nat => Val.int (k : Int)) _ (seqL_ev (var_ev rfl)) fun k hk => op2_ev (x := .ptp (sV T.items)) (y := .int ((k : Nat) : Int)) (ixT0 rfl) (var_ev rfl) (show L2.atI (sV T.items) ((k : Nat) : Int) = _ from atI_str (mem_spots.mp hk).1)
  · rw [List.map_map]
    refine eLc_all (alive T G) vR _ (seqT_ev (var_ev rfl)) fun r hr => fn_ev (vs := [.lst (sV (sel T G r))]) (S1 := S) (cons_ev ?_ nil_ev) rfl
    rw [show sV (sel T G r) = (spots T G).map fun k => Val.str (r.getD k nox) from List.map_map ..]
    exact eLc_all (spots T G) (fun k : Nat => Val.int (k : Int)) _ (seqL_ev (var_ev rfl)) fun k hk => op2_ev (x := vR r) (y := .int ((k : Nat) : Int)) (var_ev rfl) (var_ev rfl) (show L2.atI (sV r) ((k : Nat) : Int) = _ from atI_str (by rw [ok.len r (arow hr)]; exact (mem_spots.mp hk).1))
  · obtain ⟨r', hr', rfl⟩ := List.mem_map.mp hr
    exact sel_cells ok (arow hr')
/-! what it is like -/
theorem it_get (ok : T.Ok) {k : Nat} (h : k < T.items.length) : T.items.getD k nox = T.items[k] := by rw [List.getD_eq_getElem?_getD, List.getElem?_eq_getElem h]; rfl
theorem sel_at (ok : T.Ok) {x : Str} {r : List Str} : ∀ l : List Nat, (∀ k ∈ l, k < T.items.length) → x ∈ l.map (fun k => T.items.getD k nox) → (l.map fun k => r.getD k nox).getD ((l.map fun k => T.items.getD k nox).idxOf x) nox = r.getD (T.items.idxOf x) nox
  | [], _, h => (List.not_mem_nil h).elim
  | k :: l, hl, h => by
    have hk := hl k List.mem_cons_self
    rw [List.map_cons, List.map_cons, List.idxOf_cons]
    by_cases e : T.items.getD k nox = x
    · have e2 : (T.items.getD k nox == x) = true := by simpa using e
      rw [e2]
      have : T.items.idxOf x = k := by rw [← e, it_get ok hk]; exact ok.nd.idxOf_getElem k hk
      rw [this]
      rfl
    · have e2 : (T.items.getD k nox == x) = false := by simpa using e
      rw [e2]
      simp only [cond_false, List.getD_cons_succ]
      refine sel_at ok l (fun j hj => hl j (List.mem_cons_of_mem _ hj)) ?_
      rcases List.mem_cons.mp h
            with q | q
      · exact absurd q.symm e
      · exact q
theorem cut_at (ok : T.Ok) {x : Str} (r : List Str) (hx : x ∈ (cutT T G).items) : at_ (cutT T G) (sel T G r) x = at_ T r x := sel_at ok _ (fun k hk => (mem_spots.mp hk).1) hx
theorem cut_sub (ok : T.Ok) : List.Sublist (cutT T G).items T.items := by
  have e : (List.range T.items.length).map (fun k => T.items.getD k nox) = T.items := by
    refine List.ext_getElem (by simp) fun n h1 h2 => ?_
    rw [List.getElem_map, List.getElem_range, it_get ok h2]
  have : List.Sublist ((spots T G).map fun k => T.items.getD k nox) ((List.range T.items.length).map fun k => T.items.getD k nox) := List.Sublist.map _ List.filter_sublist
  rw [e] at this
  exact this
theorem mem_cut {e : List Str} : e ∈ (cutT T G).rows ↔ ∃ r ∈ alive T G, e = sel T G r := by
  rw [show (cutT T G).rows = sortR ((alive T G).map (sel T G)) from rfl, (sortR_perm _).mem_iff, List.mem_map]
  exact ⟨fun ⟨r, h, e⟩ => ⟨r, h, e.symm⟩, fun ⟨r, h, e⟩ => ⟨r, h, e.symm⟩⟩
theorem one_col {k : Nat} (h : ¬ (1 : Int) < ((uniqT (colL T G k)).length : Int)) {r s : List Str} (hr : r ∈ alive T G) (hs : s ∈ alive T G) : r.getD k nox = s.getD k nox := by
  by_cases e : r.getD k nox = s.getD k nox
  · exact e
  · have := uniq_two (l := colL T G k) (List.mem_map_of_mem (f := fun r => r.getD k nox) hr) (List.mem_map_of_mem (f := fun r => r.getD k nox) hs) e
    omega
theorem sel_inj (ok : T.Ok) {r s : List Str} (hr : r ∈ alive T G) (hs : s ∈ alive T G) (e : sel T G r = sel T G s) : r = s := by
  have l1 := ok.len r (arow hr)
  have l2 := ok.len s (arow hs)
  refine List.ext_getElem (by omega) fun n h1 h2 => ?_
  have g1 : r.getD n nox = r[n] := by rw [List.getD_eq_getElem?_getD, List.getElem?_eq_getElem h1]; rfl
  have g2 : s.getD n nox = s[n] := by rw [List.getD_eq_getElem?_getD, List.getElem?_eq_getElem h2]; rfl
  rw [← g1, ← g2]
  by_cases h : (1 : Int) < ((uniqT (colL T G n)).length : Int)
  · have hn : n ∈ spots T G := mem_spots.mpr ⟨by omega, h⟩
    exact List.map_inj_left.mp e n hn
  · exact one_col h hr hs
theorem cut_ok (ok : T.Ok) : (cutT T G).Ok := by
  refine ⟨ok.nd.sublist (cut_sub ok), fun i hi => ok.it i ((cut_sub ok).subset hi), fun e he => ?_, fun e he => ?_, ?_⟩
  · obtain ⟨r, hr, rfl⟩ := mem_cut.mp he
    exact (List.length_map ..).trans (List.length_map ..).symm
  · obtain ⟨r, hr, rfl⟩ := mem_cut.mp he
    exact (sel_cells ok (arow hr)).2
  · show (sortR ((alive T G).map (sel T G))).length ≤ 24
    rw [(sortR_perm _).length_eq, List.length_map]
    have : (alive T G).length ≤ T.rows.length := List.length_filter_le ..
    have := ok.few
    omega
theorem cut_len : (cutT T G).rows.length = (alive T G).length := by
  show (sortR ((alive T G).map (sel T G))).length = _
  rw [(sortR_perm _).length_eq, List.length_map]
theorem cut_good (ok : T.Ok) (g : Good T) : Good (cutT T G) := by
  have sub : List.Sublist (alive T G) T.rows := List.filter_sublist
  refine ⟨g.si.sublist (cut_sub ok), sortR_sorted _, (sortR_perm _).symm.nodup (List.pairwise_map.mpr (List.Pairwise.imp_of_mem (fun ha hb h q => h (sel_inj ok ha hb q)) (g.nr.sublist sub))), fun n hn => ?_⟩
  have hn' : n < (spots T G).length := by
    have : (cutT T G).items.length = (spots T G).length := List.length_map ..
    omega
  obtain ⟨h1, h2⟩ := mem_spots.mp (List.getElem_mem hn')
  obtain ⟨a, ha, b, hb, hab⟩ := two_of (l := colL T G (spots T G)[n]) (by omega)
  obtain ⟨r, hr, rfl⟩ := List.mem_map.mp ha
  obtain ⟨s, hs, rfl⟩ := List.mem_map.mp hb
  have gg : ∀ r : List Str, (sel T G r).getD n nox = r.getD (spots T G)[n] nox := fun r => by
    unfold sel
    rw [List.getD_eq_getElem?_getD, List.getElem?_map, List.getElem?_eq_getElem hn']
    rfl
  refine ⟨_, mem_cut.mpr ⟨r, hr, rfl⟩, _, mem_cut.mpr ⟨s, hs, rfl⟩, ?_⟩
  rw [gg, gg]
  exact hab
theorem cut_ne (h : spots T G ≠ []) : (cutT T G).items ≠ [] := fun e => h (List.map_eq_nil_iff.mp e)
theorem alive_ne (h : spots T G ≠ []) : alive T G ≠ [] := fun e => by
  obtain ⟨k, hk⟩ := List.exists_mem_of_ne_nil _ h
  have := (mem_spots.mp hk).2
  rw [show colL T G k = [] by unfold colL; rw [e]; rfl] at this
  exact absurd this (by decide)
theorem cut_nr (h : spots T G ≠ []) : (cutT T G).rows ≠ [] := fun e => by
  have := cut_len (T := T) (G := G)
  rw [e] at this
  exact alive_ne h (List.length_eq_zero_iff.mp this.symm)
theorem prsC (ok : T.Ok) {r : List Str} (hr : r ∈ alive T G) {x c : Str} : pK x c ∈ prs (cutT T G) (sel T G r) ↔ x ∈ (cutT T G).items ∧ pK x c ∈ prs T r := by
  rw [mem_prs (cut_ok ok) (mem_cut.mpr ⟨r, hr, rfl⟩), mem_prs ok (arow hr)]
  constructor
  · rintro ⟨h1, h2⟩
    exact ⟨h1, (cut_sub ok).subset h1, (cut_at ok r h1).symm.trans h2⟩
  · rintro ⟨h1, _, h2⟩
    exact ⟨h1, (cut_at ok r h1).trans h2⟩
theorem memC (ok : T.Ok) {x c : Str} : pK x c ∈ allP (cutT T G) ↔ x ∈ (cutT T G).items ∧ ∃ r ∈ alive T G, pK x c ∈ prs T r := by
  rw [mem_allP]
  constructor
  · rintro ⟨e, he, hk⟩
    obtain ⟨r, hr, rfl⟩ := mem_cut.mp he
    obtain ⟨h1, h2⟩ := (prsC ok hr).mp hk
    exact ⟨h1, r, hr, h2⟩
  · rintro ⟨h1, r, hr, h2⟩
    exact ⟨_, mem_cut.mpr ⟨r, hr, rfl⟩, (prsC ok hr).mpr ⟨h1, h2⟩⟩
end K15
namespace K15
open PySem PySem.Spec PyProof.Rows L2 Mp Pilot K5 K13
variable {S : Sto} {T : Tab} {G : List NK}
theorem alive_none (T : Tab) : alive T [] = T.rows := by
  unfold alive
  exact List.filter_eq_self.mpr fun r _ => by simp [struckB]
theorem living_iff {k : NK} (h : k ∈ allP T) : k ∉ dead T G ↔ ∃ r ∈ alive T G, k ∈ prs T r := by
  rw [mem_dead]
  constructor
  · intro q
    by_cases e : ∃ r ∈ alive T G, k ∈ prs T r
    · exact e
    · exact absurd ⟨h, fun r hr hk => e ⟨r, hr, hk⟩⟩ q
  · rintro ⟨r, hr, hk⟩ ⟨_, q⟩
    exact q r hr hk
theorem cut_pairs (ok : T.Ok) : pairsOf (cutT T G) = (pairsOf T).filter fun k => decide (k ∉ dead T G) && decide (itemOf k ∈ (cutT T G).items.map txt) := by
  have okC := cut_ok (G := G) ok
  refine sorted_ext (fun x hx y hy => alike_pr (pairsOf_pr okC hx) (pairsOf_pr ok (List.mem_filter.mp hy).1)) (keyLe_sorted _) ((keyLe_sorted _).filter _) (nodup_sortKeys _) ((nodup_sortKeys _).filter _) fun k => ?_
  rw [List.mem_filter, mem_pairsOf, mem_pairsOf, Bool.and_eq_true, decide_eq_true_eq, decide_eq_true_eq]
  constructor
  · intro h
    obtain ⟨x, _, c, _, rfl⟩ := allP_pr okC h
    obtain ⟨h1, r, hr, h2⟩ := (memC ok).mp h
    have hall : pK x c ∈ allP T := mem_allP.mpr ⟨r, arow hr, h2⟩
    exact ⟨hall, (living_iff hall).mpr ⟨r, hr, h2⟩, List.mem_map_of_mem (f := txt) h1⟩
  · rintro ⟨h1, h2, h3⟩
    obtain ⟨x, _, c, _, rfl⟩ := allP_pr ok h1
    obtain ⟨i, hi, e⟩ := List.mem_map.mp h3
    have : i = x := by
      have e' : NestedKey.text i = NestedKey.text x := e
      injection e'
    rw [this] at hi
    exact (memC ok).mpr ⟨hi, (living_iff h1).mp h2⟩
theorem cut_breaks (ok : T.Ok) {M : List NK} (hM : Sub (cutT T G) M) : breaks (cutT T G) [] M = breaks T G M := by
  have okC := cut_ok (G := G) ok
  unfold breaks
  refine decide_eq_decide.mpr ?_
  rw [List.nil_append, List.eq_nil_iff_forall_not_mem, List.eq_nil_iff_forall_not_mem]
  have key : ∀ r ∈ alive T G, ((∀ p ∈ prs (cutT T G) (sel T G r), p ∉ M) ↔ ∀ p ∈ prs T r, p ∉ M) := fun r hr => by
    constructor
    · intro h p hp hm
      obtain ⟨x, _, c, _, rfl⟩ := prs_pr ok (arow hr) hp
      exact h _ ((prsC ok hr).mpr ⟨((memC ok).mp (hM.sub _ hm)).1, hp⟩) hm
    · intro h p hp hm
      obtain ⟨x, _, c, _, rfl⟩ := prs_pr okC (mem_cut.mpr ⟨r, hr, rfl⟩) hp
      exact h _ ((prsC ok hr).mp hp).2 hm
  constructor
  · intro h r hr
    obtain ⟨h1, h2⟩ := mem_alive.mp hr
    have hA : r ∈ alive T G := mem_alive.mpr ⟨h1, fun p hp z => h2 p hp (List.mem_append_left _ z)⟩
    exact h _ (mem_alive.mpr ⟨mem_cut.mpr ⟨r, hA, rfl⟩, (key r hA).mpr fun p hp z => h2 p hp (List.mem_append_right _ z)⟩)
  · intro h e he
    obtain ⟨h1, h2⟩ := mem_alive.mp he
    obtain ⟨r, hr, rfl⟩ := mem_cut.mp h1
    obtain ⟨h3, h4⟩ := mem_alive.mp hr
    refine h r (mem_alive.mpr ⟨h3, fun p hp z => ?_⟩)
    rcases List.mem_append.mp z with z | z
    · exact h4 p hp z
    · exact (key r hr).mp h2 p hp z
theorem fEq_nat {a b : Int} (h : a = b) : fEq true S (.int a) (.int b) = some (.bl false) := by
  have e := fEq_ofK (neg := true) (S := S) (a := .num a) (b := .num b) ⟨rfl, by simp [NestedKey.depth]⟩ ⟨rfl, by simp [NestedKey.depth]⟩
  rw [decide_eq_true (by rw [h])] at e
  exact e
abbrev clS (T C : Tab) (G M : List NK) (y4 y6 : Option Val) : Sl := [some (vT T), some (gV G), some (vT C), some (gV M), y4, none, y6]
theorem sp_wi {C : Tab} {M : List NK} (okC : C.Ok) (hM : ∀ k ∈ M, Pr k) : m_wi [gV M, vT C] S = some (gV (M.filter fun k => decide (k ∈ pairsOf C)), S) := by
  refine def_ret (sl := _) rfl (ret_ev (fn_ev (vs := [.lst (ofKs (M.filter fun k => decide (k ∈ pairsOf C)))]) (S1 := S) (cons_ev ?_ nil_ev) rfl))
  rw [ofKs_map (M.filter _)]
  refine eLc_pure M ofK _ ofK (by rw [← ofKs_map]; exact seqT_ev (var_ev rfl)) (fun k hk => tru_ev (op2_ev (x := ofK k) (y := gV (pairsOf C)) (var_ev rfl) (call_ev (vs := [vT C]) (cons_ev (var_ev rfl) nil_ev) (sp_pairs_of okC)) ?_)) fun _ _ _ => var_ev rfl
  rw [fIn_tup (hM k hk).fine fun j hj => (pairsOf_pr okC hj).fine, Bool.false_xor]
theorem sp_cl (ok : T.Ok) (g : Good T) {M : List NK} (hG : Sub T G) (hM : Sub T M) (h : spots T G ≠ []) : m_cl [vT T, gV G, vT (cutT T G), gV M] S = some (.bl true, S) := by
  have okC := cut_ok (G := G) ok
  have gC := cut_good (G := G) ok g
  have hD := dead_sub (G := G) ok
  have hDC := dead_sub (G := []) okC
  have z1 : cl_1 (clS T (cutT T G) G M none none) S = some (.nxt, clS T (cutT T G) G M none none, S) := by
    refine if_f (S1 := S) (or_f (S1 := S) (tru_ev (op2_ev (x := .int ((cutT T G).rows.length : Int)) (y := .int ((alive T G).length : Int)) (S1 := S) (S2 := S) (call_ev (vs := [vT (cutT T G)]) (cons_ev (var_ev rfl) nil_ev) (sp_lts okC gC (cut_ne h) (cut_nr h))) (fn_ev (vs := [.tup ((alive T G).map vR)]) (S1 := S) (cons_ev (call_ev (vs := [vT T, gV G]) (cons_ev (var_ev rfl) (cons_ev (var_ev rfl) nil_ev)) (sp_alive ok hG.sub)) nil_ev) len_rows) (fEq_nat (by rw [cut_len])))) (tru_ev (op2_ev (x := gV (dead (cutT T G) [])) (y := .tup []) (S1 := S) (S2 := S) (call_ev (vs := [vT (cutT T G), gV []]) (cons_ev (var_ev rfl) (cons_ev (tup_ev nil_ev) nil_ev)) (sp_dead okC sub_nil.sub)) (tup_ev nil_ev) ?_))) skip_ev
    rw [eq_nil (hDC.pr okC), decide_eq_true (dead_none okC)]
    rfl
  have z2 : cl_2 (clS T (cutT T G) G M none none) S = some (.nxt, clS T (cutT T G) G M none none, S) := by
    refine if_f (S1 := S) (tru_ev (op2_ev (x := .tup ((alive (cutT T G) []).map vR)) (y := .tup ((alive (cutT T G) []).map vR)) (S1 := S) (S2 := S) (call_ev (vs := [vT (cutT T G), gV []]) (cons_ev (var_ev rfl) (cons_ev (tup_ev nil_ev) nil_ev)) (sp_alive okC sub_nil.sub)) ?_ (by rw [eq_rows okC, decide_eq_true rfl]; rfl))) skip_ev
    rw [alive_none]
    exact ixT1 rfl
  have z3 : cl_3 (clS T (cutT T G) G M none none) S = some (.nxt, clS T (cutT T G) G M (some (gV (dead T G))) none, S) := set_ev (ev_de ok hG rfl rfl)
  have z4 : cl_4 (clS T (cutT T G) G M (some (gV (dead T G))) none) S = some (.nxt, clS T (cutT T G) G M (some (gV (dead T G))) none, S) := by
    have hp : ∀ k ∈ pairsOf (cutT T G), Pr k := fun k hk => pairsOf_pr okC hk
    refine if_f (S1 := S) (tru_ev (op2_ev (x := gV (pairsOf (cutT T G))) (y := gV (pairsOf (cutT T G))) (S1 := S) (S2 := S) (call_ev (vs := [vT (cutT T G)]) (cons_ev (var_ev rfl) nil_ev) (sp_pairs_of okC)) (fn_ev (vs := [.lst (ofKs (pairsOf (cutT T G)))]) (S1 := S) (cons_ev ?_ nil_ev) rfl) (by rw [eq_gV hp hp, decide_eq_true rfl]; rfl))) skip_ev
    rw [cut_pairs ok, ofKs_map ((pairsOf T).filter _)]
    refine eLc_pure (pairsOf T) ofK _ ofK (by rw [← ofKs_map]; exact seqT_ev (call_ev (vs := [vT T]) (cons_ev (var_ev rfl) nil_ev) (sp_pairs_of ok))) (fun k hk => and_ev (tru_ev (op2_ev (x := ofK k) (y := gV (dead T G)) (var_ev rfl) (var_ev rfl) ?_)) (tru_ev (op2_ev (x := ofK (itemOf k)) (y := .ptp (sV (cutT T G).items)) (op2_ev (x := ofK k) (var_ev rfl) con_ev (ix_item (pairsOf_pr ok hk))) (ixT0 rfl) ?_))) fun _ _ _ => var_ev rfl
    · rw [fIn_tup (pairsOf_pr ok hk).fine fun j hj => (hD.pr ok j hj).fine]
      simp
    · have e := fIn_ptp (neg := false) (S := S) (a := itemOf k) (ks := (cutT T G).items.map txt) (item_fine (pairsOf_pr ok hk)) (fun j hj => by
        obtain ⟨y, hy, rfl⟩ := List.mem_map.mp hj
        exact ⟨by simp [NestedKey.data, PyData.canLay0, wideH_ok y (okC.it y hy)], by simp [NestedKey.depth]⟩)
      rw [ofKs_txt, Bool.false_xor] at e
      exact e
  have hM' : Sub (cutT T G) (M.filter fun k => decide (k ∈ pairsOf (cutT T G))) := ⟨fun k hk => mem_pairsOf.mp (of_decide_eq_true (List.mem_filter.mp hk).2), Nat.le_trans (List.length_filter_le ..) hM.few⟩
  have hM2 : Sub T (M.filter fun k => decide (k ∈ pairsOf (cutT T G))) := filter_sub hM
  have z5 : cl_5 (clS T (cutT T G) G M (some (gV (dead T G))) none) S = some (.nxt, clS T (cutT T G) G M (some (gV (dead T G))) (some (gV (M.filter fun k => decide (k ∈ pairsOf (cutT T G))))), S) := set_ev (call_ev (vs := [gV M, vT (cutT T G)]) (cons_ev (var_ev rfl) (cons_ev (var_ev rfl) nil_ev)) (sp_wi okC (hM.pr ok)))
  have z6 : cl_6 (clS T (cutT T G) G M (some (gV (dead T G))) (some (gV (M.filter fun k => decide (k ∈ pairsOf (cutT T G)))))) S = some (.ret (.bl true), clS T (cutT T G) G M (some (gV (dead T G))) (some (gV (M.filter fun k => decide (k ∈ pairsOf (cutT T G))))), S) := by
    refine ret_ev (op2_ev (x := .bl (breaks (cutT T G) [] (M.filter fun k => decide (k ∈ pairsOf (cutT T G))))) (y := .bl (breaks T G (M.filter fun k => decide (k ∈ pairsOf (cutT T G))))) (S1 := S) (S2 := S) (call_ev (vs := [vT (cutT T G), gV [], gV (M.filter fun k => decide (k ∈ pairsOf (cutT T G)))]) (cons_ev (var_ev rfl) (cons_ev (tup_ev nil_ev) (cons_ev (var_ev rfl) nil_ev))) (sp_break okC sub_nil.sub hM'.sub (by have := hM'.few; rw [List.length_nil]; omega))) (call_ev (vs := [vT T, gV G, gV (M.filter fun k => decide (k ∈ pairsOf (cutT T G)))]) (cons_ev (var_ev rfl) (cons_ev (var_ev rfl) (cons_ev (var_ev rfl) nil_ev))) (sp_break ok hG.sub hM2.sub (by have := hG.few; have := hM2.few; omega))) ?_)
    rw [fEq_bool, decide_eq_true (cut_breaks ok hM')]
    rfl
  exact def_ret (sl := _) rfl (seq_ev z1 (seq_ev z2 (seq_ev z3 (seq_ev z4 (seq_ev z5 z6)))))
/-! questions on what is left -/
def kept (T : Tab) (G : List NK) (x : Str) (D : List Str) : List Str := D.filter fun c => decide (c ∈ cands (cutT T G) ((cutT T G).items.idxOf x))
theorem candsC (ok : T.Ok) {x c : Str} (hx : x ∈ (cutT T G).items) : c ∈ cands (cutT T G) ((cutT T G).items.idxOf x) ↔ ∃ r ∈ alive T G, at_ T r x = c := by
  rw [mem_cands]
  constructor
  · rintro ⟨e, he, h⟩
    obtain ⟨r, hr, rfl⟩ := mem_cut.mp he
    exact ⟨r, hr, (cut_at ok r hx).symm.trans h⟩
  · rintro ⟨r, hr, h⟩
    exact ⟨_, mem_cut.mpr ⟨r, hr, rfl⟩, (cut_at ok r hx).trans h⟩
theorem candsC_eq (ok : T.Ok) {x : Str} (hx : x ∈ (cutT T G).items) : cands (cutT T G) ((cutT T G).items.idxOf x) = (cands T (T.items.idxOf x)).filter fun c => decide (pK x c ∉ dead T G) := by
  have hxT := (cut_sub ok).subset hx
  refine sorted_txt (cands_sorted _) ((cands_sorted _).filter _) cands_nodup (cands_nodup.filter _) fun c => ?_
  rw [candsC ok hx, List.mem_filter, decide_eq_true_eq]
  constructor
  · rintro ⟨r, hr, h⟩
    have hk : pK x c ∈ prs T r := (mem_prs ok (arow hr)).mpr ⟨hxT, h⟩
    exact ⟨mem_cands.mpr ⟨r, arow hr, h⟩, (living_iff (mem_allP.mpr ⟨r, arow hr, hk⟩)).mpr ⟨r, hr, hk⟩⟩
  · rintro ⟨h1, h2⟩
    obtain ⟨r0, hr0, e0⟩ := mem_cands.mp h1
    obtain ⟨r, hr, hk⟩ := (living_iff (mem_allP.mpr ⟨r0, hr0, (mem_prs ok hr0).mpr ⟨hxT, e0⟩⟩)).mp h2
    exact ⟨r, hr, ((mem_prs ok (arow hr)).mp hk).2⟩
theorem kept_q {x : Str} {D : List Str} (hx : x ∈ (cutT T G).items) : Qn (cutT T G) x (kept T G x D) := ⟨hx, fun c hc => of_decide_eq_true (List.mem_filter.mp hc).2⟩
theorem in_kept {x c : Str} {D : List Str} (h : c ∈ cands (cutT T G) ((cutT T G).items.idxOf x)) : decide (c ∈ kept T G x D) = decide (c ∈ D) := by
  refine decide_eq_decide.mpr ?_
  rw [kept, List.mem_filter]
  simp [h]
theorem strkC (ok : T.Ok) {x : Str} {D : List Str} {y : Bool} (hx : x ∈ (cutT T G).items) : strk (cutT T G) x (kept T G x D) y = paid T G x D y := by
  unfold strk paid strk
  rw [List.filter_map]
  congr 1
  rw [List.filter_congr (fun c hc => by rw [in_kept hc]), candsC_eq ok hx, List.filter_filter, List.filter_filter]
  exact List.filter_congr fun c _ => Bool.and_comm _ _
theorem paidC (ok : T.Ok) {x : Str} {D : List Str} {y : Bool} (hx : x ∈ (cutT T G).items) : paid (cutT T G) [] x (kept T G x D) y = paid T G x D y := by
  rw [paid_none (cut_ok ok), strkC ok hx]
theorem sttC (ok : T.Ok) {x : Str} {D : List Str} (hx : x ∈ (cutT T G).items) (h : spots T G ≠ []) : stt (cutT T G) [] x (kept T G x D) = stt T G x D := by
  unfold stt
  rw [paidC ok hx, paidC ok hx, alive_none, if_neg (cut_nr h), if_neg (alive_ne h)]
theorem ansC (ok : T.Ok) {x : Str} {D r : List Str} (hx : x ∈ (cutT T G).items) (hr : r ∈ alive T G) : ans (cutT T G) (sel T G r) x (kept T G x D) = ans T r x D := by
  unfold ans
  rw [cut_at ok r hx]
  exact in_kept ((candsC ok hx).mpr ⟨r, hr, rfl⟩)
theorem spots_in (ok : T.Ok) {k : Nat} (hk : k < T.items.length) : T.items.getD k nox ∈ (cutT T G).items ↔ k ∈ spots T G := by
  constructor
  · intro h
    obtain ⟨j, hj, e⟩ := List.mem_map.mp h
    have hj' := (mem_spots.mp hj).1
    rw [it_get ok hj', it_get ok hk] at e
    have : j = k := by
      have e1 := ok.nd.idxOf_getElem j hj'
      have e2 := ok.nd.idxOf_getElem k hk
      rw [← e1, ← e2, e]
    rw [← this]; exact hj
  · exact fun h => List.mem_map_of_mem (f := fun k => T.items.getD k nox) h
abbrev clqS (T C : Tab) (G : List NK) (x : Str) (D : List Str) (y5 y7 y8 y9 y11 y12 : Option Val) : Sl := [some (vT T), some (gV G), some (vT C), some (.str x), some (.tup (sV D)), y5, none, y7, y8, y9, none, y11, y12]
theorem sp_clq (ok : T.Ok) {x : Str} {D : List Str} (hG : Sub T G) (q : Qn T x D) (hx : x ∈ (cutT T G).items) (h : spots T G ≠ []) : m_clq [vT T, gV G, vT (cutT T G), .str x, .tup (sV D)] S = some (.bl true, S) := by
  have okC := cut_ok (G := G) ok
  have qC := kept_q (D := D) hx
  let kp : Option Val := some (.tup (sV (kept T G x D)))
  have z1 : clq_1 (clqS T (cutT T G) G x D none none none none none none) S = some (.nxt, clqS T (cutT T G) G x D kp none none none none none, S) := by
    refine set_ev (v := .tup (sV (kept T G x D))) (fn_ev (vs := [.lst (sV (kept T G x D))]) (S1 := S) (cons_ev ?_ nil_ev) rfl)
    refine eLc_pure D Val.str _ Val.str (seqT_ev (var_ev rfl)) (fun c hc => tru_ev (op2_ev (x := .str c) (y := .tup (sV (cands (cutT T G) ((cutT T G).items.idxOf x)))) (var_ev rfl) (call_ev (vs := [vT (cutT T G), .str x]) (cons_ev (var_ev rfl) (cons_ev (var_ev rfl) nil_ev)) (sp_cand okC hx)) ?_)) fun _ _ _ => var_ev rfl
    rw [fIn_txt (q.pool ok c hc) fun d hd => cands_pool okC hx hd, Bool.false_xor]
  have z2 : clq_2 (clqS T (cutT T G) G x D kp none none none none none) S = some (.nxt, clqS T (cutT T G) G x D kp none none none none none, S) := by
    refine if_f (S1 := S) (tru_ev (op2_ev (x := .str (stt (cutT T G) [] x (kept T G x D))) (y := .str (stt T G x D)) (S1 := S) (S2 := S) (call_ev (vs := [vT (cutT T G), gV [], .str x, .tup (sV (kept T G x D))]) (cons_ev (var_ev rfl) (cons_ev (tup_ev nil_ev) (cons_ev (var_ev rfl) (cons_ev (var_ev rfl) nil_ev)))) (sp_fa okC sub_nil qC)) (call_ev (vs := [vT T, gV G, .str x, .tup (sV D)]) (cons_ev (var_ev rfl) (cons_ev (var_ev rfl) (cons_ev (var_ev rfl) (cons_ev (var_ev rfl) nil_ev)))) (sp_fa ok hG q)) ?_)) skip_ev
    rw [sttC ok hx h, fEq_str stt_fine stt_fine, decide_eq_true rfl]
    rfl
  have z3 : ∀ (y : Bool) (y8 : Option Val), sSeq clq_3 clq_4 (clqS T (cutT T G) G x D kp (some (.str (yn y))) y8 none none none) S = some (.nxt, clqS T (cutT T G) G x D kp (some (.str (yn y))) (some (gV (paid T G x D y))) none none none, S) := fun y y8 => by
    have hp := paid_sub (G := G) (b := y) (C := D) ok q.it
    have same : fEq true S (gV (paid T G x D y)) (gV (paid T G x D y)) = some (.bl false) := by rw [eq_gV (hp.pr ok) (hp.pr ok), decide_eq_true rfl]; rfl
    refine seq_ev (sl1 := clqS T (cutT T G) G x D kp (some (.str (yn y))) (some (gV (paid T G x D y))) none none none) (S1 := S) (set_ev (call_ev (vs := [vT T, gV G, .str x, .tup (sV D), .str (yn y)]) (cons_ev (var_ev rfl) (cons_ev (var_ev rfl) (cons_ev (var_ev rfl) (cons_ev (var_ev rfl) (cons_ev (var_ev rfl) nil_ev))))) (sp_paid ok hG q))) (if_f (S1 := S) (or_f (S1 := S) (tru_ev (op2_ev (x := gV (paid T G x D y)) (y := gV (paid T G x D y)) (S1 := S) (S2 := S) (call_ev (vs := [vT (cutT T G), .str x, .tup (sV (kept T G x D)), .str (yn y)]) (cons_ev (var_ev rfl) (cons_ev (var_ev rfl) (cons_ev (var_ev rfl) (cons_ev (var_ev rfl) nil_ev)))) ?_) (var_ev rfl) same)) (tru_ev (op2_ev (x := gV (paid T G x D y)) (y := gV (paid T G x D y)) (S1 := S) (S2 := S) (call_ev (vs := [vT (cutT T G), gV [], .str x, .tup (sV (kept T G x D)), .str (yn y)]) (cons_ev (var_ev rfl) (cons_ev (tup_ev nil_ev) (cons_ev (var_ev rfl) (cons_ev (var_ev rfl) (cons_ev (var_ev rfl) nil_ev))))) ?_) (var_ev rfl) same))) skip_ev)
    · rw [sp_sb okC qC, strkC ok hx]
    · rw [sp_paid okC sub_nil qC, paidC ok hx]
  have hit : iSeq eYN (clqS T (cutT T G) G x D kp none none none none none) S = some (⟨[.str (yn true), .str (yn false)], none⟩, S) := seqT_ev (tup_ev (cons_ev con_ev (cons_ev con_ev nil_ev)))
  let y7 : Option Val := some (.str (yn false))
  let y8 : Option Val := some (gV (paid T G x D false))
  have z5 : clq_5 (clqS T (cutT T G) G x D kp y7 y8 none none none) S = some (.nxt, clqS T (cutT T G) G x D kp y7 y8 (some (.lst (intsV (spots T G)))) none none, S) := by
    refine set_ev ?_
    have hit2 : iRng1M (eFn fLen (es1 (eOp2 fIx (eVar 0) (eI 0)))) (clqS T (cutT T G) G x D kp y7 y8 none none none) S = some (⟨intsV (List.range T.items.length), none⟩, S) := by
      have e := rng_ev (m := eFn fLen (es1 (eOp2 fIx (eVar 0) (eI 0)))) (sl := clqS T (cutT T G) G x D kp y7 y8 none none none) (S := S) (S1 := S) (n := T.items.length) (fn_ev (vs := [.ptp (sV T.items)]) (cons_ev (ixT0 rfl) nil_ev) len_ptp) (by have := items_len ok; omega)
      rw [rng_map] at e
      exact e
    refine eLc_pure (List.range T.items.length) (fun k : Nat => Val.int (k : Int)) (fun k => decide ((1 : Int) < ((uniqT (colL T G k)).length : Int))) (fun k : Nat => Val.int (k : Int)) hit2 (fun k hk => ?_) fun _ _ _ => var_ev rfl
    have hk' := List.mem_range.mp hk
    refine tru_ev (op2_ev (x := .str (T.items.getD k nox)) (y := .ptp (sV (cutT T G).items)) (op2_ev (x := .ptp (sV T.items)) (y := .int ((k : Nat) : Int)) (ixT0 rfl) (var_ev rfl) (show L2.atI (sV T.items) ((k : Nat) : Int) = _ from atI_str hk')) (ixT0 rfl) ?_)
    have hin : T.items.getD k nox ∈ T.items := by rw [it_get ok hk']; exact List.getElem_mem _
    have e := fIn_ptp (neg := false) (S := S) (a := txt (T.items.getD k nox)) (ks := (cutT T G).items.map txt) ⟨by have := wideH_ok _ (ok.it _ hin); simpa [NestedKey.data, PyData.canLay0] using this, by simp [NestedKey.depth]⟩ (fun j hj => by
      obtain ⟨y, hy, rfl⟩ := List.mem_map.mp hj
      exact ⟨by simp [NestedKey.data, PyData.canLay0, wideH_ok y (okC.it y hy)], by simp [NestedKey.depth]⟩)
    rw [ofKs_txt, Bool.false_xor] at e
    refine e.trans ?_
    congr 2
    refine decide_eq_decide.mpr ?_
    have : txt (T.items.getD k nox) ∈ (cutT T G).items.map txt ↔ T.items.getD k nox ∈ (cutT T G).items := ⟨fun z => by
      obtain ⟨y, hy, e⟩ := List.mem_map.mp z
      injection e with e
      rw [← e]; exact hy, fun z => List.mem_map_of_mem (f := txt) z⟩
    rw [this, spots_in ok hk', mem_spots]
    exact ⟨fun z => z.2, fun z => ⟨hk', z⟩⟩
  let y9 : Option Val := some (.lst (intsV (spots T G)))
  obtain ⟨sl', S', e, rfl, y11, y12, rfl⟩ := for_inv (tg := gNm 11) (s := ⟨(alive T G).map vR, none⟩) (body := sSeq clq_6 clq_7) (fun sl S' => S' = S ∧ ∃ y11 y12, sl = clqS T (cutT T G) G x D kp y7 y8 y9 y11 y12) rfl vR (alive T G) (sl := clqS T (cutT T G) G x D kp y7 y8 y9 none none) (S := S)
    (fun r hr sl S' hh => by
      obtain ⟨rfl, y11, y12, rfl⟩ := hh
      refine ⟨_, clqS T (cutT T G) G x D kp y7 y8 y9 (some (vR r)) (some (vR (sel T G r))), S', rfl, seq_ev (set_ev (v := vR (sel T G r)) (S1 := S') (fn_ev (vs := [.lst (sV (sel T G r))]) (S1 := S') (cons_ev ?_ nil_ev) rfl)) (if_f (S1 := S') (tru_ev (op2_ev (x := .str (yn (ans T r x D))) (y := .str (yn (ans T r x D))) (S1 := S') (S2 := S') (call_ev (vs := [vT (cutT T G), vR (sel T G r), .str x, .tup (sV (kept T G x D))]) (cons_ev (var_ev rfl) (cons_ev (var_ev rfl) (cons_ev (var_ev rfl) (cons_ev (var_ev rfl) nil_ev)))) ?_) (call_ev (vs := [vT T, vR r, .str x, .tup (sV D)]) (cons_ev (var_ev rfl) (cons_ev (var_ev rfl) (cons_ev (var_ev rfl) (cons_ev (var_ev rfl) nil_ev)))) (sp_ain ok (arow hr) q)) (by rw [fEq_str (str_fine _) (str_fine _), decide_eq_true rfl]; rfl))) skip_ev), rfl, _, _, rfl⟩
      · rw [show sV (sel T G r) = (spots T G).map fun k => Val.str (r.getD k nox) from List.map_map ..]
        exact eLc_all (spots T G) (fun k : Nat => Val.int (k : Int)) _ (seqL_ev (var_ev rfl)) fun k hk => op2_ev (x := vR r) (y := .int ((k : Nat) : Int)) (var_ev rfl) (var_ev rfl) (show L2.atI (sV r) ((k : Nat) : Int) = _ from atI_str (by rw [ok.len r (arow hr)]; exact (mem_spots.mp hk).1))
      · rw [sp_ain okC (mem_cut.mpr ⟨r, hr, rfl⟩) qC, ansC ok hx hr]) ⟨rfl, none, none, rfl⟩
  exact def_ret (sl := _) rfl (seq_ev z1 (seq_ev z2 (seq_ev (for_ev hit (for_nxt rfl rfl (z3 true none) (for_nxt rfl rfl (z3 false _) (for_nil rfl)))) (seq_ev z5 (seq_ev (for_ev (s := ⟨(alive T G).map vR, none⟩) (S1 := S') (seqT_ev (call_ev (vs := [vT T, gV G]) (cons_ev (var_ev rfl) (cons_ev (var_ev rfl) nil_ev)) (sp_alive ok hG.sub))) e) (ret_ev con_ev))))))
end K15
namespace K15
open PySem PySem.Spec PyProof.Rows L2 Mp Pilot K5 K13
variable {S : Sto} {T : Tab} {G : List NK}
/-! ### left of the wider is the wider of what is left -/
theorem cut_base (b : Base T) (h : spots T G ≠ []) : Base (cutT T G) := by
  refine ⟨cut_ok b.ok, cut_good b.ok b.g, cut_ne h, cut_nr h, fun z => b.nz ((cut_sub b.ok).subset z), Nat.le_trans (cut_sub b.ok).length_le b.i3, ?_⟩
  rw [cut_len]
  exact Nat.le_trans (List.length_filter_le ..) b.r12
theorem mem_cutI (ok : T.Ok) {x : Str} : x ∈ (cutT T G).items ↔ x ∈ T.items ∧ ∃ r ∈ alive T G, ∃ s ∈ alive T G, at_ T r x ≠ at_ T s x := by
  constructor
  · intro h
    obtain ⟨k, hk, e⟩ := List.mem_map.mp h
    obtain ⟨h1, h2⟩ := mem_spots.mp hk
    obtain ⟨a, ha, b, hb, hab⟩ := two_of (l := colL T G k) (by omega)
    obtain ⟨r, hr, rfl⟩ := List.mem_map.mp ha
    obtain ⟨s, hs, rfl⟩ := List.mem_map.mp hb
    have hi : T.items.idxOf x = k := by rw [← e, it_get ok h1]; exact ok.nd.idxOf_getElem k h1
    refine ⟨(cut_sub ok).subset h, r, hr, s, hs, ?_⟩
    unfold at_
    rw [hi]
    exact hab
  · rintro ⟨hx, r, hr, s, hs, hne⟩
    have hi := List.idxOf_lt_length_of_mem hx
    have h2 := uniq_two (l := colL T G (T.items.idxOf x)) (List.mem_map_of_mem (f := fun r => r.getD (T.items.idxOf x) nox) hr) (List.mem_map_of_mem (f := fun r => r.getD (T.items.idxOf x) nox) hs) hne
    have e : T.items.getD (T.items.idxOf x) nox = x := by rw [it_get ok hi]; exact List.getElem_idxOf hi
    have hs' : T.items.idxOf x ∈ spots T G := mem_spots.mpr ⟨hi, by omega⟩
    have := List.mem_map_of_mem (f := fun k => T.items.getD k nox) hs'
    rw [e] at this
    exact this
theorem spotsW (b : Base T) (hG : Sub T G) (h : spots T G ≠ []) : spots (wideT T) G ≠ [] := fun e => by
  obtain ⟨r, hr⟩ := List.exists_mem_of_ne_nil _ (alive_ne h)
  have hz : zoneS ∈ (cutT (wideT T) G).items := (mem_cutI (wide_ok b)).mpr ⟨(qnZ b).it, _, (aliveW b hG).mpr ⟨r, hr, .inl rfl⟩, _, (aliveW b hG).mpr ⟨r, hr, .inr rfl⟩, by
    unfold at_
    rw [idxZ b, ins_at (b.spr (arow hr)), ins_at (b.spr (arow hr))]
    decide⟩
  obtain ⟨k, hk, _⟩ := List.mem_map.mp hz
  rw [e] at hk
  exact List.not_mem_nil hk
theorem cutW_items (b : Base T) (hG : Sub T G) (h : spots T G ≠ []) : (cutT (wideT T) G).items = (wideT (cutT T G)).items := by
  have bc := cut_base (G := G) b h
  have okW := wide_ok b
  refine sorted_txt (cut_good okW (wide_good b)).si wideI_sorted (cut_ok okW).nd (wide_ok bc).nd fun x => ?_
  have e1 : x ∈ (wideT (cutT T G)).items ↔ x ∈ (cutT T G).items ∨ x = zoneS := by
    rw [show (wideT (cutT T G)).items = wideI (cutT T G) from rfl, wideI_perm.mem_iff, List.mem_append, List.mem_singleton]
  have e2 : x ∈ (wideT T).items ↔ x ∈ T.items ∨ x = zoneS := by
    rw [show (wideT T).items = wideI T from rfl, wideI_perm.mem_iff, List.mem_append, List.mem_singleton]
  rw [e1, mem_cutI okW, mem_cutI b.ok, e2]
  constructor
  · rintro ⟨h1 | h1, e, he, f, hf, hne⟩
    · left
      refine ⟨h1, ?_⟩
      obtain ⟨r, hr, hr'⟩ := (aliveW b hG).mp he
      obtain ⟨s, hs, hs'⟩ := (aliveW b hG).mp hf
      refine ⟨r, hr, s, hs, fun q => hne ?_⟩
      have ar : at_ (wideT T) e x = at_ T r x := by rcases hr' with rfl | rfl <;> exact wide_at b (arow hr) (itz b h1)
      have as : at_ (wideT T) f x = at_ T s x := by rcases hs' with rfl | rfl <;> exact wide_at b (arow hs) (itz b h1)
      rw [ar, as, q]
    · exact .inr h1
  · rintro (⟨h1, r, hr, s, hs, hne⟩ | h1)
    · refine ⟨.inl h1, _, (aliveW b hG).mpr ⟨r, hr, .inl rfl⟩, _, (aliveW b hG).mpr ⟨s, hs, .inl rfl⟩, ?_⟩
      rw [wide_at b (arow hr) (itz b h1), wide_at b (arow hs) (itz b h1)]
      exact hne
    · obtain ⟨r, hr⟩ := List.exists_mem_of_ne_nil _ (alive_ne h)
      refine ⟨.inr h1, _, (aliveW b hG).mpr ⟨r, hr, .inl rfl⟩, _, (aliveW b hG).mpr ⟨r, hr, .inr rfl⟩, ?_⟩
      rw [h1]
      unfold at_
      rw [idxZ b, ins_at (b.spr (arow hr)), ins_at (b.spr (arow hr))]
      decide
theorem row_ext {I e f : List Str} (nd : I.Nodup) (h1 : e.length = I.length) (h2 : f.length = I.length) (h : ∀ x ∈ I, e.getD (I.idxOf x) nox = f.getD (I.idxOf x) nox) : e = f := by
  refine List.ext_getElem (by omega) fun n hn1 hn2 => ?_
  have hI : n < I.length := by omega
  have q := h I[n] (List.getElem_mem _)
  rw [nd.idxOf_getElem n hI] at q
  rw [List.getD_eq_getElem?_getD, List.getD_eq_getElem?_getD, List.getElem?_eq_getElem hn1, List.getElem?_eq_getElem hn2] at q
  exact q
theorem sel_ins (b : Base T) (hG : Sub T G) (h : spots T G ≠ []) {r : List Str} (hr : r ∈ alive T G) {w : Str} (hw : w = nearS ∨ w = wideS) : sel (wideT T) G (ins (spot T) w r) = ins (spot (cutT T G)) w (sel T G r) := by
  have bc := cut_base (G := G) b h
  have okW := wide_ok b
  have hcr : sel T G r ∈ (cutT T G).rows := mem_cut.mpr ⟨r, hr, rfl⟩
  have heW : ins (spot T) w r ∈ alive (wideT T) G := (aliveW b hG).mpr ⟨r, hr, by rcases hw with rfl | rfl; exact .inl rfl; exact .inr rfl⟩
  have hI := cutW_items b hG h
  have hf : ins (spot (cutT T G)) w (sel T G r) ∈ (wideT (cutT T G)).rows := mem_wide.mpr ⟨_, hcr, by rcases hw with rfl | rfl; exact .inl rfl; exact .inr rfl⟩
  refine row_ext (cut_ok (G := G) okW).nd ((cut_ok (G := G) okW).len _ (mem_cut.mpr ⟨_, heW, rfl⟩)) (by rw [hI]; exact (wide_ok bc).len _ hf) fun x hx => ?_
  have a1 := cut_at okW (ins (spot T) w r) hx
  unfold at_ at a1
  rw [a1]
  have hx2 : x ∈ (wideT (cutT T G)).items := by rw [← hI]; exact hx
  rw [hI]
  by_cases e : x = zoneS
  · rw [e]
    have l1 : (ins (spot T) w r).getD ((wideT T).items.idxOf zoneS) nox = w := ins_at (b.spr (arow hr))
    have l2 : (ins (spot (cutT T G)) w (sel T G r)).getD ((wideT (cutT T G)).items.idxOf zoneS) nox = w := ins_at (bc.spr hcr)
    rw [l1, l2]
  · have l1 := wide_at (w := w) b (arow hr) e
    have l2 := wide_at (w := w) bc hcr e
    unfold at_ at l1 l2
    rw [l1, l2]
    have hx3 : x ∈ (cutT T G).items := by
      rcases List.mem_append.mp (wideI_perm.mem_iff.mp hx2) with q | q
      · exact q
      · exact absurd (List.mem_singleton.mp q) e
    have l3 := cut_at b.ok r hx3
    unfold at_ at l3
    rw [l3]
theorem cutW (b : Base T) (hG : Sub T G) (h : spots T G ≠ []) : cutT (wideT T) G = wideT (cutT T G) := by
  have bc := cut_base (G := G) b h
  have okW := wide_ok b
  have gC := cut_good (G := G) okW (wide_good b)
  have gW := wide_good bc
  have hr : (cutT (wideT T) G).rows = (wideT (cutT T G)).rows := by
    refine sorted_rows gC.sr gW.sr gC.nr gW.nr fun e => ?_
    rw [mem_cut, mem_wide]
    constructor
    · rintro ⟨f, hf, rfl⟩
      obtain ⟨r, hr, rfl | rfl⟩ := (aliveW b hG).mp hf
      · exact ⟨_, mem_cut.mpr ⟨r, hr, rfl⟩, .inl (sel_ins b hG h hr (.inl rfl))⟩
      · exact ⟨_, mem_cut.mpr ⟨r, hr, rfl⟩, .inr (sel_ins b hG h hr (.inr rfl))⟩
    · rintro ⟨c, hc, rfl | rfl⟩
      · obtain ⟨r, hr, rfl⟩ := mem_cut.mp hc
        exact ⟨_, (aliveW b hG).mpr ⟨r, hr, .inl rfl⟩, (sel_ins b hG h hr (.inl rfl)).symm⟩
      · obtain ⟨r, hr, rfl⟩ := mem_cut.mp hc
        exact ⟨_, (aliveW b hG).mpr ⟨r, hr, .inr rfl⟩, (sel_ins b hG h hr (.inr rfl)).symm⟩
  have hI := cutW_items b hG h
  generalize cutT (wideT T) G = A at hr hI
  generalize wideT (cutT T G) = B at hr hI
  cases A
  cases B
  simp only at hr hI
  rw [hr, hI]
end K15
namespace K15
open PySem PySem.Spec PyProof.Rows L2 Mp Pilot K5 K13
variable {S : Sto} {T : Tab} {G : List NK}
theorem lc_pick {α : Type} (f : α → Val) {i : Nat} {tt : MT} {m : ME} {s : Src} {sl : Sl} (I : Sto → Prop) (hs : s.n = none) : ∀ (l : List α) {S : Sto}, (∀ x ∈ l, ∀ S, I S → ∃ b S', tt (sl.set i (some (f x))) S = some (b, S') ∧ I S') → (∀ x ∈ l, ∀ S, m (sl.set i (some (f x))) S = some (f x, S)) → I S →
    ∃ (sub : List α) (S' : Sto), lcX (.nm i) tt m s sl (l.map f) S = some (sub.map f, S') ∧ I S' ∧ (∀ k ∈ sub, k ∈ l) ∧ sub.length ≤ l.length
  | [], S, _, _, h => ⟨[], S, by simp [lcX, Src.ok, hs], h, fun _ q => q, Nat.le_refl _⟩
  | x :: l, S, st, mm, h => by
    obtain ⟨b, S1, e1, h1⟩ := st x List.mem_cons_self S h
    obtain ⟨sub, S2, e2, h2, h3, h4⟩ := lc_pick f I hs l (fun y hy => st y (List.mem_cons_of_mem _ hy)) (fun y hy => mm y (List.mem_cons_of_mem _ hy)) h1
    cases b with
    | true =>
      refine ⟨x :: sub, S2, ?_, h2, fun k hk => ?_, by simp; omega⟩
      · simp only [List.map_cons, lcX, Src.ok, hs, if_true, Tn.m, gNm, Option.bind_some, e1, mm x List.mem_cons_self, e2]
      · rcases List.mem_cons.mp hk with rfl | hk
        · exact List.mem_cons_self
        · exact List.mem_cons_of_mem _ (h3 k hk)
    | false =>
      refine ⟨sub, S2, ?_, h2, fun k hk => List.mem_cons_of_mem _ (h3 k hk), by simp; omega⟩
      simp only [List.map_cons, lcX, Src.ok, hs, if_true, Tn.m, gNm, Option.bind_some, e1, Bool.false_eq_true, if_false, e2]
def lessV (T : Tab) (G : List NK) : Val := if spots T G = [] then .non else vT (cutT T G)
theorem sp_left (ok : T.Ok) (hG : Sub T G) : m_left [vT T, gV G] S = some (lessV T G, S) := by
  unfold lessV
  by_cases h : spots T G = []
  · rw [if_pos h]; exact left_none ok hG h
  · rw [if_neg h]; exact left_some ok hG h
theorem isn_none {sl : Sl} {i : Nat} (h : sl[i]? = some (some .non)) : tTru (eOp2 (fIs true) (eVar i) (eCon .non)) sl S = some (false, S) := tru_ev (op2_ev (x := .non) (y := .non) (var_ev h) con_ev rfl)
theorem isn_some {sl : Sl} {i : Nat} {C : Tab} (h : sl[i]? = some (some (vT C))) : tTru (eOp2 (fIs true) (eVar i) (eCon .non)) sl S = some (true, S) := tru_ev (op2_ev (x := vT C) (y := .non) (var_ev h) con_ev rfl)
theorem in_items {C : Tab} {x : Str} (ok : C.Ok) (hx : x ∈ wideH) : fIn false S (.str x) (.ptp (sV C.items)) = some (.bl (decide (x ∈ C.items))) := by
  have e := fIn_ptp (neg := false) (S := S) (a := txt x) (ks := C.items.map txt) ⟨by simp [NestedKey.data, PyData.canLay0, wideH_ok x hx], by simp [NestedKey.depth]⟩ (fun j hj => by
    obtain ⟨y, hy, rfl⟩ := List.mem_map.mp hj
    exact ⟨by simp [NestedKey.data, PyData.canLay0, wideH_ok y (ok.it y hy)], by simp [NestedKey.depth]⟩)
  rw [ofKs_txt, Bool.false_xor] at e
  refine e.trans ?_
  congr 2
  refine decide_eq_decide.mpr ⟨fun z => ?_, fun z => List.mem_map_of_mem (f := txt) z⟩
  obtain ⟨y, hy, e⟩ := List.mem_map.mp z
  injection e with e
  rw [← e]; exact hy
theorem len_ptp2 {l : List Str} : fLen S [.ptp (sV l)] = some (.int (l.length : Int)) := len_ptp
theorem sp_cq (b : Base T) (hG : Sub T G) {R : SO} (hR : IsR R) : ∃ R', IsR R' ∧ m_cq [.ref 0, vT T, gV G, lessV T G, vT (wideT T)] [R] = some (.bl true, [R']) := by
  have hil : 0 < T.items.length := List.length_pos_iff.mpr b.ne
  have h5 := b.i3
  let L : Option Val := some (lessV T G)
  let W : Option Val := some (vT (wideT T))
  obtain ⟨d, R1, hR1, d0, d1, e1⟩ := draw_ev (sl := [some (.ref 0), some (vT T), some (gV G), L, W, none, none, none]) (t := []) (a := eFn fLen (es1 (eOp2 fIx (eVar 1) (eI 0)))) (many := (T.items.length : Int)) hR rfl (fn_ev (vs := [.ptp (sV T.items)]) (cons_ev (ixT0 rfl) nil_ev) len_ptp) (by omega) (by omega)
  obtain ⟨j, rfl⟩ : ∃ j : Nat, d = (j : Int) := ⟨d.toNat, by omega⟩
  have hj : j < T.items.length := by omega
  have hx : T.items.getD j nox ∈ T.items := by rw [it_get b.ok hj]; exact List.getElem_mem _
  generalize hxx : T.items.getD j nox = x at hx
  have z1 : cq_1 [some (.ref 0), some (vT T), some (gV G), L, W, none, none, none] [R] = some (.nxt, [some (.ref 0), some (vT T), some (gV G), L, W, some (.str x), none, none], [R1]) :=
    set_ev (op2_ev (x := .ptp (sV T.items)) (y := .int (j : Int)) (ixT0 rfl) e1 (show L2.atI (sV T.items) ((j : Nat) : Int) = _ by rw [atI_str hj, hxx]))
  obtain ⟨C, S2, e3, ⟨R2, hR2, rfl⟩, hC, hCl⟩ := lc_pick Val.str (i := 7) (tt := tTru (eOp2 (fEq false) (c_draw (eI 2)) (eI 0))) (m := eVar 7) (s := ⟨sV (cands T (T.items.idxOf x)), none⟩) (sl := wipeS [some (.ref 0), some (vT T), some (gV G), L, W, some (.str x), none, none] [7]) (fun S => ∃ R, IsR R ∧ S = [R]) rfl (cands T (T.items.idxOf x)) (S := [R1])
    (fun c hc S h => by
      obtain ⟨R, hR, rfl⟩ := h
      obtain ⟨d, R', hR', _, _, e⟩ := draw_ev (sl := (wipeS [some (.ref 0), some (vT T), some (gV G), L, W, some (.str x), none, none] [7]).set 7 (some (.str c))) (t := []) (a := eI 2) (many := 2) hR rfl con_ev (by decide) (by decide)
      exact ⟨decide (d = 0), _, tru_ev (op2_ev (x := .int d) (y := .int 0) e con_ev fEq_int), R', hR', rfl⟩)
    (fun c _ S => var_ev rfl) ⟨R1, hR1, rfl⟩
  have q : Qn T x C := ⟨hx, hC⟩
  have z2 : cq_2 [some (.ref 0), some (vT T), some (gV G), L, W, some (.str x), none, none] [R1] = some (.nxt, [some (.ref 0), some (vT T), some (gV G), L, W, some (.str x), some (.tup (sV C)), none], [R2]) := by
    refine set_ev (v := .tup (sV C)) (fn_ev (vs := [.lst (sV C)]) (S1 := [R2]) (cons_ev ?_ nil_ev) rfl)
    have hit : iSeq (eCall m_cand (es2 (eVar 1) (eVar 5))) [some (.ref 0), some (vT T), some (gV G), L, W, some (.str x), none, none] [R1] = some (⟨sV (cands T (T.items.idxOf x)), none⟩, [R1]) := seqT_ev (call_ev (vs := [vT T, .str x]) (cons_ev (var_ev rfl) (cons_ev (var_ev rfl) nil_ev)) (sp_cand b.ok hx))
    simp only [eLc, hit, Option.bind_some]
    rw [e3]
    rfl
  have z3 : cq_3 [some (.ref 0), some (vT T), some (gV G), L, W, some (.str x), some (.tup (sV C)), none] [R2] = some (.nxt, [some (.ref 0), some (vT T), some (gV G), L, W, some (.str x), some (.tup (sV C)), none], [R2]) := by
    by_cases h : spots T G = []
    · have hL : L = some .non := by show some (lessV T G) = _; unfold lessV; rw [if_pos h]
      rw [hL]
      exact if_f (S1 := [R2]) (and_f (isn_none rfl)) skip_ev
    · have hL : L = some (vT (cutT T G)) := by show some (lessV T G) = _; unfold lessV; rw [if_neg h]
      rw [hL]
      have ci : tTru (eOp2 (fIn false) (eVar 5) (eOp2 fIx (eVar 3) (eI 0))) [some (.ref 0), some (vT T), some (gV G), some (vT (cutT T G)), W, some (.str x), some (.tup (sV C)), none] [R2] = some (decide (x ∈ (cutT T G).items), [R2]) :=
        tru_ev (op2_ev (x := .str x) (y := .ptp (sV (cutT T G).items)) (var_ev rfl) (ixT0 rfl) (in_items (cut_ok b.ok) (b.ok.it x hx)))
      by_cases hc : x ∈ (cutT T G).items
      · rw [decide_eq_true hc] at ci
        exact if_t (S1 := [R2]) (and_t (S1 := [R2]) (isn_some rfl) ci) (if_f (S1 := [R2]) (not_ev (b := true) (tru_ev (call_ev (vs := [vT T, gV G, vT (cutT T G), .str x, .tup (sV C)]) (cons_ev (var_ev rfl) (cons_ev (var_ev rfl) (cons_ev (var_ev rfl) (cons_ev (var_ev rfl) (cons_ev (var_ev rfl) nil_ev))))) (sp_clq b.ok hG q hc h)))) skip_ev)
      · rw [decide_eq_false hc] at ci
        exact if_f (S1 := [R2]) (and_t (S1 := [R2]) (isn_some rfl) ci) skip_ev
  refine ⟨R2, hR2, def_keep (sl := [some (.ref 0), some (vT T), some (gV G), L, W, some (.str x), some (.tup (sV C)), none]) rfl ?_⟩
  exact seq_ev z1 (seq_ev z2 (seq_ev z3 (ret_ev (call_ev (vs := [vT T, gV G, vT (wideT T), .str x, .tup (sV C)]) (cons_ev (var_ev rfl) (cons_ev (var_ev rfl) (cons_ev (var_ev rfl) (cons_ev (var_ev rfl) (cons_ev (var_ev rfl) nil_ev))))) (sp_cwq b hG q)))))
/-! a table is itself -/
theorem tab_self (ok : T.Ok) : fEq true S (vT T) (vT T) = some (.bl false) := by
  have fi : ∀ k ∈ T.items.map txt, Fine k := fun k hk => by
    obtain ⟨y, hy, rfl⟩ := List.mem_map.mp hk
    exact ⟨by simp [NestedKey.data, PyData.canLay0, wideH_ok y (ok.it y hy)], by simp [NestedKey.depth]⟩
  have f1 : Fine (.tup (T.items.map txt)) := fineTup fi fun k hk => by
    obtain ⟨y, hy, rfl⟩ := List.mem_map.mp hk
    simp [NestedKey.depth]
  have f2 : Fine (.tup (T.rows.map rK)) := by
    have := rows_fineT ok (T := T) []
    rw [alive_none] at this
    exact this
  have d1 : toDS S (vT T) = some (NestedKey.tup [.tup (T.items.map txt), .tup (T.rows.map rK)]).data := by
    have a : toDs (sV T.items) = some (NestedKey.datas (T.items.map txt)) := by rw [← ofKs_txt, toDs_ofKs]
    have c : toDs (T.rows.map vR) = some (NestedKey.datas (T.rows.map rK)) := by rw [← ofKs_rows, toDs_ofKs]
    show toD (.tup [.ptp (sV T.items), .tup (T.rows.map vR)]) = _
    simp [toD, toDs, a, c, NestedKey.data, NestedKey.datas]
  have cl : (NestedKey.tup [.tup (T.items.map txt), .tup (T.rows.map rK)]).data.canLay0 = true := by
    have a := f1.1
    have c := f2.1
    simp only [NestedKey.data, NestedKey.datas, PyData.canLay0, PyData.canLayAll0] at a c ⊢
    rw [a, c]
    rfl
  have dp : (NestedKey.tup [.tup (T.items.map txt), .tup (T.rows.map rK)]).depth ≤ 64 := by
    have a := f1.2
    have c := f2.2
    simp only [NestedKey.depth, NestedKey.depthAll] at a c ⊢
    omega
  have e : eqOk (NestedKey.tup [.tup (T.items.map txt), .tup (T.rows.map rK)]).data (NestedKey.tup [.tup (T.items.map txt), .tup (T.rows.map rK)]).data = true := by
    unfold eqOk
    rw [cl, data_depth]
    simp only [Bool.true_and, decide_eq_true_eq]
    omega
  simp only [fEq, d1, Option.bind_some, e, if_true, eqv_iff]
  simp
/-! ### the law -/
abbrev lwS (v : Val) (x2 : Option Val) (T : Tab) (x5 x6 x7 x8 x9 : Option Val) : Sl := [some v, some (.ref 0), x2, some (vT T), some (vT (wideT T)), x5, x6, x7, x8, x9]
theorem sp_in {v : Val} {x2 x5 x6 x7 x8 x9 : Option Val} {R : SO} (b : Base T) (hR : IsR R) : ∃ R' y6 y7 y8 y9, IsR R' ∧ k_in (lwS v x2 T x5 x6 x7 x8 x9) [R] = some (.nxt, lwS v x2 T x5 y6 y7 y8 y9, [R']) := by
  have hPs : Sub T (pairsOf T) := ⟨fun k hk => mem_pairsOf.mp hk, Nat.le_trans (sorted_len fun k hk => allP_pr b.ok hk) (by decide)⟩
  obtain ⟨G, R1, hR1, g1, g2, eg⟩ := sp_subset (P := pairsOf T) hR
  have hG : Sub T G := ⟨fun k hk => hPs.sub k (g1 k hk), Nat.le_trans g2 hPs.few⟩
  obtain ⟨M, R2, hR2, m1, m2, em⟩ := sp_subset (P := pairsOf T) hR1
  have hM : Sub T M := ⟨fun k hk => hPs.sub k (m1 k hk), Nat.le_trans m2 hPs.few⟩
  have okW := wide_ok b
  have sb : ∀ (sl : Sl) (R R' : SO) (K : List NK), sl[1]? = some (some (.ref 0)) → sl[3]? = some (some (vT T)) → m_subset [.ref 0, gV (pairsOf T)] [R] = some (gV K, [R']) → k_sub sl [R] = some (gV K, [R']) := fun sl R R' K h1 h3 e => call_ev (vs := [.ref 0, gV (pairsOf T)]) (S1 := [R]) (cons_ev (var_ev h1) (cons_ev (call_ev (vs := [vT T]) (S1 := [R]) (cons_ev (var_ev h3) nil_ev) (sp_pairs_of b.ok)) nil_ev)) e
  have z1 : k_d (lwS v x2 T x5 x6 x7 x8 x9) [R] = some (.nxt, lwS v x2 T x5 (some (gV G)) (some (gV M)) x8 x9, [R2]) := par_ev (sb _ _ _ _ rfl rfl eg) (sb _ _ _ _ rfl rfl em)
  have z2 : k_e (lwS v x2 T x5 (some (gV G)) (some (gV M)) x8 x9) [R2] = some (.nxt, lwS v x2 T x5 (some (gV G)) (some (gV M)) (some (lessV T G)) x9, [R2]) := set_ev (call_ev (vs := [vT T, gV G]) (cons_ev (var_ev rfl) (cons_ev (var_ev rfl) nil_ev)) (sp_left b.ok hG))
  have z3 : k_f (lwS v x2 T x5 (some (gV G)) (some (gV M)) (some (lessV T G)) x9) [R2] = some (.nxt, lwS v x2 T x5 (some (gV G)) (some (gV M)) (some (lessV T G)) x9, [R2]) := by
    unfold lessV
    by_cases h : spots T G = []
    · rw [if_pos h]
      exact if_f (S1 := [R2]) (and_f (isn_none rfl)) skip_ev
    · rw [if_neg h]
      exact if_f (S1 := [R2]) (and_t (S1 := [R2]) (isn_some rfl) (not_ev (b := true) (tru_ev (call_ev (vs := [vT T, gV G, vT (cutT T G), gV M]) (S1 := [R2]) (cons_ev (var_ev rfl) (cons_ev (var_ev rfl) (cons_ev (var_ev rfl) (cons_ev (var_ev rfl) nil_ev)))) (sp_cl b.ok b.g hG hM h))))) skip_ev
  have z4 : k_g (lwS v x2 T x5 (some (gV G)) (some (gV M)) (some (lessV T G)) x9) [R2] = some (.nxt, lwS v x2 T x5 (some (gV G)) (some (gV M)) (some (lessV T G)) x9, [R2]) :=
    if_f (S1 := [R2]) (not_ev (b := true) (tru_ev (call_ev (vs := [vT T, gV G, vT (wideT T), gV M]) (S1 := [R2]) (cons_ev (var_ev rfl) (cons_ev (var_ev rfl) (cons_ev (var_ev rfl) (cons_ev (var_ev rfl) nil_ev)))) (sp_cw b hG hM)))) skip_ev
  have z5 : k_h (lwS v x2 T x5 (some (gV G)) (some (gV M)) (some (lessV T G)) x9) [R2] = some (.nxt, lwS v x2 T x5 (some (gV G)) (some (gV M)) (some (lessV T G)) x9, [R2]) := by
    unfold lessV
    by_cases h : spots T G = []
    · rw [if_pos h]
      exact if_f (S1 := [R2]) (and_f (isn_none rfl)) skip_ev
    · rw [if_neg h]
      refine if_f (S1 := [R2]) (and_t (S1 := [R2]) (isn_some rfl) (tru_ev (op2_ev (x := vT (wideT (cutT T G))) (y := vT (wideT (cutT T G))) (S1 := [R2]) (S2 := [R2]) ?_ (call_ev (vs := [vT (cutT T G)]) (cons_ev (var_ev rfl) nil_ev) (sp_wd (cut_base b h))) (tab_self (wide_ok (cut_base b h)))))) skip_ev
      rw [← cutW b hG h]
      exact call_ev (vs := [vT (wideT T), gV G]) (cons_ev (var_ev rfl) (cons_ev (var_ev rfl) nil_ev)) (left_some okW (subW b hG) (spotsW b hG h))
  obtain ⟨sl', S', e, R3, y9, hR3, rfl, rfl⟩ := for_inv (tg := gNm 9) (s := ⟨(List.range 2).map fun i : Nat => Val.int (i : Int), none⟩) (body := k_i) (fun sl S => ∃ R y9, IsR R ∧ sl = lwS v x2 T x5 (some (gV G)) (some (gV M)) (some (lessV T G)) y9 ∧ S = [R]) rfl (fun i : Nat => Val.int (i : Int)) (List.range 2) (sl := lwS v x2 T x5 (some (gV G)) (some (gV M)) (some (lessV T G)) x9) (S := [R2])
    (fun k hk sl S h => by
      obtain ⟨R, y9, hR, rfl, rfl⟩ := h
      obtain ⟨R', hR', e⟩ := sp_cq b hG hR
      exact ⟨_, lwS v x2 T x5 (some (gV G)) (some (gV M)) (some (lessV T G)) (some (.int (k : Int))), [R'], rfl, if_f (S1 := [R']) (not_ev (b := true) (tru_ev (call_ev (vs := [.ref 0, vT T, gV G, lessV T G, vT (wideT T)]) (S1 := [R]) (cons_ev (var_ev rfl) (cons_ev (var_ev rfl) (cons_ev (var_ev rfl) (cons_ev (var_ev rfl) (cons_ev (var_ev rfl) nil_ev))))) e))) skip_ev, R', _, hR', rfl, rfl⟩) ⟨R2, x9, hR2, rfl, rfl⟩
  refine ⟨R3, some (gV G), some (gV M), some (lessV T G), y9, hR3, seq_ev z1 (seq_ev z2 (seq_ev z3 (seq_ev z4 (seq_ev z5 (for_ev (s := ⟨rngL 0 2, none⟩) (S1 := [R2]) (rng_ev con_ev (by decide)) ?_)))))⟩
  rw [rng_map]
  exact e
theorem sp_lw {v : Val} {ns : List Int} (h : v = .scr (ns.map Val.int) ∨ v = .lst (ns.map Val.int)) : ∃ S', m_lw [v] [] = some (.bl true, S') := by
  obtain ⟨R0, hR0, e0⟩ := sp_reader h
  obtain ⟨sl', S', e, hP⟩ := for_inv (tg := gNm 2) (s := ⟨(List.range 4).map fun i : Nat => Val.int (i : Int), none⟩) (body := k_body)
    (fun sl S => ∃ R x2 x3 x4 x5 x6 x7 x8 x9, IsR R ∧ sl = [some v, some (.ref 0), x2, x3, x4, x5, x6, x7, x8, x9] ∧ S = [R]) rfl (fun i : Nat => Val.int (i : Int)) (List.range 4) (sl := [some v, some (.ref 0), none, none, none, none, none, none, none, none]) (S := [R0])
    (fun x hx sl S h => by
      obtain ⟨R, x2, x3, x4, x5, x6, x7, x8, x9, hR, rfl, rfl⟩ := h
      obtain ⟨T, R1, ok, ⟨hi, hrows⟩, hg, hpo, h3, h12, hR1, e1⟩ := sp_table (most := 8) hR (by decide) (by decide)
      have b : Base T := ⟨ok, hg, hi, hrows, fun z => absurd (hpo _ z) (by decide), by omega, by
        have : (8 : Int).toNat = 8 := rfl
        omega⟩
      have okW := wide_ok b
      have ea : k_a [some v, some (.ref 0), some (.int (x : Int)), x3, x4, x5, x6, x7, x8, x9] [R] = some (.nxt, [some v, some (.ref 0), some (.int (x : Int)), some (vT T), x4, x5, x6, x7, x8, x9], [R1]) :=
        set_ev (call_ev (vs := [.ref 0, .int 3, .int 8]) (S1 := [R]) (cons_ev (var_ev rfl) (cons_ev con_ev (cons_ev con_ev nil_ev))) e1)
      have eb : k_b [some v, some (.ref 0), some (.int (x : Int)), some (vT T), x4, x5, x6, x7, x8, x9] [R1] = some (.nxt, lwS v (some (.int (x : Int))) T x5 x6 x7 x8 x9, [R1]) := set_ev (call_ev (vs := [vT T]) (cons_ev (var_ev rfl) nil_ev) (sp_wd b))
      have hWn : (wideT T).rows.length = 2 * T.rows.length := by
        show (sortR (wideE T)).length = _
        rw [(sortR_perm _).length_eq, wideE, List.length_append, List.length_map, List.length_map]
        omega
      have hWr : (wideT T).rows ≠ [] := fun z => by
        rw [z] at hWn
        have := List.length_pos_iff.mpr hrows
        rw [List.length_nil] at hWn
        omega
      have hWi : (wideT T).items ≠ [] := fun z => by
        have := (qnZ b).it
        rw [z] at this
        exact List.not_mem_nil this
      have ec : k_c (lwS v (some (.int (x : Int))) T x5 x6 x7 x8 x9) [R1] = some (.nxt, lwS v (some (.int (x : Int))) T x5 x6 x7 x8 x9, [R1]) :=
        if_f (S1 := [R1]) (tru_ev (op2_ev (x := .int ((wideT T).rows.length : Int)) (y := .int (2 * (T.rows.length : Int))) (S1 := [R1]) (S2 := [R1]) (call_ev (vs := [vT (wideT T)]) (cons_ev (var_ev rfl) nil_ev) (sp_lts okW (wide_good b) hWi hWr)) (op2_ev (x := .int 2) (y := .int (T.rows.length : Int)) con_ev (fn_ev (vs := [.tup (T.rows.map vR)]) (cons_ev (ixT1 rfl) nil_ev) len_rows) (mul_int (by decide))) (fEq_nat (by rw [hWn]; omega)))) skip_ev
      obtain ⟨sl', S', e5, R3, y5, y6, y7, y8, y9, hR3, rfl, rfl⟩ := for_inv (tg := gNm 5) (s := ⟨(List.range 3).map fun i : Nat => Val.int (i : Int), none⟩) (body := k_in)
        (fun sl S => ∃ R y5 y6 y7 y8 y9, IsR R ∧ sl = lwS v (some (.int (x : Int))) T y5 y6 y7 y8 y9 ∧ S = [R]) rfl (fun i : Nat => Val.int (i : Int)) (List.range 3) (sl := lwS v (some (.int (x : Int))) T x5 x6 x7 x8 x9) (S := [R1])
        (fun k hk sl S h => by
          obtain ⟨R, y5, y6, y7, y8, y9, hR, rfl, rfl⟩ := h
          obtain ⟨R', z6, z7, z8, z9, hR', e⟩ := sp_in (v := v) (x2 := some (.int (x : Int))) (x5 := some (.int (k : Int))) (x6 := y6) (x7 := y7) (x8 := y8) (x9 := y9) b hR
          exact ⟨_, _, [R'], rfl, e, R', _, _, _, _, _, hR', rfl, rfl⟩) ⟨R1, x5, x6, x7, x8, x9, hR1, rfl, rfl⟩
      refine ⟨_, lwS v (some (.int (x : Int))) T y5 y6 y7 y8 y9, [R3], rfl, seq_ev ea (seq_ev eb (seq_ev ec (for_ev (s := ⟨rngL 0 3, none⟩) (S1 := [R1]) (rng_ev con_ev (by decide)) ?_))), R3, _, _, _, _, _, _, _, _, hR3, rfl, rfl⟩
      rw [rng_map]
      exact e5) ⟨R0, none, none, none, none, none, none, none, none, hR0, rfl, rfl⟩
  refine ⟨S', def_keep (sl := sl') rfl ?_⟩
  refine seq_ev (sl1 := [some v, some (.ref 0), none, none, none, none, none, none, none, none]) (S1 := [R0]) (set_ev (call_ev (vs := [v]) (S1 := []) (cons_ev (var_ev rfl) nil_ev) e0)) (seq_ev (for_ev (s := ⟨rngL 0 4, none⟩) (S1 := [R0]) (rng_ev con_ev (by decide)) ?_) (ret_ev con_ev))
  rw [rng_map]
  exact e
end K15
namespace K15
open PySem PySem.Spec PyProof.Rows L2 Mp Pilot K5
/-! ### what the top has written; the promise of the law -/
def isLst : Value → Bool
  | .type t => t == "list"
  | _ => false
def noLst (K : PySem.W.Frag) : Bool := K.all fun e => !(isLst e.2.cls)
theorem noLst_at {K : PySem.W.Frag} (h : noLst K = true) {a : Addr} {o : Obj} (hl : K.lookup a = some o) (hc : o.cls = .type "list") : False := by
  unfold noLst at h
  rw [List.all_eq_true] at h
  induction K with
  | nil => cases hl
  | cons e K ih =>
    rw [List.lookup_cons] at hl
    split at hl
    · have q := h e List.mem_cons_self
      cases hl
      rw [hc] at q
      simp [isLst] at q
    · exact ih (fun x hx => h x (List.mem_cons_of_mem _ hx)) hl
def spLaw (K : PySem.W.Frag) : Sp := fun vs H Q _ => noLst K = true ∧ ∃ (a : Addr) (ns : List Int), vs = [.ref a] ∧ SqL K H a (ns.map V.int) ∧ ns.length ≤ 63 ∧ ∀ H', Q (.bl true) H'
theorem ints_rv {g : Gx} {r : List Addr} {H : Hp} : ∀ ns : List Int, RVs g r H (ns.map Val.int) (ns.map V.int)
  | [] => .nil
  | n :: ns => .cons (.int n) (ints_rv ns)
theorem law_imp {K : PySem.W.Frag} {w : World} {vs : List V} {H : Hp} {Q : VK} {E : XK} (h : spLaw K vs H Q E) : spD { K := K, fa := fun _ => none, w := w } m_lw vs H Q E := by
  obtain ⟨hn, a, ns, rfl, hS, hl, q⟩ := h
  have hsz : (ns.map Val.int).length ≤ sizeLine := by
    rw [List.length_map]
    have := sizes
    omega
  have sr : SR (Gx.at { K := K, fa := fun _ => none, w := w } []) [] H [] := ⟨rfl, List.nodup_nil, fun p hp => (List.not_mem_nil hp).elim, fun p hp => (List.not_mem_nil hp).elim, fun i o a h1 h2 => by simp at h1⟩
  rcases hS with (hS | ⟨o, hS⟩) | ⟨o, its, n, hk, hc, _⟩
  · obtain ⟨S', e⟩ := sp_lw (v := .lst (ns.map Val.int)) (ns := ns) (.inr rfl)
    exact ⟨[], [], [], [.lst (ns.map Val.int)], .bl true, S', sr, .cons (.lst hS List.not_mem_nil List.not_mem_nil hsz (ints_rv ns)) .nil, e, fun r' H' hv _ _ rv => by cases rv; exact q H'⟩
  · obtain ⟨S', e⟩ := sp_lw (v := .scr (ns.map Val.int)) (ns := ns) (.inl rfl)
    exact ⟨[], [], [], [.scr (ns.map Val.int)], .bl true, S', sr, .cons (.scr hS List.not_mem_nil hsz (ints_rv ns)) .nil, e, fun r' H' hv _ _ rv => by cases rv; exact q H'⟩
  · exact (noLst_at hn hk hc).elim
set_option maxHeartbeats 0 in
theorem all_mk {l : PySem.W.OpenLaw} {w : World} {K : PySem.W.Frag} {h : Heap} {mg : Str → Option Value} {fa : Addr} (X : K.In h) (G : h.Ns mainGlobals mg) (hfa : mg "law" = some (.ref fa))
    {f1 : Addr} {od1 an1 : Option Addr} {sl1 : Array (Option Value)} {oc1 kV1 dc1 pm1 cd1 ct1 : Value}
    (a1 : PySem.W.nsIn K mainGlobals "candidates_of" = some (some (.ref f1))) (l1 : K.lookup f1 = some ⟨oc1, od1, .func (PySem.W.fnOf "candidates_of" "candidates_of" (defArgs s_cand) (defBody s_cand) (defScope s_cand) .none kV1 dc1 pm1 an1 cd1 ct1), sl1⟩) (c1 : PySem.W.codeIn K cd1 "candidates_of" = true) (k1 : PySem.W.keepIn K (.ref f1) = true)
    {f2 : Addr} {od2 an2 : Option Addr} {sl2 : Array (Option Value)} {oc2 kV2 dc2 pm2 cd2 ct2 : Value}
    (a2 : PySem.W.nsIn K mainGlobals "pairs_of" = some (some (.ref f2))) (l2 : K.lookup f2 = some ⟨oc2, od2, .func (PySem.W.fnOf "pairs_of" "pairs_of" (defArgs s_pairs_of) (defBody s_pairs_of) (defScope s_pairs_of) .none kV2 dc2 pm2 an2 cd2 ct2), sl2⟩) (c2 : PySem.W.codeIn K cd2 "pairs_of" = true) (k2 : PySem.W.keepIn K (.ref f2) = true)
    {f3 : Addr} {od3 an3 : Option Addr} {sl3 : Array (Option Value)} {oc3 kV3 dc3 pm3 cd3 ct3 : Value}
    (a3 : PySem.W.nsIn K mainGlobals "pairs_in" = some (some (.ref f3))) (l3 : K.lookup f3 = some ⟨oc3, od3, .func (PySem.W.fnOf "pairs_in" "pairs_in" (defArgs s_pairs_in) (defBody s_pairs_in) (defScope s_pairs_in) .none kV3 dc3 pm3 an3 cd3 ct3), sl3⟩) (c3 : PySem.W.codeIn K cd3 "pairs_in" = true) (k3 : PySem.W.keepIn K (.ref f3) = true)
    {f4 : Addr} {od4 an4 : Option Addr} {sl4 : Array (Option Value)} {oc4 kV4 dc4 pm4 cd4 ct4 : Value}
    (a4 : PySem.W.nsIn K mainGlobals "require_pairs" = some (some (.ref f4))) (l4 : K.lookup f4 = some ⟨oc4, od4, .func (PySem.W.fnOf "require_pairs" "require_pairs" (defArgs s_req) (defBody s_req) (defScope s_req) .none kV4 dc4 pm4 an4 cd4 ct4), sl4⟩) (c4 : PySem.W.codeIn K cd4 "require_pairs" = true) (k4 : PySem.W.keepIn K (.ref f4) = true)
    {f5 : Addr} {od5 an5 : Option Addr} {sl5 : Array (Option Value)} {oc5 kV5 dc5 pm5 cd5 ct5 : Value}
    (a5 : PySem.W.nsIn K mainGlobals "is_struck" = some (some (.ref f5))) (l5 : K.lookup f5 = some ⟨oc5, od5, .func (PySem.W.fnOf "is_struck" "is_struck" (defArgs s_struck) (defBody s_struck) (defScope s_struck) .none kV5 dc5 pm5 an5 cd5 ct5), sl5⟩) (c5 : PySem.W.codeIn K cd5 "is_struck" = true) (k5 : PySem.W.keepIn K (.ref f5) = true)
    {f6 : Addr} {od6 an6 : Option Addr} {sl6 : Array (Option Value)} {oc6 kV6 dc6 pm6 cd6 ct6 : Value}
    (a6 : PySem.W.nsIn K mainGlobals "alive_rows" = some (some (.ref f6))) (l6 : K.lookup f6 = some ⟨oc6, od6, .func (PySem.W.fnOf "alive_rows" "alive_rows" (defArgs s_alive) (defBody s_alive) (defScope s_alive) .none kV6 dc6 pm6 an6 cd6 ct6), sl6⟩) (c6 : PySem.W.codeIn K cd6 "alive_rows" = true) (k6 : PySem.W.keepIn K (.ref f6) = true)
    {f7 : Addr} {od7 an7 : Option Addr} {sl7 : Array (Option Value)} {oc7 kV7 dc7 pm7 cd7 ct7 : Value}
    (a7 : PySem.W.nsIn K mainGlobals "dead_pairs" = some (some (.ref f7))) (l7 : K.lookup f7 = some ⟨oc7, od7, .func (PySem.W.fnOf "dead_pairs" "dead_pairs" (defArgs s_dead) (defBody s_dead) (defScope s_dead) .none kV7 dc7 pm7 an7 cd7 ct7), sl7⟩) (c7 : PySem.W.codeIn K cd7 "dead_pairs" = true) (k7 : PySem.W.keepIn K (.ref f7) = true)
    {f8 : Addr} {od8 an8 : Option Addr} {sl8 : Array (Option Value)} {oc8 kV8 dc8 pm8 cd8 ct8 : Value}
    (a8 : PySem.W.nsIn K mainGlobals "does_break" = some (some (.ref f8))) (l8 : K.lookup f8 = some ⟨oc8, od8, .func (PySem.W.fnOf "does_break" "does_break" (defArgs s_break) (defBody s_break) (defScope s_break) .none kV8 dc8 pm8 an8 cd8 ct8), sl8⟩) (c8 : PySem.W.codeIn K cd8 "does_break" = true) (k8 : PySem.W.keepIn K (.ref f8) = true)
    {f9 : Addr} {od9 an9 : Option Addr} {sl9 : Array (Option Value)} {oc9 kV9 dc9 pm9 cd9 ct9 : Value}
    (a9 : PySem.W.nsIn K mainGlobals "require_question" = some (some (.ref f9))) (l9 : K.lookup f9 = some ⟨oc9, od9, .func (PySem.W.fnOf "require_question" "require_question" (defArgs s_rq) (defBody s_rq) (defScope s_rq) .none kV9 dc9 pm9 an9 cd9 ct9), sl9⟩) (c9 : PySem.W.codeIn K cd9 "require_question" = true) (k9 : PySem.W.keepIn K (.ref f9) = true)
    {f10 : Addr} {od10 an10 : Option Addr} {sl10 : Array (Option Value)} {oc10 kV10 dc10 pm10 cd10 ct10 : Value}
    (a10 : PySem.W.nsIn K mainGlobals "answer_at" = some (some (.ref f10))) (l10 : K.lookup f10 = some ⟨oc10, od10, .func (PySem.W.fnOf "answer_at" "answer_at" (defArgs s_aat) (defBody s_aat) (defScope s_aat) .none kV10 dc10 pm10 an10 cd10 ct10), sl10⟩) (c10 : PySem.W.codeIn K cd10 "answer_at" = true) (k10 : PySem.W.keepIn K (.ref f10) = true)
    {f11 : Addr} {od11 an11 : Option Addr} {sl11 : Array (Option Value)} {oc11 kV11 dc11 pm11 cd11 ct11 : Value}
    (a11 : PySem.W.nsIn K mainGlobals "answer_in" = some (some (.ref f11))) (l11 : K.lookup f11 = some ⟨oc11, od11, .func (PySem.W.fnOf "answer_in" "answer_in" (defArgs s_ain) (defBody s_ain) (defScope s_ain) .none kV11 dc11 pm11 an11 cd11 ct11), sl11⟩) (c11 : PySem.W.codeIn K cd11 "answer_in" = true) (k11 : PySem.W.keepIn K (.ref f11) = true)
    {f12 : Addr} {od12 an12 : Option Addr} {sl12 : Array (Option Value)} {oc12 kV12 dc12 pm12 cd12 ct12 : Value}
    (a12 : PySem.W.nsIn K mainGlobals "struck_by" = some (some (.ref f12))) (l12 : K.lookup f12 = some ⟨oc12, od12, .func (PySem.W.fnOf "struck_by" "struck_by" (defArgs s_sb) (defBody s_sb) (defScope s_sb) .none kV12 dc12 pm12 an12 cd12 ct12), sl12⟩) (c12 : PySem.W.codeIn K cd12 "struck_by" = true) (k12 : PySem.W.keepIn K (.ref f12) = true)
    {f13 : Addr} {od13 an13 : Option Addr} {sl13 : Array (Option Value)} {oc13 kV13 dc13 pm13 cd13 ct13 : Value}
    (a13 : PySem.W.nsIn K mainGlobals "paid_by" = some (some (.ref f13))) (l13 : K.lookup f13 = some ⟨oc13, od13, .func (PySem.W.fnOf "paid_by" "paid_by" (defArgs s_paid) (defBody s_paid) (defScope s_paid) .none kV13 dc13 pm13 an13 cd13 ct13), sl13⟩) (c13 : PySem.W.codeIn K cd13 "paid_by" = true) (k13 : PySem.W.keepIn K (.ref f13) = true)
    {f14 : Addr} {od14 an14 : Option Addr} {sl14 : Array (Option Value)} {oc14 kV14 dc14 pm14 cd14 ct14 : Value}
    (a14 : PySem.W.nsIn K mainGlobals "forced_answer" = some (some (.ref f14))) (l14 : K.lookup f14 = some ⟨oc14, od14, .func (PySem.W.fnOf "forced_answer" "forced_answer" (defArgs s_fa) (defBody s_fa) (defScope s_fa) .none kV14 dc14 pm14 an14 cd14 ct14), sl14⟩) (c14 : PySem.W.codeIn K cd14 "forced_answer" = true) (k14 : PySem.W.keepIn K (.ref f14) = true)
    {f15 : Addr} {od15 an15 : Option Addr} {sl15 : Array (Option Value)} {oc15 kV15 dc15 pm15 cd15 ct15 : Value}
    (a15 : PySem.W.nsIn K mainGlobals "is_name" = some (some (.ref f15))) (l15 : K.lookup f15 = some ⟨oc15, od15, .func (PySem.W.fnOf "is_name" "is_name" (defArgs s_isn) (defBody s_isn) (defScope s_isn) .none kV15 dc15 pm15 an15 cd15 ct15), sl15⟩) (c15 : PySem.W.codeIn K cd15 "is_name" = true) (k15 : PySem.W.keepIn K (.ref f15) = true)
    {f16 : Addr} {od16 an16 : Option Addr} {sl16 : Array (Option Value)} {oc16 kV16 dc16 pm16 cd16 ct16 : Value}
    (a16 : PySem.W.nsIn K mainGlobals "are_names" = some (some (.ref f16))) (l16 : K.lookup f16 = some ⟨oc16, od16, .func (PySem.W.fnOf "are_names" "are_names" (defArgs s_arn) (defBody s_arn) (defScope s_arn) .none kV16 dc16 pm16 an16 cd16 ct16), sl16⟩) (c16 : PySem.W.codeIn K cd16 "are_names" = true) (k16 : PySem.W.keepIn K (.ref f16) = true)
    {f17 : Addr} {od17 an17 : Option Addr} {sl17 : Array (Option Value)} {oc17 kV17 dc17 pm17 cd17 ct17 : Value}
    (a17 : PySem.W.nsIn K mainGlobals "is_rising" = some (some (.ref f17))) (l17 : K.lookup f17 = some ⟨oc17, od17, .func (PySem.W.fnOf "is_rising" "is_rising" (defArgs s_ris) (defBody s_ris) (defScope s_ris) .none kV17 dc17 pm17 an17 cd17 ct17), sl17⟩) (c17 : PySem.W.codeIn K cd17 "is_rising" = true) (k17 : PySem.W.keepIn K (.ref f17) = true)
    {f18 : Addr} {od18 an18 : Option Addr} {sl18 : Array (Option Value)} {oc18 kV18 dc18 pm18 cd18 ct18 : Value}
    (a18 : PySem.W.nsIn K mainGlobals "is_table_shape" = some (some (.ref f18))) (l18 : K.lookup f18 = some ⟨oc18, od18, .func (PySem.W.fnOf "is_table_shape" "is_table_shape" (defArgs s_shp) (defBody s_shp) (defScope s_shp) .none kV18 dc18 pm18 an18 cd18 ct18), sl18⟩) (c18 : PySem.W.codeIn K cd18 "is_table_shape" = true) (k18 : PySem.W.keepIn K (.ref f18) = true)
    {f19 : Addr} {od19 an19 : Option Addr} {sl19 : Array (Option Value)} {oc19 kV19 dc19 pm19 cd19 ct19 : Value}
    (a19 : PySem.W.nsIn K mainGlobals "check_rows" = some (some (.ref f19))) (l19 : K.lookup f19 = some ⟨oc19, od19, .func (PySem.W.fnOf "check_rows" "check_rows" (defArgs s_crw) (defBody s_crw) (defScope s_crw) .none kV19 dc19 pm19 an19 cd19 ct19), sl19⟩) (c19 : PySem.W.codeIn K cd19 "check_rows" = true) (k19 : PySem.W.keepIn K (.ref f19) = true)
    {f20 : Addr} {od20 an20 : Option Addr} {sl20 : Array (Option Value)} {oc20 kV20 dc20 pm20 cd20 ct20 : Value}
    (a20 : PySem.W.nsIn K mainGlobals "check_candidates" = some (some (.ref f20))) (l20 : K.lookup f20 = some ⟨oc20, od20, .func (PySem.W.fnOf "check_candidates" "check_candidates" (defArgs s_ccd) (defBody s_ccd) (defScope s_ccd) .none kV20 dc20 pm20 an20 cd20 ct20), sl20⟩) (c20 : PySem.W.codeIn K cd20 "check_candidates" = true) (k20 : PySem.W.keepIn K (.ref f20) = true)
    {f21 : Addr} {od21 an21 : Option Addr} {sl21 : Array (Option Value)} {oc21 kV21 dc21 pm21 cd21 ct21 : Value}
    (a21 : PySem.W.nsIn K mainGlobals "lets_table" = some (some (.ref f21))) (l21 : K.lookup f21 = some ⟨oc21, od21, .func (PySem.W.fnOf "lets_table" "lets_table" (defArgs s_lts) (defBody s_lts) (defScope s_lts) .none kV21 dc21 pm21 an21 cd21 ct21), sl21⟩) (c21 : PySem.W.codeIn K cd21 "lets_table" = true) (k21 : PySem.W.keepIn K (.ref f21) = true)
    {f22 : Addr} {od22 an22 : Option Addr} {sl22 : Array (Option Value)} {oc22 kV22 dc22 pm22 cd22 ct22 : Value}
    (a22 : PySem.W.nsIn K mainGlobals "_law_reader" = some (some (.ref f22))) (l22 : K.lookup f22 = some ⟨oc22, od22, .func (PySem.W.fnOf "_law_reader" "_law_reader" (defArgs s_reader) (defBody s_reader) (defScope s_reader) .none kV22 dc22 pm22 an22 cd22 ct22), sl22⟩) (c22 : PySem.W.codeIn K cd22 "_law_reader" = true) (k22 : PySem.W.keepIn K (.ref f22) = true)
    {f23 : Addr} {od23 an23 : Option Addr} {sl23 : Array (Option Value)} {oc23 kV23 dc23 pm23 cd23 ct23 : Value}
    (a23 : PySem.W.nsIn K mainGlobals "_law_draw" = some (some (.ref f23))) (l23 : K.lookup f23 = some ⟨oc23, od23, .func (PySem.W.fnOf "_law_draw" "_law_draw" (defArgs s_draw) (defBody s_draw) (defScope s_draw) .none kV23 dc23 pm23 an23 cd23 ct23), sl23⟩) (c23 : PySem.W.codeIn K cd23 "_law_draw" = true) (k23 : PySem.W.keepIn K (.ref f23) = true)
    {f24 : Addr} {od24 an24 : Option Addr} {sl24 : Array (Option Value)} {oc24 kV24 dc24 pm24 cd24 ct24 : Value}
    (a24 : PySem.W.nsIn K mainGlobals "_law_table" = some (some (.ref f24))) (l24 : K.lookup f24 = some ⟨oc24, od24, .func (PySem.W.fnOf "_law_table" "_law_table" (defArgs s_table) (defBody s_table) (defScope s_table) .none kV24 dc24 pm24 an24 cd24 ct24), sl24⟩) (c24 : PySem.W.codeIn K cd24 "_law_table" = true) (k24 : PySem.W.keepIn K (.ref f24) = true)
    {f25 : Addr} {od25 an25 : Option Addr} {sl25 : Array (Option Value)} {oc25 kV25 dc25 pm25 cd25 ct25 : Value}
    (a25 : PySem.W.nsIn K mainGlobals "_law_subset" = some (some (.ref f25))) (l25 : K.lookup f25 = some ⟨oc25, od25, .func (PySem.W.fnOf "_law_subset" "_law_subset" (defArgs s_subset) (defBody s_subset) (defScope s_subset) .none kV25 dc25 pm25 an25 cd25 ct25), sl25⟩) (c25 : PySem.W.codeIn K cd25 "_law_subset" = true) (k25 : PySem.W.keepIn K (.ref f25) = true)
    {f26 : Addr} {od26 an26 : Option Addr} {sl26 : Array (Option Value)} {oc26 kV26 dc26 pm26 cd26 ct26 : Value}
    (a26 : PySem.W.nsIn K mainGlobals "_law_left" = some (some (.ref f26))) (l26 : K.lookup f26 = some ⟨oc26, od26, .func (PySem.W.fnOf "_law_left" "_law_left" (defArgs s_left) (defBody s_left) (defScope s_left) .none kV26 dc26 pm26 an26 cd26 ct26), sl26⟩) (c26 : PySem.W.codeIn K cd26 "_law_left" = true) (k26 : PySem.W.keepIn K (.ref f26) = true)
    {f27 : Addr} {od27 an27 : Option Addr} {sl27 : Array (Option Value)} {oc27 kV27 dc27 pm27 cd27 ct27 : Value}
    (a27 : PySem.W.nsIn K mainGlobals "_law_within" = some (some (.ref f27))) (l27 : K.lookup f27 = some ⟨oc27, od27, .func (PySem.W.fnOf "_law_within" "_law_within" (defArgs s_wi) (defBody s_wi) (defScope s_wi) .none kV27 dc27 pm27 an27 cd27 ct27), sl27⟩) (c27 : PySem.W.codeIn K cd27 "_law_within" = true) (k27 : PySem.W.keepIn K (.ref f27) = true)
    {f28 : Addr} {od28 an28 : Option Addr} {sl28 : Array (Option Value)} {oc28 kV28 dc28 pm28 cd28 ct28 : Value}
    (a28 : PySem.W.nsIn K mainGlobals "_law_check_left" = some (some (.ref f28))) (l28 : K.lookup f28 = some ⟨oc28, od28, .func (PySem.W.fnOf "_law_check_left" "_law_check_left" (defArgs s_cl) (defBody s_cl) (defScope s_cl) .none kV28 dc28 pm28 an28 cd28 ct28), sl28⟩) (c28 : PySem.W.codeIn K cd28 "_law_check_left" = true) (k28 : PySem.W.keepIn K (.ref f28) = true)
    {f29 : Addr} {od29 an29 : Option Addr} {sl29 : Array (Option Value)} {oc29 kV29 dc29 pm29 cd29 ct29 : Value}
    (a29 : PySem.W.nsIn K mainGlobals "_law_check_left_question" = some (some (.ref f29))) (l29 : K.lookup f29 = some ⟨oc29, od29, .func (PySem.W.fnOf "_law_check_left_question" "_law_check_left_question" (defArgs s_clq) (defBody s_clq) (defScope s_clq) .none kV29 dc29 pm29 an29 cd29 ct29), sl29⟩) (c29 : PySem.W.codeIn K cd29 "_law_check_left_question" = true) (k29 : PySem.W.keepIn K (.ref f29) = true)
    {f30 : Addr} {od30 an30 : Option Addr} {sl30 : Array (Option Value)} {oc30 kV30 dc30 pm30 cd30 ct30 : Value}
    (a30 : PySem.W.nsIn K mainGlobals "_law_wider" = some (some (.ref f30))) (l30 : K.lookup f30 = some ⟨oc30, od30, .func (PySem.W.fnOf "_law_wider" "_law_wider" (defArgs s_wd) (defBody s_wd) (defScope s_wd) .none kV30 dc30 pm30 an30 cd30 ct30), sl30⟩) (c30 : PySem.W.codeIn K cd30 "_law_wider" = true) (k30 : PySem.W.keepIn K (.ref f30) = true)
    {f31 : Addr} {od31 an31 : Option Addr} {sl31 : Array (Option Value)} {oc31 kV31 dc31 pm31 cd31 ct31 : Value}
    (a31 : PySem.W.nsIn K mainGlobals "_law_check_wider" = some (some (.ref f31))) (l31 : K.lookup f31 = some ⟨oc31, od31, .func (PySem.W.fnOf "_law_check_wider" "_law_check_wider" (defArgs s_cw) (defBody s_cw) (defScope s_cw) .none kV31 dc31 pm31 an31 cd31 ct31), sl31⟩) (c31 : PySem.W.codeIn K cd31 "_law_check_wider" = true) (k31 : PySem.W.keepIn K (.ref f31) = true)
    {f32 : Addr} {od32 an32 : Option Addr} {sl32 : Array (Option Value)} {oc32 kV32 dc32 pm32 cd32 ct32 : Value}
    (a32 : PySem.W.nsIn K mainGlobals "_law_check_wider_question" = some (some (.ref f32))) (l32 : K.lookup f32 = some ⟨oc32, od32, .func (PySem.W.fnOf "_law_check_wider_question" "_law_check_wider_question" (defArgs s_cwq) (defBody s_cwq) (defScope s_cwq) .none kV32 dc32 pm32 an32 cd32 ct32), sl32⟩) (c32 : PySem.W.codeIn K cd32 "_law_check_wider_question" = true) (k32 : PySem.W.keepIn K (.ref f32) = true)
    {f33 : Addr} {od33 an33 : Option Addr} {sl33 : Array (Option Value)} {oc33 kV33 dc33 pm33 cd33 ct33 : Value}
    (a33 : PySem.W.nsIn K mainGlobals "_law_check_question" = some (some (.ref f33))) (l33 : K.lookup f33 = some ⟨oc33, od33, .func (PySem.W.fnOf "_law_check_question" "_law_check_question" (defArgs s_cq) (defBody s_cq) (defScope s_cq) .none kV33 dc33 pm33 an33 cd33 ct33), sl33⟩) (c33 : PySem.W.codeIn K cd33 "_law_check_question" = true) (k33 : PySem.W.keepIn K (.ref f33) = true)
    {f34 : Addr} {od34 an34 : Option Addr} {sl34 : Array (Option Value)} {oc34 kV34 dc34 pm34 cd34 ct34 : Value}
    (a34 : PySem.W.nsIn K mainGlobals "law" = some (some (.ref f34))) (l34 : K.lookup f34 = some ⟨oc34, od34, .func (PySem.W.fnOf "law" "law" (defArgs s_lw) (defBody s_lw) (defScope s_lw) .none kV34 dc34 pm34 an34 cd34 ct34), sl34⟩) (c34 : PySem.W.codeIn K cd34 "law" = true) (k34 : PySem.W.keepIn K (.ref f34) = true)
    (z1 : PySem.W.nsIn K mainGlobals "tuple" = some none)
    (z2 : PySem.W.nsIn K mainGlobals "zip" = some none)
    (z3 : PySem.W.nsIn K mainGlobals "sorted" = some none)
    (z4 : PySem.W.nsIn K mainGlobals "set" = some none)
    (z5 : PySem.W.nsIn K mainGlobals "range" = some none)
    (z6 : PySem.W.nsIn K mainGlobals "len" = some none)
    (z7 : PySem.W.nsIn K mainGlobals "any" = some none)
    (z8 : PySem.W.nsIn K mainGlobals "list" = some none)
    (z9 : PySem.W.nsIn K mainGlobals "min" = some none)
    (z10 : PySem.W.nsIn K mainGlobals "isinstance" = some none)
    (z11 : PySem.W.nsIn K mainGlobals "str" = some none)
    (z12 : PySem.W.nsIn K mainGlobals "all" = some none)
    {tkL : Tok} (zL : PySem.W.nsIn K mainGlobals "LETTERS" = some (some (.str letters26 tkL)))
    : ∃ fd : FuncData, (∀ (s : Shared) (v : Value), BindsTo s fd ⟨[v], []⟩ [("_law_script", v)]) ∧ ∀ base : Heap, K.In base → base.Ns mainGlobals mg → FnOk l.prog w K mg base CX0 10 fa fd ["_law_script"] (spLaw K) := by
  have e := hfa.symm.trans (PySem.W.mg_of X G a34)
  cases e
  have n1 : mg "tuple" = none := PySem.W.mg_none_of X G z1
  have n2 : mg "zip" = none := PySem.W.mg_none_of X G z2
  have n3 : mg "sorted" = none := PySem.W.mg_none_of X G z3
  have n4 : mg "set" = none := PySem.W.mg_none_of X G z4
  have n5 : mg "range" = none := PySem.W.mg_none_of X G z5
  have n6 : mg "len" = none := PySem.W.mg_none_of X G z6
  have n7 : mg "any" = none := PySem.W.mg_none_of X G z7
  have n8 : mg "list" = none := PySem.W.mg_none_of X G z8
  have n9 : mg "min" = none := PySem.W.mg_none_of X G z9
  have n10 : mg "isinstance" = none := PySem.W.mg_none_of X G z10
  have n11 : mg "str" = none := PySem.W.mg_none_of X G z11
  have n12 : mg "all" = none := PySem.W.mg_none_of X G z12
  have F1 := fun_mk (st := s_cand) l1 c1 k1
  have b1 := F1.binds (ps := ["table", "item"]) fun _ _ _ _ _ _ us hl => match us, hl with | [_, _], _ => rfl
  have F2 := fun_mk (st := s_pairs_of) l2 c2 k2
  have b2 := F2.binds (ps := ["table"]) fun _ _ _ _ _ _ us hl => match us, hl with | [_], _ => rfl
  have F3 := fun_mk (st := s_pairs_in) l3 c3 k3
  have b3 := F3.binds (ps := ["table", "row"]) fun _ _ _ _ _ _ us hl => match us, hl with | [_, _], _ => rfl
  have F4 := fun_mk (st := s_req) l4 c4 k4
  have b4 := F4.binds (ps := ["table", "pairs"]) fun _ _ _ _ _ _ us hl => match us, hl with | [_, _], _ => rfl
  have F5 := fun_mk (st := s_struck) l5 c5 k5
  have b5 := F5.binds (ps := ["table", "row", "struck"]) fun _ _ _ _ _ _ us hl => match us, hl with | [_, _, _], _ => rfl
  have F6 := fun_mk (st := s_alive) l6 c6 k6
  have b6 := F6.binds (ps := ["table", "struck"]) fun _ _ _ _ _ _ us hl => match us, hl with | [_, _], _ => rfl
  have F7 := fun_mk (st := s_dead) l7 c7 k7
  have b7 := F7.binds (ps := ["table", "struck"]) fun _ _ _ _ _ _ us hl => match us, hl with | [_, _], _ => rfl
  have F8 := fun_mk (st := s_break) l8 c8 k8
  have b8 := F8.binds (ps := ["table", "struck", "pairs"]) fun _ _ _ _ _ _ us hl => match us, hl with | [_, _, _], _ => rfl
  have F9 := fun_mk (st := s_rq) l9 c9 k9
  have b9 := F9.binds (ps := ["table", "item", "chosen"]) fun _ _ _ _ _ _ us hl => match us, hl with | [_, _, _], _ => rfl
  have F10 := fun_mk (st := s_aat) l10 c10 k10
  have b10 := F10.binds (ps := ["row", "place", "chosen"]) fun _ _ _ _ _ _ us hl => match us, hl with | [_, _, _], _ => rfl
  have F11 := fun_mk (st := s_ain) l11 c11 k11
  have b11 := F11.binds (ps := ["table", "row", "item", "chosen"]) fun _ _ _ _ _ _ us hl => match us, hl with | [_, _, _, _], _ => rfl
  have F12 := fun_mk (st := s_sb) l12 c12 k12
  have b12 := F12.binds (ps := ["table", "item", "chosen", "answer"]) fun _ _ _ _ _ _ us hl => match us, hl with | [_, _, _, _], _ => rfl
  have F13 := fun_mk (st := s_paid) l13 c13 k13
  have b13 := F13.binds (ps := ["table", "struck", "item", "chosen", "answer"]) fun _ _ _ _ _ _ us hl => match us, hl with | [_, _, _, _, _], _ => rfl
  have F14 := fun_mk (st := s_fa) l14 c14 k14
  have b14 := F14.binds (ps := ["table", "struck", "item", "chosen"]) fun _ _ _ _ _ _ us hl => match us, hl with | [_, _, _, _], _ => rfl
  have F15 := fun_mk (st := s_isn) l15 c15 k15
  have b15 := F15.binds (ps := ["thing"]) fun _ _ _ _ _ _ us hl => match us, hl with | [_], _ => rfl
  have F16 := fun_mk (st := s_arn) l16 c16 k16
  have b16 := F16.binds (ps := ["thing"]) fun _ _ _ _ _ _ us hl => match us, hl with | [_], _ => rfl
  have F17 := fun_mk (st := s_ris) l17 c17 k17
  have b17 := F17.binds (ps := ["things"]) fun _ _ _ _ _ _ us hl => match us, hl with | [_], _ => rfl
  have F18 := fun_mk (st := s_shp) l18 c18 k18
  have b18 := F18.binds (ps := ["thing"]) fun _ _ _ _ _ _ us hl => match us, hl with | [_], _ => rfl
  have F19 := fun_mk (st := s_crw) l19 c19 k19
  have b19 := F19.binds (ps := ["items", "rows"]) fun _ _ _ _ _ _ us hl => match us, hl with | [_, _], _ => rfl
  have F20 := fun_mk (st := s_ccd) l20 c20 k20
  have b20 := F20.binds (ps := ["items", "rows"]) fun _ _ _ _ _ _ us hl => match us, hl with | [_, _], _ => rfl
  have F21 := fun_mk (st := s_lts) l21 c21 k21
  have b21 := F21.binds (ps := ["thing"]) fun _ _ _ _ _ _ us hl => match us, hl with | [_], _ => rfl
  have F22 := fun_mk (st := s_reader) l22 c22 k22
  have b22 := F22.binds (ps := ["_law_script"]) fun _ _ _ _ _ _ us hl => match us, hl with | [_], _ => rfl
  have F23 := fun_mk (st := s_draw) l23 c23 k23
  have b23 := F23.binds (ps := ["_law_reader_here", "_law_many"]) fun _ _ _ _ _ _ us hl => match us, hl with | [_, _], _ => rfl
  have F24 := fun_mk (st := s_table) l24 c24 k24
  have b24 := F24.binds (ps := ["_law_reader_here", "_law_wide", "_law_most"]) fun _ _ _ _ _ _ us hl => match us, hl with | [_, _, _], _ => rfl
  have F25 := fun_mk (st := s_subset) l25 c25 k25
  have b25 := F25.binds (ps := ["_law_reader_here", "_law_parts"]) fun _ _ _ _ _ _ us hl => match us, hl with | [_, _], _ => rfl
  have F26 := fun_mk (st := s_left) l26 c26 k26
  have b26 := F26.binds (ps := ["_law_grid", "_law_gone"]) fun _ _ _ _ _ _ us hl => match us, hl with | [_, _], _ => rfl
  have F27 := fun_mk (st := s_wi) l27 c27 k27
  have b27 := F27.binds (ps := ["_law_parts", "_law_less"]) fun _ _ _ _ _ _ us hl => match us, hl with | [_, _], _ => rfl
  have F28 := fun_mk (st := s_cl) l28 c28 k28
  have b28 := F28.binds (ps := ["_law_grid", "_law_gone", "_law_less", "_law_more"]) fun _ _ _ _ _ _ us hl => match us, hl with | [_, _, _, _], _ => rfl
  have F29 := fun_mk (st := s_clq) l29 c29 k29
  have b29 := F29.binds (ps := ["_law_grid", "_law_gone", "_law_less", "_law_head", "_law_some"]) fun _ _ _ _ _ _ us hl => match us, hl with | [_, _, _, _, _], _ => rfl
  have F30 := fun_mk (st := s_wd) l30 c30 k30
  have b30 := F30.binds (ps := ["_law_grid"]) fun _ _ _ _ _ _ us hl => match us, hl with | [_], _ => rfl
  have F31 := fun_mk (st := s_cw) l31 c31 k31
  have b31 := F31.binds (ps := ["_law_grid", "_law_gone", "_law_wide", "_law_more"]) fun _ _ _ _ _ _ us hl => match us, hl with | [_, _, _, _], _ => rfl
  have F32 := fun_mk (st := s_cwq) l32 c32 k32
  have b32 := F32.binds (ps := ["_law_grid", "_law_gone", "_law_wide", "_law_head", "_law_some"]) fun _ _ _ _ _ _ us hl => match us, hl with | [_, _, _, _, _], _ => rfl
  have F33 := fun_mk (st := s_cq) l33 c33 k33
  have b33 := F33.binds (ps := ["_law_reader_here", "_law_grid", "_law_gone", "_law_less", "_law_wide"]) fun _ _ _ _ _ _ us hl => match us, hl with | [_, _, _, _, _], _ => rfl
  have F34 := fun_mk (st := s_lw) l34 c34 k34
  refine ⟨PySem.W.fnOf "law" "law" (defArgs s_lw) (defBody s_lw) (defScope s_lw) .none kV34 dc34 pm34 an34 cd34 ct34, fun s v => .of_eq rfl, fun base _ _ => ?_⟩
  let g : Gx := { K := K, fa := fun _ => none, w := w }
  have C1 : Cal1 l.prog w K mg base g 1 "candidates_of" ["table", "item"] m_cand := ⟨_, _, ok_cand (g := g) F1 rfl n1 n3 n4, PySem.W.mg_of X G a1, k1, b1⟩
  have C2 : Cal1 l.prog w K mg base g 1 "pairs_of" ["table"] m_pairs_of := ⟨_, _, ok_pairs_of (g := g) F2 rfl n1 n3 n4 n5 n6, PySem.W.mg_of X G a2, k2, b2⟩
  have C3 : Cal1 l.prog w K mg base g 1 "pairs_in" ["table", "row"] m_pairs_in := ⟨_, _, ok_pairs_in (g := g) F3 rfl n1 n2, PySem.W.mg_of X G a3, k3, b3⟩
  have C4 : Cal1 l.prog w K mg base g 2 "require_pairs" ["table", "pairs"] m_req := ⟨_, _, ok_req (g := g) F4 rfl C2, PySem.W.mg_of X G a4, k4, b4⟩
  have C5 : Cal1 l.prog w K mg base g 2 "is_struck" ["table", "row", "struck"] m_struck := ⟨_, _, ok_struck (g := g) F5 rfl n7 C3, PySem.W.mg_of X G a5, k5, b5⟩
  have C6 : Cal1 l.prog w K mg base g 3 "alive_rows" ["table", "struck"] m_alive := ⟨_, _, ok_alive (g := g) F6 rfl n1 C4 C5, PySem.W.mg_of X G a6, k6, b6⟩
  have C7 : Cal1 l.prog w K mg base g 4 "dead_pairs" ["table", "struck"] m_dead := ⟨_, _, ok_dead (g := g) F7 rfl n1 C6 C3 C2, PySem.W.mg_of X G a7, k7, b7⟩
  have C8 : Cal1 l.prog w K mg base g 4 "does_break" ["table", "struck", "pairs"] m_break := ⟨_, _, ok_break (g := g) F8 rfl C6, PySem.W.mg_of X G a8, k8, b8⟩
  have C9 : Cal1 l.prog w K mg base g 2 "require_question" ["table", "item", "chosen"] m_rq := ⟨_, _, ok_rq (g := g) F9 rfl C1, PySem.W.mg_of X G a9, k9, b9⟩
  have C10 : Cal1 l.prog w K mg base g 1 "answer_at" ["row", "place", "chosen"] m_aat := ⟨_, _, ok_aat (g := g) F10 rfl, PySem.W.mg_of X G a10, k10, b10⟩
  have C11 : Cal1 l.prog w K mg base g 3 "answer_in" ["table", "row", "item", "chosen"] m_ain := ⟨_, _, ok_ain (g := g) F11 rfl C9 C10, PySem.W.mg_of X G a11, k11, b11⟩
  have C12 : Cal1 l.prog w K mg base g 3 "struck_by" ["table", "item", "chosen", "answer"] m_sb := ⟨_, _, ok_sb (g := g) F12 rfl n1 C9 C1, PySem.W.mg_of X G a12, k12, b12⟩
  have C13 : Cal1 l.prog w K mg base g 5 "paid_by" ["table", "struck", "item", "chosen", "answer"] m_paid := ⟨_, _, ok_paid (g := g) F13 rfl n1 C9 C7 C12, PySem.W.mg_of X G a13, k13, b13⟩
  have C14 : Cal1 l.prog w K mg base g 6 "forced_answer" ["table", "struck", "item", "chosen"] m_fa := ⟨_, _, ok_fa (g := g) F14 rfl C9 C6 C13, PySem.W.mg_of X G a14, k14, b14⟩
  have C15 : Cal1 l.prog w K mg base g 1 "is_name" ["thing"] m_isn := ⟨_, _, ok_isn (g := g) F15 rfl rfl n10 n11 n6 n12 (PySem.W.mg_of X G zL), PySem.W.mg_of X G a15, k15, b15⟩
  have C16 : Cal1 l.prog w K mg base g 2 "are_names" ["thing"] m_arn := ⟨_, _, ok_arn (g := g) F16 rfl rfl n10 n1 n12 C15, PySem.W.mg_of X G a16, k16, b16⟩
  have C17 : Cal1 l.prog w K mg base g 1 "is_rising" ["things"] m_ris := ⟨_, _, ok_ris (g := g) F17 rfl rfl n12 n5 n6, PySem.W.mg_of X G a17, k17, b17⟩
  have C18 : Cal1 l.prog w K mg base g 3 "is_table_shape" ["thing"] m_shp := ⟨_, _, ok_shp (g := g) F18 rfl rfl n10 n1 n6 n12 C16, PySem.W.mg_of X G a18, k18, b18⟩
  have C19 : Cal1 l.prog w K mg base g 1 "check_rows" ["items", "rows"] m_crw := ⟨_, _, ok_crw (g := g) F19 rfl rfl n5 n6, PySem.W.mg_of X G a19, k19, b19⟩
  have C20 : Cal1 l.prog w K mg base g 1 "check_candidates" ["items", "rows"] m_ccd := ⟨_, _, ok_ccd (g := g) F20 rfl rfl n5 n6 n4, PySem.W.mg_of X G a20, k20, b20⟩
  have C21 : Cal1 l.prog w K mg base g 4 "lets_table" ["thing"] m_lts := ⟨_, _, ok_lts (g := g) F21 rfl rfl n6 C18 C17 C19 C20, PySem.W.mg_of X G a21, k21, b21⟩
  have C22 : Cal1 l.prog w K mg base g 1 "_law_reader" ["_law_script"] m_reader := ⟨_, _, ok_reader (g := g) F22 rfl n8, PySem.W.mg_of X G a22, k22, b22⟩
  have C23 : Cal1 l.prog w K mg base g 1 "_law_draw" ["_law_reader_here", "_law_many"] m_draw := ⟨_, _, ok_draw (g := g) F23 rfl rfl n6, PySem.W.mg_of X G a23, k23, b23⟩
  have C24 : Cal1 l.prog w K mg base g 2 "_law_table" ["_law_reader_here", "_law_wide", "_law_most"] m_table := ⟨_, _, ok_table (g := g) F24 rfl rfl n1 n3 n4 n5 n6 n9 C23, PySem.W.mg_of X G a24, k24, b24⟩
  have C25 : Cal1 l.prog w K mg base g 2 "_law_subset" ["_law_reader_here", "_law_parts"] m_subset := ⟨_, _, ok_subset (g := g) F25 rfl rfl n1 C23, PySem.W.mg_of X G a25, k25, b25⟩
  have C26 : Cal1 l.prog w K mg base g 5 "_law_left" ["_law_grid", "_law_gone"] m_left := ⟨_, _, ok_left (g := g) F26 rfl rfl n5 n6 n4 n1 n3 C6, PySem.W.mg_of X G a26, k26, b26⟩
  have C27 : Cal1 l.prog w K mg base g 2 "_law_within" ["_law_parts", "_law_less"] m_wi := ⟨_, _, ok_wi (g := g) F27 rfl rfl n1 C2, PySem.W.mg_of X G a27, k27, b27⟩
  have C28 : Cal1 l.prog w K mg base g 6 "_law_check_left" ["_law_grid", "_law_gone", "_law_less", "_law_more"] m_cl := ⟨_, _, ok_cl (g := g) F28 rfl rfl n6 n1 C21 C6 C7 C2 C27 C8, PySem.W.mg_of X G a28, k28, b28⟩
  have C29 : Cal1 l.prog w K mg base g 8 "_law_check_left_question" ["_law_grid", "_law_gone", "_law_less", "_law_head", "_law_some"] m_clq := ⟨_, _, ok_clq (g := g) F29 rfl rfl n1 n5 n6 C1 C14 C13 C12 C6 C11, PySem.W.mg_of X G a29, k29, b29⟩
  have C30 : Cal1 l.prog w K mg base g 1 "_law_wider" ["_law_grid"] m_wd := ⟨_, _, ok_wd (g := g) F30 rfl rfl n1 n3, PySem.W.mg_of X G a30, k30, b30⟩
  have C31 : Cal1 l.prog w K mg base g 8 "_law_check_wider" ["_law_grid", "_law_gone", "_law_wide", "_law_more"] m_cw := ⟨_, _, ok_cw (g := g) F31 rfl rfl n8 n1 n3 C6 C7 C8 C14, PySem.W.mg_of X G a31, k31, b31⟩
  have C32 : Cal1 l.prog w K mg base g 8 "_law_check_wider_question" ["_law_grid", "_law_gone", "_law_wide", "_law_head", "_law_some"] m_cwq := ⟨_, _, ok_cwq (g := g) F32 rfl rfl C14 C13 C11, PySem.W.mg_of X G a32, k32, b32⟩
  have C33 : Cal1 l.prog w K mg base g 9 "_law_check_question" ["_law_reader_here", "_law_grid", "_law_gone", "_law_less", "_law_wide"] m_cq := ⟨_, _, ok_cq (g := g) F33 rfl rfl n1 n6 C23 C1 C29 C32, PySem.W.mg_of X G a33, k33, b33⟩
  exact (ok_lw (g := g) F34 rfl rfl n6 n5 C22 C24 C30 C21 C25 C2 C26 C28 C31 C33).imp fun vs H Q E h => law_imp h
theorem walk {l : PySem.W.OpenLaw} {q : Program} {loose : List Str} {XP : (Str → Option Value) → Heap → Prop}
      {YP : World → Heap → Prop} {d : DefRec} {K : Params → PySem.W.Frag} (hn : l.most = some 63) (hdf : d.params.defaults = [])
    (hY : ∀ (w : World) (h : Heap), YP w h → (K w.params).In h) (hno : ∀ P : Params, noLst (K P) = true)
    (F : ∀ (w : World) (mg : Str → Option Value) (fa : Addr) (h : Heap),
          (K w.params).In h → h.Ns mainGlobals mg → mg d.name = some (.ref fa) →
      ∃ fd : FuncData, (∀ (s : Shared) (u : Value), BindsTo s fd ⟨[u], []⟩ [("_law_script", u)]) ∧ ∀ base : Heap, (K w.params).In base → base.Ns mainGlobals mg → FnOk l.prog w (K w.params) mg base CX0 10 fa fd ["_law_script"] (spLaw (K w.params))) :
    PySem.W.WalkO q loose XP YP l.row.toRowW d
          [] (fun f vs => PySem.call f vs) :=
  L2.walk_of (n := 63) (k := 10) (x := "_law_script") (CX := fun _ => CX0) (sp := fun w => spLaw (K w.params)) hn (by decide) hdf ⟨rfl, by decide, by decide⟩ hY F (fun w _ a ns hl _ hS => ⟨hno w.params, a, ns, rfl, hS, hl, fun _ => rfl⟩) fun _ _ _ _ _ z => z
end K15
open PySem PySem.W
      PyProof.Rows
set_option maxHeartbeats 0 in
theorem PySem.Challenge.cw_chosenlast_k15_whole_tables_compared_holds : PySem.Challenge.rw_chosenlast_k15_whole_tables_compared.Holds := by
  w_on; o_law; k_head; (case
        hw => w_witness2)
  k_fill
  refine K15.walk (l := PySem.Challenge.rw_chosenlast_k15_whole_tables_compared) rfl rfl (fun w h Y => PySem.W.kIn_of Y) ?hno ?F
  case hno =>
    intro P
    rfl
  case F =>
    intro w mg fa h KX G hmg
    refine' K15.all_mk KX G hmg ?a1 ?l1 ?c1 ?k1 ?a2 ?l2 ?c2 ?k2 ?a3 ?l3 ?c3 ?k3 ?a4 ?l4 ?c4 ?k4 ?a5 ?l5 ?c5 ?k5 ?a6 ?l6 ?c6 ?k6 ?a7 ?l7 ?c7 ?k7 ?a8 ?l8 ?c8 ?k8 ?a9 ?l9 ?c9 ?k9 ?a10 ?l10 ?c10 ?k10 ?a11 ?l11 ?c11 ?k11 ?a12 ?l12 ?c12 ?k12 ?a13 ?l13 ?c13 ?k13 ?a14 ?l14 ?c14 ?k14 ?a15 ?l15 ?c15 ?k15 ?a16 ?l16 ?c16 ?k16 ?a17 ?l17 ?c17 ?k17 ?a18 ?l18 ?c18 ?k18 ?a19 ?l19 ?c19 ?k19 ?a20 ?l20 ?c20 ?k20 ?a21 ?l21 ?c21 ?k21 ?a22 ?l22 ?c22 ?k22 ?a23 ?l23 ?c23 ?k23 ?a24 ?l24 ?c24 ?k24 ?a25 ?l25 ?c25 ?k25 ?a26 ?l26 ?c26 ?k26 ?a27 ?l27 ?c27 ?k27 ?a28 ?l28 ?c28 ?k28 ?a29 ?l29 ?c29 ?k29 ?a30 ?l30 ?c30 ?k30 ?a31 ?l31 ?c31 ?k31 ?a32 ?l32 ?c32 ?k32 ?a33 ?l33 ?c33 ?k33 ?a34 ?l34 ?c34 ?k34 ?z1 ?z2 ?z3 ?z4 ?z5 ?z6 ?z7 ?z8 ?z9 ?z10 ?z11 ?z12 ?zL
    (case a1 => k_is); (case l1 => k_is); (case
          c1 => k_is); (case k1 => k_is)
    (case a2 => k_is); (case l2 => k_is); (case
          c2 => k_is); (case k2 => k_is)
    (case a3 => k_is); (case l3 => k_is); (case
          c3 => k_is); (case k3 => k_is)
    (case a4 => k_is); (case l4 => k_is); (case
          c4 => k_is); (case k4 => k_is)
    (case a5 => k_is); (case l5 => k_is); (case c5 => k_is); (case k5 => k_is)
    (case a6 => k_is); (case l6 => k_is); (case c6 => k_is); (case k6 => k_is)
    (case a7 => k_is); (case l7 => k_is); (case c7 => k_is); (case k7 => k_is)
    (case a8 => k_is); (case l8 => k_is); (case c8 => k_is); (case k8 => k_is)
    (case a9 => k_is); (case l9 => k_is); (case c9 => k_is); (case k9 => k_is)
    (case a10 => k_is); (case l10 => k_is); (case c10 => k_is); (case k10 => k_is)
    (case a11 => k_is); (case l11 => k_is); (case c11 => k_is); (case k11 => k_is)
    (case a12 => k_is); (case l12 => k_is); (case c12 => k_is); (case k12 => k_is)
    (case a13 => k_is); (case l13 => k_is); (case c13 => k_is); (case k13 => k_is)
    (case a14 => k_is); (case l14 => k_is); (case c14 => k_is); (case k14 => k_is)
    (case a15 => k_is); (case l15 => k_is); (case c15 => k_is); (case k15 => k_is)
    (case a16 => k_is); (case l16 => k_is); (case c16 => k_is); (case k16 => k_is)
    (case a17 => k_is); (case l17 => k_is); (case c17 => k_is); (case k17 => k_is)
    (case a18 => k_is); (case l18 => k_is); (case c18 => k_is); (case k18 => k_is)
    (case a19 => k_is); (case l19 => k_is); (case c19 => k_is); (case k19 => k_is)
    (case a20 => k_is); (case l20 => k_is); (case c20 => k_is); (case k20 => k_is)
    (case a21 => k_is); (case l21 => k_is); (case c21 => k_is); (case k21 => k_is)
    (case a22 => k_is); (case l22 => k_is); (case c22 => k_is); (case k22 => k_is)
    (case a23 => k_is); (case l23 => k_is); (case c23 => k_is); (case k23 => k_is)
    (case a24 => k_is); (case l24 => k_is); (case c24 => k_is); (case k24 => k_is)
    (case a25 => k_is); (case l25 => k_is); (case c25 => k_is); (case k25 => k_is)
    (case a26 => k_is); (case l26 => k_is); (case c26 => k_is); (case k26 => k_is)
    (case a27 => k_is); (case l27 => k_is); (case c27 => k_is); (case k27 => k_is)
    (case a28 => k_is); (case l28 => k_is); (case c28 => k_is); (case k28 => k_is)
    (case a29 => k_is); (case l29 => k_is); (case c29 => k_is); (case k29 => k_is)
    (case a30 => k_is); (case l30 => k_is); (case c30 => k_is); (case k30 => k_is)
    (case a31 => k_is); (case l31 => k_is); (case c31 => k_is); (case k31 => k_is)
    (case a32 => k_is); (case l32 => k_is); (case c32 => k_is); (case k32 => k_is)
    (case a33 => k_is); (case l33 => k_is); (case c33 => k_is); (case k33 => k_is)
    (case a34 => k_is); (case l34 => k_is); (case c34 => k_is); (case k34 => k_is)
    (case z1 => k_is); (case z2 => k_is); (case z3 => k_is); (case z4 => k_is); (case z5 => k_is); (case z6 => k_is); (case z7 => k_is); (case z8 => k_is); (case z9 => k_is); (case z10 => k_is); (case z11 => k_is); (case z12 => k_is); (case zL => k_is)
