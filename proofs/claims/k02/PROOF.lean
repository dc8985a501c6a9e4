import PyProof.Rows.All
import Wide.All
import OpenK.AllK
import Wide.FinOn
import HandS.ForExc
import HandS.ForMost
import HandS.IsInst
import HandS.Property
import HandS.Wide
import HandS.Conv
import HandS.Star
import HandS.TupAny
import HandS.ExcInit
import HandS.ExcField
import HandS.ExcIs
import HandS.TupSets
import HandS.SetKeys
import HandS.StrMore
import HandS.OwnEq
import HandS.FStr
import HandS.Flow
import HandS.Style
import HandS.Deep
import HandS.Zip
import HandS.SortInts
import HandS.EndBits
import HandS.Defaults
import HandS.Evl
import HandS.Steps
import KE.KExcSuper
import KE.KSuper
import HandS.Nested
import PyProof.InstNe
import HandS.CallSlots
import KE.KExcIs
import PyProof.StrLawsRepr
import HandS.Codes
import KE.GoesMore
import HandS.TryOnly
import HandS.Strs
import HandS.Iter
import HandS.More
import PyProof.EnumMake
import HandS.Keys
import PyProof.ExcBaseAll.ValueError
import HandS.RaiseMore
import HandS.MakeKw
import PyProof.P3Eq
import PyProof.FitsInt
import PyProof.StrOps2
import PyProof.ListStr
import KE.SortData
import KE.OsSortAny
import KE.RegKIsAll
import PySem.Challenge.RW_looseorder_k02_stocks_of_nouns
open PySem L2
section
set_option Elab.async false
set_option linter.all false
set_option autoImplicit false
set_option maxRecDepth 100000
set_option maxHeartbeats 1000000
namespace Lo
open PySem PySem.Spec PyProof.Rows L2 Evl

/-! ### data, as trees -/
inductive D where
  | non | bl (b : Bool) | int (i : Int) | str (s : PySem.Str) | lst (xs : List D) | tup (xs : List D) | obj (c : Nat) (fs : List D)
  | dct (ks : List L2.Key) (vs : List D)

/-- what the written part has: its classes by number, and their attributes in order -/
structure Tb where
  K : PySem.W.Frag
  cls : Nat → Addr
  fld : Nat → List PySem.Str

mutual
def Rep (T : Tb) (H : Hp) : D → V → Prop
  | .non, v => v = .non
  | .bl b, v => v = .bl b
  | .int i, v => v = .int i
  | .str s, v => v = .str s
  | .lst xs, v => ∃ a vs, v = .ref a ∧ H a = some (.lst vs) ∧ RepL T H xs vs
  | .tup xs, v => ∃ a vs, v = .ref a ∧ SqT T.K H a vs ∧ RepL T H xs vs
  | .obj c fs, v => ∃ a dx gs, v = .ref a ∧ H a = some (.ins (T.cls c) dx gs) ∧ gs.map (·.1) = T.fld c ∧ RepL T H fs (gs.map (·.2))
  | .dct ks vs, v => ∃ a gs, v = .ref a ∧ H a = some (.dK gs) ∧ gs.map (·.1) = ks ∧ RepL T H vs (gs.map (·.2))
def RepL (T : Tb) (H : Hp) : List D → List V → Prop
  | [], vs => vs = []
  | d :: ds, vs => ∃ v r, vs = v :: r ∧ Rep T H d v ∧ RepL T H ds r
end

mutual
theorem Rep.mono {T : Tb} {H H' : Hp} (e : Ex H H') : ∀ {d : D} {v : V}, Rep T H d v → Rep T H' d v
  | .non, _, h => h
  | .bl _, _, h => h
  | .int _, _, h => h
  | .str _, _, h => h
  | .lst xs, _, ⟨a, vs, hv, hs, hr⟩ => ⟨a, vs, hv, e _ _ hs, RepL.mono e hr⟩
  | .tup xs, _, ⟨a, vs, hv, hs, hr⟩ => ⟨a, vs, hv, ex_t e hs, RepL.mono e hr⟩
  | .obj c fs, _, ⟨a, dx, gs, hv, ho, hn, hr⟩ => ⟨a, dx, gs, hv, e _ _ ho, hn, RepL.mono e hr⟩
  | .dct ks vs, _, ⟨a, gs, hv, ho, hn, hr⟩ => ⟨a, gs, hv, e _ _ ho, hn, RepL.mono e hr⟩
theorem RepL.mono {T : Tb} {H H' : Hp} (e : Ex H H') : ∀ {ds : List D} {vs : List V}, RepL T H ds vs → RepL T H' ds vs
  | [], _, h => h
  | d :: ds, _, ⟨v, r, hv, h1, h2⟩ => ⟨v, r, hv, Rep.mono e h1, RepL.mono e h2⟩
end

/-- what a slot holds: a datum that stands for good, or the k-th own object (it may still be changed) -/
inductive SV where
  | d (x : D) | p (k : Nat)
  /-- a caught error at a, its attributes at dx -/
  | x (a dx : Addr) (fs : List (PySem.Str × V))
  /-- the script -/
  | scr (ns : List Int)
  /-- a caught error at a that has no attributes -/
  | x0 (a : Addr)
/-- an own object: a list; the hand of draws; one that is own no more -/
inductive OW where
  | lst (xs : List SV) | hand | gone
  /-- an instance that is being made -/
  | ins (c : Nat) (fs : List (PySem.Str × SV))
  /-- a dict; any other object -/
  | dct (kvs : List (L2.Key × SV)) | ho (f : Addr → HO)

/-- where one stands: the part of the heap that stands for good, the heap, the own addresses -/
structure Wd where
  G : Hp
  H : Hp
  as : List Addr

def RpS (T : Tb) (W : Wd) : SV → V → Prop
  | .d x, v => Rep T W.G x v
  | .p k, v => ∃ a, W.as[k]? = some a ∧ v = .ref a
  | .x a dx fs, v => v = .ref a ∧ W.G dx = some (.xd fs)
  | .scr ns, v => ∃ a, v = .ref a ∧ SqL T.K W.G a (ns.map V.int)
  | .x0 a, v => v = .ref a
def RpSL (T : Tb) (W : Wd) : List SV → List V → Prop
  | [], vs => vs = []
  | s :: ss, vs => ∃ v r, vs = v :: r ∧ RpS T W s v ∧ RpSL T W ss r

def bigN : Nat := 1100000
structure HandAt (K : PySem.W.Frag) (G H : Hp) (a : Addr) : Prop where
  ex : ∃ (c : Addr) (i r t : Int) (cells : List Int), H a = some (.lst [.ref c, .int i, .int r, .int t]) ∧ SqL K G c (cells.map V.int) ∧
    (∀ x ∈ cells, 0 ≤ x ∧ x.natAbs < 2 ^ bigN) ∧ 0 ≤ i ∧ i ≤ cells.length ∧ cells.length ≤ 63 ∧ 0 ≤ r ∧ r.natAbs < 2 ^ bigN ∧ 0 ≤ t ∧ t < 2147483629

/-- the caller's: what must stay, and which addresses are not ours -/
structure Bd where
  B : Hp
  N : Addr → Prop

def Ow (T : Tb) (b : Bd) (W : Wd) (a : Addr) : OW → Prop
  | .lst xs => W.G a = none ∧ b.B a = none ∧ ¬ b.N a ∧ ∃ vs, W.H a = some (.lst vs) ∧ RpSL T W xs vs
  | .hand => W.G a = none ∧ b.B a = none ∧ ¬ b.N a ∧ HandAt T.K W.G W.H a
  | .gone => W.H a ≠ none
  | .dct kvs => W.G a = none ∧ b.B a = none ∧ ¬ b.N a ∧ ∃ gs, W.H a = some (.dK gs) ∧ gs.map (·.1) = kvs.map (·.1) ∧ RpSL T W (kvs.map (·.2)) (gs.map (·.2))
  | .ho f => W.G a = none ∧ b.B a = none ∧ ¬ b.N a ∧ W.H a = some (f a)
  | .ins c fs => W.G a = none ∧ b.B a = none ∧ ¬ b.N a ∧ ∃ dx gs, W.H a = some (.ins (T.cls c) dx gs) ∧ gs.map (·.1) = fs.map (·.1) ∧ RpSL T W (fs.map (·.2)) (gs.map (·.2))
def OwL (T : Tb) (b : Bd) (W : Wd) : List Addr → List OW → Prop
  | [], os => os = []
  | a :: as, os => ∃ o r, os = o :: r ∧ Ow T b W a o ∧ OwL T b W as r

structure HA (T : Tb) (b : Bd) (W : Wd) (own : List OW) : Prop where
  gh : Ex W.G W.H
  bh : Ex b.B W.H
  nn : ∀ x, b.N x → W.G x = none ∧ W.H x ≠ none
  nd : W.as.Nodup
  ow : OwL T b W W.as own

def SlL (T : Tb) (W : Wd) : List (Option V) → List (Option SV) → Prop
  | [], ds => ds = []
  | x :: xs, ds => ∃ s r, ds = s :: r ∧ (∀ sv, s = some sv → ∃ v, x = some v ∧ RpS T W sv v) ∧ SlL T W xs r

structure Le (W W' : Wd) : Prop where
  g : Ex W.G W'.G
  a : W.as <+: W'.as
theorem Le.refl (W : Wd) : Le W W := ⟨Ex.refl _, List.prefix_refl _⟩
theorem Le.trans {W W1 W2 : Wd} (h : Le W W1) (k : Le W1 W2) : Le W W2 := ⟨h.g.trans k.g, h.a.trans k.a⟩

theorem prefix_get {α : Type} {l l' : List α} (h : l <+: l') {k : Nat} {a : α} (e : l[k]? = some a) : l'[k]? = some a := by
  obtain ⟨t, rfl⟩ := h
  have hk : k < l.length := (List.getElem?_eq_some_iff.mp e).1
  rw [List.getElem?_append_left hk]
  exact e
theorem RpS.mono {T : Tb} {W W' : Wd} (l : Le W W') : ∀ {s : SV} {v : V}, RpS T W s v → RpS T W' s v
  | .d _, _, h => Rep.mono l.g h
  | .p _, _, ⟨a, h, e⟩ => ⟨a, prefix_get l.a h, e⟩
  | .x _ _ _, _, ⟨h, e⟩ => ⟨h, l.g _ _ e⟩
  | .scr _, _, ⟨a, h, e⟩ => ⟨a, h, ex_l l.g e⟩
  | .x0 _, _, h => h
theorem RpSL.mono {T : Tb} {W W' : Wd} (l : Le W W') : ∀ {ss : List SV} {vs : List V}, RpSL T W ss vs → RpSL T W' ss vs
  | [], _, h => h
  | _ :: _, _, ⟨v, r, e, h1, h2⟩ => ⟨v, r, e, RpS.mono l h1, RpSL.mono l h2⟩
theorem SlL.mono {T : Tb} {W W' : Wd} (l : Le W W') : ∀ {xs : List (Option V)} {ds : List (Option SV)}, SlL T W xs ds → SlL T W' xs ds
  | [], _, h => h
  | _ :: _, _, ⟨s, r, e, h1, h2⟩ => ⟨s, r, e, fun sv q => let ⟨v, ev, h⟩ := h1 sv q; ⟨v, ev, RpS.mono l h⟩, SlL.mono l h2⟩
theorem SlL.get {T : Tb} {W : Wd} : ∀ {xs : List (Option V)} {ds : List (Option SV)} {i : Nat} {sv : SV}, SlL T W xs ds → ds[i]? = some (some sv) → ∃ v, xs[i]? = some (some v) ∧ RpS T W sv v
  | [], ds, i, sv, h, e => by
    have h' : ds = [] := h
    subst h'
    simp at e
  | x :: xs, _, 0, sv, ⟨s, r, rfl, h1, h2⟩, e => by
    have e' : s = some sv := by simpa using e
    obtain ⟨v, ev, h⟩ := h1 sv e'
    exact ⟨v, by simp [ev], h⟩
  | x :: xs, _, i + 1, sv, ⟨s, r, rfl, h1, h2⟩, e => by
    obtain ⟨v, ev, h⟩ := SlL.get (i := i) h2 (by simpa using e)
    exact ⟨v, by simpa using ev, h⟩
theorem SlL.set {T : Tb} {W : Wd} {v : V} {s : Option SV} (hv : ∀ sv, s = some sv → RpS T W sv v) : ∀ {xs : List (Option V)} {ds : List (Option SV)} (i : Nat), SlL T W xs ds → SlL T W (xs.set i (some v)) (ds.set i s)
  | [], ds, i, h => by
    have h' : ds = [] := h
    subst h'
    exact rfl
  | x :: xs, _, 0, ⟨s0, r, rfl, h1, h2⟩ => ⟨s, r, rfl, fun sv e => ⟨v, rfl, hv sv e⟩, h2⟩
  | x :: xs, _, i + 1, ⟨s0, r, rfl, h1, h2⟩ => ⟨s0, r.set i s, rfl, h1, SlL.set hv i h2⟩
theorem SlL.forget {T : Tb} {W : Wd} : ∀ {xs : List (Option V)} {ds : List (Option SV)} (i : Nat), SlL T W xs ds → SlL T W xs (ds.set i none)
  | [], ds, i, h => by
    have h' : ds = [] := h
    subst h'
    exact rfl
  | x :: xs, _, 0, ⟨s0, r, rfl, h1, h2⟩ => ⟨none, r, rfl, (fun sv (e : (none : Option SV) = some sv) => nomatch e), h2⟩
  | x :: xs, _, i + 1, ⟨s0, r, rfl, h1, h2⟩ => ⟨s0, r.set i none, rfl, h1, SlL.forget i h2⟩
theorem SlL.length {T : Tb} {W : Wd} : ∀ {xs : List (Option V)} {ds : List (Option SV)}, SlL T W xs ds → xs.length = ds.length
  | [], ds, h => by
    have h' : ds = [] := h
    subst h'
    rfl
  | x :: xs, _, ⟨s0, r, rfl, h1, h2⟩ => by simp [SlL.length h2]

/-! ### what an expression does, told by data -/
abbrev PSv := SV → List OW → Prop
def WE (T : Tb) (b : Bd) (te : TE) (own : List OW) (ds : List (Option SV)) (P : PSv) : Prop :=
  ∀ (W : Wd) (σ : L2.St), HA T b W own → SlL T W σ ds → ∀ Q : VK, (∀ v s own' W', HA T b W' own' → Le W W' → RpS T W' s v → P s own' → Q v W'.H) → te σ W.H Q
def WA (T : Tb) (b : Bd) (ta : TA) (own : List OW) (ds : List (Option SV)) (P : List SV → List OW → Prop) : Prop :=
  ∀ (W : Wd) (σ : L2.St), HA T b W own → SlL T W σ ds → ∀ Q : List V → Hp → Prop, (∀ vs ss own' W', HA T b W' own' → Le W W' → RpSL T W' ss vs → P ss own' → Q vs W'.H) → ta σ W.H Q
def WT (T : Tb) (b : Bd) (tt : TT) (own : List OW) (ds : List (Option SV)) (P : Bool → List OW → Prop) : Prop :=
  ∀ (W : Wd) (σ : L2.St), HA T b W own → SlL T W σ ds → ∀ Q : Bool → Hp → Prop, (∀ k own' W', HA T b W' own' → Le W W' → P k own' → Q k W'.H) → tt σ W.H Q
/-- an operator, on data -/
def WR (T : Tb) (b : Bd) (r : V → V → Hp → VK → Prop) (own : List OW) (x y : SV) (P : PSv) : Prop :=
  ∀ (W : Wd) vx vy, HA T b W own → RpS T W x vx → RpS T W y vy → ∀ Q : VK, (∀ v s own' W', HA T b W' own' → Le W W' → RpS T W' s v → P s own' → Q v W'.H) → r vx vy W.H Q
def WU (T : Tb) (b : Bd) (r : V → Hp → VK → Prop) (own : List OW) (x : SV) (P : PSv) : Prop :=
  ∀ (W : Wd) vx, HA T b W own → RpS T W x vx → ∀ Q : VK, (∀ v s own' W', HA T b W' own' → Le W W' → RpS T W' s v → P s own' → Q v W'.H) → r vx W.H Q
/-- a call, on data -/
def WC (T : Tb) (b : Bd) (r : List V → Hp → VK → Prop) (own : List OW) (xs : List SV) (P : PSv) : Prop :=
  ∀ (W : Wd) vs, HA T b W own → RpSL T W xs vs → ∀ Q : VK, (∀ v s own' W', HA T b W' own' → Le W W' → RpS T W' s v → P s own' → Q v W'.H) → r vs W.H Q

section
variable {T : Tb} {b : Bd} {own : List OW} {ds : List (Option SV)} {P : PSv}

theorem we_var {i : Nat} {s : SV} (h : ds[i]? = some (some s)) (p : P s own) : WE T b (tVar i) own ds P := fun W σ ha sl Q q => by
  obtain ⟨v, ev, hr⟩ := sl.get h
  exact ⟨v, ev, q v s own W ha (Le.refl W) hr p⟩
theorem we_non (p : P (.d .non) own) : WE T b (tC .non) own ds P := fun W σ ha sl Q q => q _ (.d .non) _ W ha (Le.refl W) rfl p
theorem we_bl {k : Bool} (p : P (.d (.bl k)) own) : WE T b (tC (.bl k)) own ds P := fun W σ ha sl Q q => q _ (.d (.bl k)) _ W ha (Le.refl W) rfl p
theorem we_int {i : Int} (p : P (.d (.int i)) own) : WE T b (tC (.int i)) own ds P := fun W σ ha sl Q q => q _ (.d (.int i)) _ W ha (Le.refl W) rfl p
theorem we_str {z : PySem.Str} (p : P (.d (.str z)) own) : WE T b (tC (.str z)) own ds P := fun W σ ha sl Q q => q _ (.d (.str z)) _ W ha (Le.refl W) rfl p
theorem we_op {r : R2} {ta tb : TE} (h : WE T b ta own ds fun x o1 => WE T b tb o1 ds fun y o2 => WR T b r o2 x y P) : WE T b (tOp r ta tb) own ds P := fun W σ ha sl Q q => by
  refine h W σ ha sl _ fun v1 s1 o1 W1 ha1 l1 r1 h1 => ?_
  refine h1 W1 σ ha1 (sl.mono l1) _ fun v2 s2 o2 W2 ha2 l2 r2 h2 => ?_
  exact h2 W2 v1 v2 ha2 (RpS.mono l2 r1) r2 Q fun v s o W3 ha3 l3 r3 p => q v s o W3 ha3 ((l1.trans l2).trans l3) r3 p
theorem we_un {r : V → Hp → VK → Prop} {ta : TE} (h : WE T b ta own ds fun x o1 => WU T b r o1 x P) : WE T b (tUn r ta) own ds P := fun W σ ha sl Q q => by
  refine h W σ ha sl _ fun v1 s1 o1 W1 ha1 l1 r1 h1 => ?_
  exact h1 W1 v1 ha1 r1 Q fun v s o W3 ha3 l3 r3 p => q v s o W3 ha3 (l1.trans l3) r3 p
theorem wa_nil {P : List SV → List OW → Prop} (p : P [] own) : WA T b tNil own ds P := fun W σ ha sl Q q => q [] [] own W ha (Le.refl W) rfl p
theorem wa_cons {P : List SV → List OW → Prop} {ta : TE} {tr : TA} (h : WE T b ta own ds fun x o1 => WA T b tr o1 ds fun xs o2 => P (x :: xs) o2) : WA T b (tCons ta tr) own ds P := fun W σ ha sl Q q => by
  refine h W σ ha sl _ fun v1 s1 o1 W1 ha1 l1 r1 h1 => ?_
  refine h1 W1 σ ha1 (sl.mono l1) _ fun vs ss o2 W2 ha2 l2 r2 p => ?_
  exact q _ (s1 :: ss) o2 W2 ha2 (l1.trans l2) ⟨v1, vs, rfl, RpS.mono l2 r1, r2⟩ p
theorem we_cb {r : List V → Hp → VK → Prop} {ta : TA} (h : WA T b ta own ds fun xs o1 => WC T b r o1 xs P) : WE T b (tCB r ta) own ds P := fun W σ ha sl Q q => by
  refine h W σ ha sl _ fun v1 s1 o1 W1 ha1 l1 r1 h1 => ?_
  exact h1 W1 v1 ha1 r1 Q fun v s o W3 ha3 l3 r3 p => q v s o W3 ha3 (l1.trans l3) r3 p

/-! tests -/
theorem wt_test {te : TE} {P : Bool → List OW → Prop} (h : WE T b te own ds fun s o => ∃ k, s = .d (.bl k) ∧ P k o) : WT T b (tTest te) own ds P := fun W σ ha sl Q q => by
  refine h W σ ha sl _ fun v1 s1 o1 W1 ha1 l1 r1 ⟨k, e, p⟩ => ?_
  subst e
  exact ⟨k, r1, q k o1 W1 ha1 l1 p⟩
theorem wt_B {te : TE} {P : Bool → List OW → Prop} (h : WE T b te own ds fun s o => ∃ k, s = .d (.bl k) ∧ P k o) : WT T b (tB te) own ds P := fun W σ ha sl Q q => by
  refine h W σ ha sl _ fun v1 s1 o1 W1 ha1 l1 r1 ⟨k, e, p⟩ => ?_
  subst e
  exact ⟨k, r1, q k o1 W1 ha1 l1 p⟩
theorem wt_and {t u : TT} {P : Bool → List OW → Prop} (h : WT T b t own ds fun k o => (k = true → WT T b u o ds P) ∧ (k = false → P false o)) : WT T b (tAnd t u) own ds P := fun W σ ha sl Q q => by
  refine h W σ ha sl _ fun k o1 W1 ha1 l1 ⟨ht, hf⟩ => ?_
  cases k with
  | true => exact ht rfl W1 σ ha1 (sl.mono l1) Q fun k o W2 ha2 l2 p => q k o W2 ha2 (l1.trans l2) p
  | false => exact q false o1 W1 ha1 l1 (hf rfl)
theorem wt_or {t u : TT} {P : Bool → List OW → Prop} (h : WT T b t own ds fun k o => (k = true → P true o) ∧ (k = false → WT T b u o ds P)) : WT T b (tOr t u) own ds P := fun W σ ha sl Q q => by
  refine h W σ ha sl _ fun k o1 W1 ha1 l1 ⟨ht, hf⟩ => ?_
  cases k with
  | true => exact q true o1 W1 ha1 l1 (ht rfl)
  | false => exact hf rfl W1 σ ha1 (sl.mono l1) Q fun k o W2 ha2 l2 p => q k o W2 ha2 (l1.trans l2) p
theorem wt_not {t : TT} {P : Bool → List OW → Prop} (h : WT T b t own ds fun k o => P (!k) o) : WT T b (tNot t) own ds P := fun W σ ha sl Q q =>
  h W σ ha sl _ fun k o1 W1 ha1 l1 p => q _ o1 W1 ha1 l1 p
theorem we_andV {ta tb : TE} (h : WE T b ta own ds fun s o => ∃ k, s = .d (.bl k) ∧ (k = true → WE T b tb o ds P) ∧ (k = false → P (.d (.bl false)) o)) : WE T b (tAndV ta tb) own ds P := fun W σ ha sl Q q => by
  refine h W σ ha sl _ fun v o o1 W1 ha1 l1 r1 ⟨k, e, ht, hf⟩ => ?_
  subst e
  refine ⟨k, r1, ?_⟩
  cases k with
  | true => exact ht rfl W1 σ ha1 (sl.mono l1) Q fun v s o W2 ha2 l2 r2 p => q v s o W2 ha2 (l1.trans l2) r2 p
  | false => exact q _ (.d (.bl false)) o1 W1 ha1 l1 rfl (hf rfl)
theorem we_orV {ta tb : TE} (h : WE T b ta own ds fun s o => ∃ k, s = .d (.bl k) ∧ (k = true → P (.d (.bl true)) o) ∧ (k = false → WE T b tb o ds P)) : WE T b (tOrV ta tb) own ds P := fun W σ ha sl Q q => by
  refine h W σ ha sl _ fun v o o1 W1 ha1 l1 r1 ⟨k, e, ht, hf⟩ => ?_
  subst e
  refine ⟨k, r1, ?_⟩
  cases k with
  | true => exact q _ (.d (.bl true)) o1 W1 ha1 l1 rfl (ht rfl)
  | false => exact hf rfl W1 σ ha1 (sl.mono l1) Q fun v s o W2 ha2 l2 r2 p => q v s o W2 ha2 (l1.trans l2) r2 p
theorem we_notV {ta : TE} (h : WE T b ta own ds fun s o => ∃ k, s = .d (.bl k) ∧ P (.d (.bl (!k))) o) : WE T b (tNotV ta) own ds P := fun W σ ha sl Q q => by
  refine h W σ ha sl _ fun v o o1 W1 ha1 l1 r1 ⟨k, e, p⟩ => ?_
  subst e
  exact ⟨k, r1, q _ (.d (.bl (!k))) o1 W1 ha1 l1 rfl p⟩
theorem we_if {t : TT} {ta tb : TE} (h : WT T b t own ds fun k o => (k = true → WE T b ta o ds P) ∧ (k = false → WE T b tb o ds P)) : WE T b (tIf t ta tb) own ds P := fun W σ ha sl Q q => by
  refine h W σ ha sl _ fun k o1 W1 ha1 l1 ⟨ht, hf⟩ => ?_
  cases k with
  | true => exact ht rfl W1 σ ha1 (sl.mono l1) Q fun v s o W2 ha2 l2 r2 p => q v s o W2 ha2 (l1.trans l2) r2 p
  | false => exact hf rfl W1 σ ha1 (sl.mono l1) Q fun v s o W2 ha2 l2 r2 p => q v s o W2 ha2 (l1.trans l2) r2 p
end
end Lo
end
section
set_option Elab.async false
set_option linter.all false
set_option autoImplicit false
set_option maxRecDepth 100000
set_option maxHeartbeats 1000000
namespace Lo
open PySem PySem.Spec PyProof.Rows L2 Evl

/-! ### new objects -/
section
variable {T : Tb} {b : Bd} {W : Wd} {own : List OW}
theorem Ow.there {a : Addr} {o : OW} (h : Ow T b W a o) : W.H a ≠ none := by
  cases o with
  | lst xs =>
    obtain ⟨_, _, _, vs, e, _⟩ := h
    rw [e]
    exact fun z => by cases z
  | hand =>
    obtain ⟨_, _, _, ⟨c, i, r, t, cells, e, _⟩⟩ := h
    rw [e]
    exact fun z => by cases z
  | gone => exact h
  | ins c fs =>
    obtain ⟨_, _, _, dx, gs, e, _⟩ := h
    rw [e]
    exact fun z => by cases z
  | dct kvs =>
    obtain ⟨_, _, _, gs, e, _⟩ := h
    rw [e]
    exact fun z => by cases z
  | ho f =>
    obtain ⟨_, _, _, e⟩ := h
    rw [e]
    exact fun z => by cases z
theorem OwL.there : ∀ {as : List Addr} {os : List OW}, OwL T b W as os → ∀ a ∈ as, W.H a ≠ none
  | [], _, _, a, h => by simp at h
  | x :: as, _, ⟨o, r, rfl, h1, h2⟩, a, h => by
    rcases List.mem_cons.mp h with rfl | h
    · exact h1.there
    · exact OwL.there h2 a h
theorem OwL.len : ∀ {as : List Addr} {os : List OW}, OwL T b W as os → as.length = os.length
  | [], os, h => by
    have h' : os = [] := h
    subst h'
    rfl
  | x :: as, _, ⟨o, r, rfl, h1, h2⟩ => by simp [OwL.len h2]
theorem OwL.get : ∀ {as : List Addr} {os : List OW} {k : Nat} {o : OW}, OwL T b W as os → os[k]? = some o → ∃ a, as[k]? = some a ∧ Ow T b W a o
  | [], os, k, o, h, e => by
    have h' : os = [] := h
    subst h'
    simp at e
  | x :: as, _, 0, o, ⟨o', r, rfl, h1, h2⟩, e => by
    have e' : o' = o := by simpa using e
    subst e'
    exact ⟨x, by simp, h1⟩
  | x :: as, _, k + 1, o, ⟨o', r, rfl, h1, h2⟩, e => by
    obtain ⟨a, ha, h⟩ := OwL.get (k := k) h2 (by simpa using e)
    exact ⟨a, by simpa using ha, h⟩
theorem HandAt.mono {K : PySem.W.Frag} {G G' H H' : Hp} {a : Addr} (h : HandAt K G H a) (g : Ex G G') (e : H' a = H a) : HandAt K G' H' a := by
  obtain ⟨c, i, r, t, cells, ea, hc, x⟩ := h
  exact ⟨c, i, r, t, cells, e.trans ea, ex_l g hc, x⟩
/-- the own objects stand as they stood where heap and frozen part agree at them -/
theorem Ow.step {W' : Wd} (l : Le W W') {a : Addr} {o : OW} (hH : W'.H a = W.H a) (hG : W.G a = none → W'.G a = none) (h : Ow T b W a o) : Ow T b W' a o := by
  cases o with
  | lst xs =>
    obtain ⟨g, h1, h2, vs, e, r⟩ := h
    exact ⟨hG g, h1, h2, vs, hH.trans e, RpSL.mono l r⟩
  | hand =>
    obtain ⟨g, h1, h2, x⟩ := h
    exact ⟨hG g, h1, h2, x.mono l.g hH⟩
  | gone => exact fun z => h (hH ▸ z)
  | ins c fs =>
    obtain ⟨g, h1, h2, dx, gs, e, en, r⟩ := h
    exact ⟨hG g, h1, h2, dx, gs, hH.trans e, en, RpSL.mono l r⟩
  | dct kvs =>
    obtain ⟨g, h1, h2, gs, e, en, r⟩ := h
    exact ⟨hG g, h1, h2, gs, hH.trans e, en, RpSL.mono l r⟩
  | ho f =>
    obtain ⟨g, h1, h2, e⟩ := h
    exact ⟨hG g, h1, h2, hH.trans e⟩
theorem OwL.step {W' : Wd} (l : Le W W') : ∀ {as : List Addr} {os : List OW}, (∀ a ∈ as, W'.H a = W.H a ∧ (W.G a = none → W'.G a = none)) → OwL T b W as os → OwL T b W' as os
  | [], _, _, h => h
  | x :: as, _, k, ⟨o, r, e, h1, h2⟩ => ⟨o, r, e, Ow.step l (k x (by simp)).1 (k x (by simp)).2 h1, OwL.step l (fun a h => k a (by simp [h])) h2⟩
theorem ex_upd2 {G H : Hp} {p : Addr} {o : HO} (e : Ex G H) : Ex (upd G p o) (upd H p o) := fun a u h => by
  by_cases z : a = p
  · subst z
    rw [upd_same] at h ⊢
    exact h
  · rw [upd_ne z] at h ⊢
    exact e a u h
/-- a new object that stands for good -/
theorem HA.alloc (h : HA T b W own) {p : Addr} {o : HO} (hp : W.H p = none) : HA T b ⟨upd W.G p o, upd W.H p o, W.as⟩ own ∧ Le W ⟨upd W.G p o, upd W.H p o, W.as⟩ := by
  have gp : W.G p = none := fresh_back h.gh hp
  have l : Le W ⟨upd W.G p o, upd W.H p o, W.as⟩ := ⟨Ex.new gp, List.prefix_refl _⟩
  refine ⟨⟨ex_upd2 h.gh, h.bh.trans (Ex.new hp), fun x n => ?_, h.nd, OwL.step l (fun a m => ?_) h.ow⟩, l⟩
  · obtain ⟨n1, n2⟩ := h.nn x n
    have z : x ≠ p := fun z => n2 (z ▸ hp)
    exact ⟨(upd_ne z).trans n1, fun q => n2 ((upd_ne z).symm.trans q)⟩
  · have z : a ≠ p := fun z => h.ow.there a m (z ▸ hp)
    exact ⟨upd_ne z, fun q => (upd_ne z).trans q⟩
theorem nodup_snoc {l : List Addr} {p : Addr} (h : l.Nodup) (hp : p ∉ l) : (l ++ [p]).Nodup := by
  refine List.nodup_append.mpr ⟨h, by simp, fun a ha c hc => ?_⟩
  rw [List.mem_singleton] at hc
  rw [hc]
  exact fun z => hp (z ▸ ha)
theorem OwL.snoc {p : Addr} {o : OW} (ho : Ow T b W p o) : ∀ {as : List Addr} {os : List OW}, OwL T b W as os → OwL T b W (as ++ [p]) (os ++ [o])
  | [], os, h => by
    have h' : os = [] := h
    subst h'
    exact ⟨o, [], rfl, ho, rfl⟩
  | x :: as, _, ⟨o', r, rfl, h1, h2⟩ => ⟨o', r ++ [o], rfl, h1, OwL.snoc ho h2⟩
/-- a new own list -/
theorem HA.allocOwn (h : HA T b W own) {p : Addr} {vs : List V} {ss : List SV} (hp : W.H p = none) (r : RpSL T W ss vs) :
    HA T b ⟨W.G, upd W.H p (.lst vs), W.as ++ [p]⟩ (own ++ [.lst ss]) ∧ Le W ⟨W.G, upd W.H p (.lst vs), W.as ++ [p]⟩ := by
  have gp : W.G p = none := fresh_back h.gh hp
  have bp : b.B p = none := fresh_back h.bh hp
  have l : Le W ⟨W.G, upd W.H p (.lst vs), W.as ++ [p]⟩ := ⟨Ex.refl _, List.prefix_append _ _⟩
  have l0 : Le W ⟨W.G, upd W.H p (.lst vs), W.as⟩ := ⟨Ex.refl _, List.prefix_refl _⟩
  refine ⟨⟨h.gh.trans (Ex.new hp), h.bh.trans (Ex.new hp), fun x n => ?_, nodup_snoc h.nd fun m => h.ow.there p m hp, OwL.snoc ?_ (OwL.step (W := W) l (fun a m => ?_) h.ow)⟩, l⟩
  · obtain ⟨n1, n2⟩ := h.nn x n
    have z : x ≠ p := fun z => n2 (z ▸ hp)
    exact ⟨n1, fun q => n2 ((upd_ne z).symm.trans q)⟩
  · exact ⟨gp, bp, fun n => (h.nn p n).2 hp, vs, upd_same, RpSL.mono l r⟩
  · have z : a ≠ p := fun z => h.ow.there a m (z ▸ hp)
    exact ⟨upd_ne z, id⟩
theorem OwL.set {W' : Wd} (l : Le W W') {a : Addr} {o : OW} (ho : Ow T b W' a o) : ∀ {as : List Addr} {os : List OW} {k : Nat}, as[k]? = some a → as.Nodup → (∀ c ∈ as, c ≠ a → W'.H c = W.H c ∧ (W.G c = none → W'.G c = none)) → OwL T b W as os → OwL T b W' as (os.set k o)
  | [], _, _, e, _, _, _ => by simp at e
  | x :: as, _, 0, e, nd, k, ⟨o', r, rfl, h1, h2⟩ => by
    have e' : x = a := by simpa using e
    subst e'
    refine ⟨o, r, rfl, ho, OwL.step l (fun c hc => k c (by simp [hc]) fun z => ?_) h2⟩
    subst z
    exact (List.nodup_cons.mp nd).1 hc
  | x :: as, _, i + 1, e, nd, k, ⟨o', r, rfl, h1, h2⟩ => by
    have e' : as[i]? = some a := by simpa using e
    have nx : x ≠ a := fun z => (List.nodup_cons.mp nd).1 (z ▸ List.mem_of_getElem? e')
    exact ⟨o', r.set i o, rfl, Ow.step l (k x (by simp) nx).1 (k x (by simp) nx).2 h1, OwL.set l ho e' (List.nodup_cons.mp nd).2 (fun c hc => k c (by simp [hc])) h2⟩
/-- an own list is changed -/
theorem HA.setOwn (h : HA T b W own) {k : Nat} {a : Addr} {ss ss' : List SV} {vs' : List V} (ho : own[k]? = some (.lst ss)) (ha : W.as[k]? = some a) (r : RpSL T W ss' vs') :
    HA T b ⟨W.G, upd W.H a (.lst vs'), W.as⟩ (own.set k (.lst ss')) ∧ Le W ⟨W.G, upd W.H a (.lst vs'), W.as⟩ := by
  obtain ⟨a', ea, g, bb, nb, vs, e, _⟩ := h.ow.get ho
  have z : a' = a := Option.some.inj (ea.symm.trans ha)
  subst z
  have l : Le W ⟨W.G, upd W.H a' (.lst vs'), W.as⟩ := ⟨Ex.refl _, List.prefix_refl _⟩
  have ne : ∀ {H : Hp} {x : Addr} {o : HO}, H a' = none → H x = some o → x ≠ a' := fun {H x o} q w z => by
    subst z
    rw [q] at w
    cases w
  have how : Ow T b ⟨W.G, upd W.H a' (.lst vs'), W.as⟩ a' (.lst ss') := ⟨g, bb, nb, vs', upd_same, RpSL.mono l r⟩
  refine ⟨⟨fun x o q => (upd_ne (ne g q)).trans (h.gh x o q), fun x o q => (upd_ne (ne bb q)).trans (h.bh x o q), fun x n => ?_, h.nd, OwL.set l how ha h.nd (fun c _ z => ⟨upd_ne z, id⟩) h.ow⟩, l⟩
  have z : x ≠ a' := fun z => nb (z ▸ n)
  exact ⟨(h.nn x n).1, fun q => (h.nn x n).2 ((upd_ne z).symm.trans q)⟩

theorem RpSL.ds {W : Wd} : ∀ {ds : List D} {vs : List V}, RpSL T W (ds.map SV.d) vs → RepL T W.G ds vs
  | [], _, h => h
  | _ :: _, _, ⟨v, r, e, h1, h2⟩ => ⟨v, r, e, h1, RpSL.ds h2⟩
theorem RepL.sv {W : Wd} : ∀ {ds : List D} {vs : List V}, RepL T W.G ds vs → RpSL T W (ds.map SV.d) vs
  | [], _, h => h
  | _ :: _, _, ⟨v, r, e, h1, h2⟩ => ⟨v, r, e, h1, RepL.sv h2⟩
/-- an own list is own no more: from now on it stands for good -/
theorem HA.freeze (h : HA T b W own) {k : Nat} {a : Addr} {ds : List D} (ho : own[k]? = some (.lst (ds.map SV.d))) (ha : W.as[k]? = some a) :
    ∃ vs, W.H a = some (.lst vs) ∧ HA T b ⟨upd W.G a (.lst vs), W.H, W.as⟩ (own.set k .gone) ∧ Le W ⟨upd W.G a (.lst vs), W.H, W.as⟩ ∧ Rep T (upd W.G a (.lst vs)) (.lst ds) (.ref a) := by
  obtain ⟨a', ea, g, bb, nb, vs, e, r⟩ := h.ow.get ho
  have z : a' = a := Option.some.inj (ea.symm.trans ha)
  subst z
  have l : Le W ⟨upd W.G a' (.lst vs), W.H, W.as⟩ := ⟨Ex.new g, List.prefix_refl _⟩
  have how : Ow T b ⟨upd W.G a' (.lst vs), W.H, W.as⟩ a' .gone := show W.H a' ≠ none from fun z => by rw [e] at z; cases z
  refine ⟨vs, e, ⟨fun x o (q : upd W.G a' (.lst vs) x = some o) => ?_, h.bh, fun x n => ?_, h.nd, OwL.set l how ha h.nd (fun c _ z => ⟨rfl, fun q => (upd_ne z).trans q⟩) h.ow⟩, l, ?_⟩
  · by_cases z : x = a'
    · subst z
      rw [upd_same] at q
      exact e.trans q
    · rw [upd_ne z] at q
      exact h.gh x o q
  · have z : x ≠ a' := fun z => nb (z ▸ n)
    exact ⟨(upd_ne z).trans (h.nn x n).1, (h.nn x n).2⟩
  · exact ⟨a', vs, rfl, upd_same, RepL.mono (Ex.new g) (RpSL.ds r)⟩
theorem OwL.take : ∀ {as : List Addr} {os : List OW} (n : Nat), OwL T b W as os → OwL T b W (as.take n) (os.take n)
  | [], os, n, h => by
    have h' : os = [] := h
    subst h'
    simp [OwL]
  | x :: as, _, 0, h => rfl
  | x :: as, _, n + 1, ⟨o, r, rfl, h1, h2⟩ => ⟨o, r.take n, rfl, h1, OwL.take n h2⟩
end
/-- datum of a text, number: no heap -/
theorem RpS.int {T : Tb} {W : Wd} {i : Int} {v : V} (h : RpS T W (.d (.int i)) v) : v = .int i := h
theorem RpS.str {T : Tb} {W : Wd} {i : PySem.Str} {v : V} (h : RpS T W (.d (.str i)) v) : v = .str i := h
theorem RpS.bl {T : Tb} {W : Wd} {i : Bool} {v : V} (h : RpS T W (.d (.bl i)) v) : v = .bl i := h
theorem RpS.non {T : Tb} {W : Wd} {v : V} (h : RpS T W (.d .non) v) : v = .non := h

/-! ### displays -/
section
variable {T : Tb} {b : Bd} {own : List OW} {ds : List (Option SV)} {P : PSv}
/-- all of them stand for good -/
inductive AllD : List SV → List D → Prop
  | nil : AllD [] []
  | cons {x : D} {ss : List SV} {xs : List D} : AllD ss xs → AllD (.d x :: ss) (x :: xs)
theorem AllD.map : ∀ (xs : List D), AllD (xs.map SV.d) xs
  | [] => .nil
  | _ :: r => .cons (AllD.map r)
theorem AllD.eq : ∀ {ss : List SV} {xs : List D}, AllD ss xs → ss = xs.map SV.d
  | _, _, .nil => rfl
  | _, _, .cons h => by rw [List.map_cons, ← AllD.eq h]
theorem AllD.len {ss : List SV} {xs : List D} (h : AllD ss xs) : ss.length = xs.length := by rw [h.eq, List.length_map]
theorem RepL.len {H : Hp} : ∀ {ds : List D} {vs : List V}, RepL T H ds vs → vs.length = ds.length
  | [], _, h => by
    have h' : _ = [] := h
    subst h'
    rfl
  | _ :: _, _, ⟨v, r, rfl, h1, h2⟩ => by simp [RepL.len h2]
theorem RpSL.len {W : Wd} : ∀ {ss : List SV} {vs : List V}, RpSL T W ss vs → vs.length = ss.length
  | [], _, h => by
    have h' : _ = [] := h
    subst h'
    rfl
  | _ :: _, _, ⟨v, r, rfl, h1, h2⟩ => by simp [RpSL.len h2]
theorem we_tup {ta : TA} (h : WA T b ta own ds fun ss o => ∃ xs, AllD ss xs ∧ xs.length ≤ 100000 ∧ P (.d (.tup xs)) o) : WE T b (tTup ta) own ds P := fun W σ ha sl Q q => by
  refine h W σ ha sl _ fun vs ss o1 W1 ha1 l1 r1 ⟨xs, e, hl, p⟩ => ?_
  rw [e.eq] at r1
  have r := RpSL.ds r1
  refine ⟨sz_of (by rw [r.len]; exact hl), fun c hc => ?_⟩
  obtain ⟨ha2, l2⟩ := ha1.alloc (o := .tup vs) hc
  exact q _ (.d (.tup xs)) o1 _ ha2 (l1.trans l2) ⟨c, vs, rfl, st_of upd_same, RepL.mono l2.g r⟩ p
/-- a list that stands for good -/
theorem we_lst {ta : TA} (h : WA T b ta own ds fun ss o => ∃ xs, AllD ss xs ∧ xs.length ≤ 100000 ∧ P (.d (.lst xs)) o) : WE T b (tLst ta) own ds P := fun W σ ha sl Q q => by
  refine h W σ ha sl _ fun vs ss o1 W1 ha1 l1 r1 ⟨xs, e, hl, p⟩ => ?_
  rw [e.eq] at r1
  have r := RpSL.ds r1
  refine ⟨sz_of (by rw [r.len]; exact hl), fun c hc => ?_⟩
  obtain ⟨ha2, l2⟩ := ha1.alloc (o := .lst vs) hc
  exact q _ (.d (.lst xs)) o1 _ ha2 (l1.trans l2) ⟨c, vs, rfl, upd_same, RepL.mono l2.g r⟩ p
/-- an own list -/
theorem we_lstO {ta : TA} (h : WA T b ta own ds fun ss o => ss.length ≤ 100000 ∧ P (.p o.length) (o ++ [.lst ss])) : WE T b (tLst ta) own ds P := fun W σ ha sl Q q => by
  refine h W σ ha sl _ fun vs ss o1 W1 ha1 l1 r1 ⟨hl, p⟩ => ?_
  refine ⟨sz_of (by rw [r1.len]; exact hl), fun c hc => ?_⟩
  obtain ⟨ha2, l2⟩ := ha1.allocOwn hc r1
  refine q _ (.p o1.length) _ _ ha2 (l1.trans l2) ⟨c, ?_, rfl⟩ p
  rw [← ha1.ow.len]
  simp
end

/-! ### statements -/
structure Po where
  nx : List OW → List (Option SV) → Prop
  rt : SV → List OW → Prop
  bk : List OW → List (Option SV) → Prop
  ct : List OW → List (Option SV) → Prop
structure DOk (T : Tb) (b : Bd) (W : Wd) (D : Ends) (Φ : Po) : Prop where
  nx : ∀ σ' own' ds' W', HA T b W' own' → Le W W' → SlL T W' σ' ds' → Φ.nx own' ds' → D.nx σ' W'.H
  rt : ∀ v s own' W', HA T b W' own' → Le W W' → RpS T W' s v → Φ.rt s own' → D.rt v W'.H
  bk : ∀ σ' own' ds' W', HA T b W' own' → Le W W' → SlL T W' σ' ds' → Φ.bk own' ds' → D.bk σ' W'.H
  ct : ∀ σ' own' ds' W', HA T b W' own' → Le W W' → SlL T W' σ' ds' → Φ.ct own' ds' → D.ct σ' W'.H
theorem DOk.up {T : Tb} {b : Bd} {W W1 : Wd} {D : Ends} {Φ : Po} (d : DOk T b W D Φ) (l : Le W W1) : DOk T b W1 D Φ :=
  ⟨fun σ o s W2 h l2 => d.nx σ o s W2 h (l.trans l2), fun v s o W2 h l2 => d.rt v s o W2 h (l.trans l2), fun σ o s W2 h l2 => d.bk σ o s W2 h (l.trans l2), fun σ o s W2 h l2 => d.ct σ o s W2 h (l.trans l2)⟩
def WS (T : Tb) (b : Bd) (ts : TS) (own : List OW) (ds : List (Option SV)) (Φ : Po) : Prop :=
  ∀ (W : Wd) (σ : L2.St), HA T b W own → SlL T W σ ds → ∀ D : Ends, DOk T b W D Φ → ts D σ W.H
section
variable {T : Tb} {b : Bd} {own : List OW} {ds : List (Option SV)} {Φ : Po}
theorem ws_seq {t u : TS} (h : WS T b t own ds { Φ with nx := fun o s => WS T b u o s Φ }) : WS T b (tSeq t u) own ds Φ := fun W σ ha sl D d =>
  h W σ ha sl { D with nx := u D } ⟨fun σ' o s W' h' l sl' n => n W' σ' h' sl' D (d.up l), d.rt, d.bk, d.ct⟩
theorem ws_next (p : Φ.nx own ds) : WS T b tNext own ds Φ := fun W σ ha sl D d => d.nx σ own ds W ha (Le.refl W) sl p
theorem ws_break (p : Φ.bk own ds) : WS T b tBreak own ds Φ := fun W σ ha sl D d => d.bk σ own ds W ha (Le.refl W) sl p
theorem ws_cont (p : Φ.ct own ds) : WS T b tCont own ds Φ := fun W σ ha sl D d => d.ct σ own ds W ha (Le.refl W) sl p
theorem ws_set {te : TE} {i : Nat} (h : WE T b te own ds fun s o => Φ.nx o (ds.set i (some s))) : WS T b (tAsg te (gName i)) own ds Φ := fun W σ ha sl D d => by
  refine h W σ ha sl _ fun v s o1 W1 ha1 l1 r1 p => ?_
  exact d.nx _ o1 _ W1 ha1 l1 (SlL.set (fun sv e => by cases e; exact r1) i (sl.mono l1)) p
theorem ws_ret {te : TE} (h : WE T b te own ds Φ.rt) : WS T b (tRet te) own ds Φ := fun W σ ha sl D d =>
  h W σ ha sl _ fun v s o1 W1 ha1 l1 r1 p => d.rt v s o1 W1 ha1 l1 r1 p
theorem ws_retN (h : Φ.rt (.d .non) own) : WS T b tRetN own ds Φ := fun W σ ha sl D d => d.rt _ (.d .non) own W ha (Le.refl W) rfl h
theorem ws_drop {te : TE} (h : WE T b te own ds fun _ o => Φ.nx o ds) : WS T b (tDrop te) own ds Φ := fun W σ ha sl D d =>
  h W σ ha sl _ fun v s o1 W1 ha1 l1 r1 p => d.nx σ o1 ds W1 ha1 l1 (sl.mono l1) p
theorem ws_if {c : TT} {t u : TS} (h : WT T b c own ds fun k o => (k = true → WS T b t o ds Φ) ∧ (k = false → WS T b u o ds Φ)) : WS T b (tIfS c t u) own ds Φ := fun W σ ha sl D d => by
  refine h W σ ha sl _ fun k o1 W1 ha1 l1 ⟨ht, hf⟩ => ?_
  cases k with
  | true => exact ht rfl W1 σ ha1 (sl.mono l1) D (d.up l1)
  | false => exact hf rfl W1 σ ha1 (sl.mono l1) D (d.up l1)
theorem ws_par {i j : Nat} {ta : TA} (h : WA T b ta own ds fun ss o => ∃ x y, ss = [x, y] ∧ Φ.nx o ((ds.set i (some x)).set j (some y))) : WS T b (tPar i j ta) own ds Φ := fun W σ ha sl D d => by
  refine h W σ ha sl _ fun vs ss o1 W1 ha1 l1 r1 ⟨x, y, e, p⟩ => ?_
  subst e
  obtain ⟨v, r, rfl, h1, w, r', rfl, h2, rfl⟩ := r1
  exact ⟨v, w, rfl, d.nx _ o1 _ W1 ha1 l1 (SlL.set (fun sv e => by cases e; exact h2) j (SlL.set (fun sv e => by cases e; exact h1) i (sl.mono l1))) p⟩
/-- less is asked of what follows -/
theorem WS.imp {t : TS} {Ψ : Po} (h : WS T b t own ds Ψ) (n : ∀ o s, Ψ.nx o s → Φ.nx o s) (r : ∀ s o, Ψ.rt s o → Φ.rt s o) (k : ∀ o s, Ψ.bk o s → Φ.bk o s) (c : ∀ o s, Ψ.ct o s → Φ.ct o s) : WS T b t own ds Φ := fun W σ ha sl D d =>
  h W σ ha sl D ⟨fun σ' o s W' h' l sl' p => d.nx σ' o s W' h' l sl' (n o s p), fun v s o W' h' l r' p => d.rt v s o W' h' l r' (r s o p), fun σ' o s W' h' l sl' p => d.bk σ' o s W' h' l sl' (k o s p), fun σ' o s W' h' l sl' p => d.ct σ' o s W' h' l sl' (c o s p)⟩
theorem WE.imp {te : TE} {P R : PSv} (h : WE T b te own ds P) (i : ∀ s o, P s o → R s o) : WE T b te own ds R := fun W σ ha sl Q q =>
  h W σ ha sl Q fun v s o W' a l r p => q v s o W' a l r (i s o p)
/-- two ways through the first meet behind it -/
theorem ws_cut {t u : TS} (M : List OW → List (Option SV) → Prop) (h : WS T b t own ds { Φ with nx := M }) (k : ∀ o s, M o s → WS T b u o s Φ) : WS T b (tSeq t u) own ds Φ :=
  ws_seq (WS.imp (Φ := { Φ with nx := fun o s => WS T b u o s Φ }) h (fun o s m => k o s m) (fun _ _ x => x) (fun _ _ x => x) (fun _ _ x => x))
end
end Lo
end
section
set_option Elab.async false
set_option linter.all false
set_option autoImplicit false
set_option maxRecDepth 100000
set_option maxHeartbeats 1000000
namespace Lo
open PySem PySem.Spec PyProof.Rows L2 Evl

/-- an error: the number of its class, its attributes -/
structure Er where
  c : Nat
  fs : List (PySem.Str × V)
/-- what a def does, by data: to its arguments, what is wanted of its answer and of its error -/
abbrev DF := List D → (D → Prop) → (Er → Prop) → Prop

/-- what is wanted of an error -/
def XOk (T : Tb) (b : Bd) (E : XK) (X : Er → Prop) : Prop := ∀ e dx H', Ex b.B H' → b.B dx = none → H' dx = some (.xd e.fs) → X e → E (.ref (T.cls e.c)) (some dx) H'

def PostR (T : Tb) (G0 H : Hp) (Q : VK) : D → Prop := fun d => ∀ v G' H', Ex G0 G' → Ex G' H' → Ex H H' → (∀ x, H x ≠ none → G0 x = none → G' x = none) → Rep T G' d v → Q v H'
def PostX (T : Tb) (H : Hp) (E : XK) : Er → Prop := fun e => ∀ dx H', Ex H H' → H dx = none → H' dx = some (.xd e.fs) → E (.ref (T.cls e.c)) (some dx) H'
/-- the promise of a def that changes nothing -/
def SpP (T : Tb) (F : DF) : Sp := fun vs H Q E => ∃ G0 ds, Ex G0 H ∧ RepL T G0 ds vs ∧ F ds (PostR T G0 H Q) (PostX T H E)
def PostH (T : Tb) (a : Addr) (G0 H : Hp) (Q : VK) : D → Prop := fun d => ∀ v G' H', Ex G0 G' → Ex G' H' → (∀ x o, x ≠ a → H x = some o → H' x = some o) → (∀ x, H x ≠ none → G0 x = none → G' x = none) → HandAt T.K G' H' a → Rep T G' d v → Q v H'
/-- the promise of a def that draws from the hand, its first argument -/
def SpH (T : Tb) (F : DF) : Sp := fun vs H Q E => ∃ a G0 ds ws, vs = .ref a :: ws ∧ G0 a = none ∧ Ex G0 H ∧ HandAt T.K G0 H a ∧ RepL T G0 ds ws ∧ F ds (PostH T a G0 H Q) (fun _ => False)

section
variable {T : Tb} {b : Bd} {own : List OW} {ds : List (Option SV)} {P : PSv}
theorem OwL.call {W : Wd} {G' H' : Hp} (l : Le W ⟨G', H', W.as⟩) (hh : Ex W.H H') (hg : ∀ x, W.H x ≠ none → W.G x = none → G' x = none) {os : List OW} (h : OwL T b W W.as os) : OwL T b ⟨G', H', W.as⟩ W.as os :=
  OwL.step l (fun a m => by
    have t := h.there a m
    refine ⟨?_, fun g => hg a t g⟩
    cases e : W.H a with
    | none => exact absurd e t
    | some o => exact hh a o e) h
theorem HA.call {W : Wd} {G' H' : Hp} (h : HA T b W own) (g : Ex W.G G') (gh : Ex G' H') (hh : Ex W.H H') (hg : ∀ x, W.H x ≠ none → W.G x = none → G' x = none) : HA T b ⟨G', H', W.as⟩ own ∧ Le W ⟨G', H', W.as⟩ := by
  have l : Le W ⟨G', H', W.as⟩ := ⟨g, List.prefix_refl _⟩
  refine ⟨⟨gh, h.bh.trans hh, fun x n => ?_, h.nd, OwL.call l hh hg h.ow⟩, l⟩
  obtain ⟨n1, n2⟩ := h.nn x n
  refine ⟨hg x n2 n1, fun z => n2 ?_⟩
  cases e : W.H x with
  | none => rfl
  | some o =>
    have this := hh x o e
    exact this.symm.trans z
theorem fresh_B {W : Wd} (h : HA T b W own) {dx : Addr} (q : W.H dx = none) : b.B dx = none := fresh_back h.bh q
/-- a call of a def that changes nothing -/
theorem we_call {F : DF} {dvs : List V} {dd : List D} {E : XK} {X : Er → Prop} {ta : TA} (hx : XOk T b E X) (hd : ∀ G, RepL T G dd dvs)
    (h : WA T b ta own ds fun ss o => ∃ xs, AllD ss xs ∧ F (xs ++ dd) (fun d => P (.d d) o) X) (mon : ∀ {xs R R' Y Y'}, F xs R Y → (∀ d, R d → R' d) → (∀ e, Y e → Y' e) → F xs R' Y') : WE T b (tCall (SpP T F) dvs E ta) own ds P := fun W σ ha sl Q q => by
  refine h W σ ha sl _ fun vs ss o1 W1 ha1 l1 r1 ⟨xs, e, f⟩ => ?_
  rw [e.eq] at r1
  have r := RpSL.ds r1
  have app : ∀ {xs ys : List D} {vs ws : List V}, RepL T W1.G xs vs → RepL T W1.G ys ws → RepL T W1.G (xs ++ ys) (vs ++ ws) := by
    intro xs
    induction xs with
    | nil =>
      intro ys vs ws h1 h2
      have h1' : vs = [] := h1
      subst h1'
      exact h2
    | cons x xs ih =>
      intro ys vs ws ⟨v, r, e, h1, h2⟩ h3
      subst e
      exact ⟨v, r ++ ws, rfl, h1, ih h2 h3⟩
  refine ⟨W1.G, xs ++ dd, ha1.gh, app r (hd _), mon f (fun d p v G' H' g gh hh hg rv => ?_) fun e y dx H' hh hn hf => ?_⟩
  · obtain ⟨ha2, l2⟩ := ha1.call g gh hh hg
    exact q v (.d d) o1 ⟨G', H', W1.as⟩ ha2 (l1.trans l2) rv p
  · exact hx e dx H' (ha1.bh.trans hh) (fresh_B ha1 hn) hf y
/-- thawed: what stands at an own list now -/
inductive Thw (own : List OW) : SV → D → Prop
  | d {x : D} : Thw own (.d x) x
  | p {k : Nat} {xs : List D} {ss : List SV} : own[k]? = some (.lst ss) → AllD ss xs → Thw own (.p k) (.lst xs)
inductive ThwL (own : List OW) : List SV → List D → Prop
  | nil : ThwL own [] []
  | cons {s : SV} {ss : List SV} {x : D} {xs : List D} : Thw own s x → ThwL own ss xs → ThwL own (s :: ss) (x :: xs)
theorem Thw.rep {W : Wd} (h : HA T b W own) {s : SV} {x : D} {v : V} (t : Thw own s x) (r : RpS T W s v) : Rep T W.H x v := by
  cases t with
  | d => exact Rep.mono h.gh r
  | p e a =>
    obtain ⟨c, ec, rfl⟩ := r
    obtain ⟨c', ec', _, _, _, vs, eh, rv⟩ := h.ow.get e
    have z : c' = c := Option.some.inj (ec'.symm.trans ec)
    subst z
    rw [a.eq] at rv
    exact ⟨c', vs, rfl, eh, RepL.mono h.gh (RpSL.ds rv)⟩
theorem ThwL.rep {W : Wd} (h : HA T b W own) : ∀ {ss : List SV} {xs : List D} {vs : List V}, ThwL own ss xs → RpSL T W ss vs → RepL T W.H xs vs
  | _, _, _, .nil, r => r
  | _, _, _, .cons t ts, ⟨v, w, e, r1, r2⟩ => ⟨v, w, e, Thw.rep h t r1, ThwL.rep h ts r2⟩
theorem ThwL.all : ∀ {xs : List D}, ThwL own (xs.map SV.d) xs
  | [] => .nil
  | _ :: _ => .cons .d ThwL.all
theorem AllD.thw : ∀ {ss : List SV} {xs : List D}, AllD ss xs → ThwL own ss xs
  | _, _, .nil => .nil
  | _, _, .cons h => .cons .d h.thw
/-- no heap is needed for it -/
def sc : D → Bool
  | .non | .bl _ | .int _ | .str _ => true
  | _ => false
theorem sc.rep {G G' : Hp} {d : D} {v : V} (h : sc d = true) (r : Rep T G d v) : Rep T G' d v := by
  cases d <;> first | exact r | cases h
/-- a call whose arguments are own lists, its answer a number, a text .. -/
theorem we_callT {F : DF} {dvs : List V} {dd : List D} {E : XK} {X : Er → Prop} {ta : TA} (hx : XOk T b E X) (hd : ∀ G, RepL T G dd dvs)
    (h : WA T b ta own ds fun ss o => ∃ xs, ThwL o ss xs ∧ F (xs ++ dd) (fun d => sc d = true ∧ P (.d d) o) X) (mon : ∀ {xs R R' Y Y'}, F xs R Y → (∀ d, R d → R' d) → (∀ e, Y e → Y' e) → F xs R' Y') : WE T b (tCall (SpP T F) dvs E ta) own ds P := fun W σ ha sl Q q => by
  refine h W σ ha sl _ fun vs ss o1 W1 ha1 l1 r1 ⟨xs, e, f⟩ => ?_
  have r := ThwL.rep ha1 e r1
  have app : ∀ {xs ys : List D} {vs ws : List V}, RepL T W1.H xs vs → RepL T W1.H ys ws → RepL T W1.H (xs ++ ys) (vs ++ ws) := by
    intro xs
    induction xs with
    | nil =>
      intro ys vs ws h1 h2
      have h1' : vs = [] := h1
      subst h1'
      exact h2
    | cons x xs ih =>
      intro ys vs ws ⟨v, r, e, h1, h2⟩ h3
      subst e
      exact ⟨v, r ++ ws, rfl, h1, ih h2 h3⟩
  refine ⟨W1.H, xs ++ dd, Ex.refl _, app r (hd _), mon f (fun d ⟨s, p⟩ v G' H' g gh hh hg rv => ?_) fun e y dx H' hh hn hf => ?_⟩
  · obtain ⟨ha2, l2⟩ := ha1.call (G' := W1.G) (H' := H') (Ex.refl _) (ha1.gh.trans hh) hh (fun x _ q => q)
    exact q v (.d d) o1 ⟨W1.G, H', W1.as⟩ ha2 (l1.trans l2) (sc.rep s rv) p
  · exact hx e dx H' (ha1.bh.trans hh) (fresh_B ha1 hn) hf y
theorem HA.callH {W : Wd} {G' H' : Hp} {k : Nat} {a : Addr} (h : HA T b W own) (ho : own[k]? = some .hand) (ea : W.as[k]? = some a) (g : Ex W.G G') (gh : Ex G' H') (hh : ∀ x o, x ≠ a → W.H x = some o → H' x = some o) (hg : ∀ x, W.H x ≠ none → W.G x = none → G' x = none)
    (hd : HandAt T.K G' H' a) : HA T b ⟨G', H', W.as⟩ own ∧ Le W ⟨G', H', W.as⟩ := by
  have l : Le W ⟨G', H', W.as⟩ := ⟨g, List.prefix_refl _⟩
  obtain ⟨a', ea', ga, ba, na, hd0⟩ := h.ow.get ho
  have z : a' = a := Option.some.inj (ea'.symm.trans ea)
  subst z
  have there : ∀ x, W.H x ≠ none → H' x ≠ none := fun x n => by
    by_cases z : x = a'
    · obtain ⟨c, i, r, t, cells, e, _⟩ := hd
      rw [z, e]
      exact fun q => by cases q
    · cases e : W.H x with
      | none => exact absurd e n
      | some o =>
        rw [hh x o z e]
        exact fun q => by cases q
  have ow2 : OwL T b ⟨G', H', W.as⟩ W.as (own.set k .hand) := by
    have how : Ow T b ⟨G', H', W.as⟩ a' .hand := ⟨hg a' (OwL.there h.ow a' (List.mem_of_getElem? ea)) ga, ba, na, hd⟩
    refine OwL.set l how ea h.nd (fun c m z => ?_) h.ow
    have t := h.ow.there c m
    refine ⟨?_, fun q => hg c t q⟩
    cases e : W.H c with
    | none => exact absurd e t
    | some o => exact hh c o z e
  have se : own.set k .hand = own := by
    refine List.ext_getElem? fun i => ?_
    by_cases z : i = k
    · subst z
      rw [ho, List.getElem?_set_self ((List.getElem?_eq_some_iff.mp ho).1)]
    · rw [List.getElem?_set_ne (fun q => z q.symm)]
  rw [se] at ow2
  refine ⟨⟨gh, fun x o q => hh x o (fun z => by rw [z, ba] at q; cases q) (h.bh x o q), fun x n => ?_, h.nd, ow2⟩, l⟩
  obtain ⟨n1, n2⟩ := h.nn x n
  exact ⟨hg x n2 n1, there x n2⟩
/-- a call of a def that draws -/
theorem we_callH {F : DF} {dvs : List V} {dd : List D} {E : XK} {ta : TA} (hd : ∀ G, RepL T G dd dvs)
    (h : WA T b ta own ds fun ss o => ∃ k sr xs, ss = .p k :: sr ∧ o[k]? = some .hand ∧ AllD sr xs ∧ F (xs ++ dd) (fun d => P (.d d) o) (fun _ => False)) (mon : ∀ {xs R R' Y Y'}, F xs R Y → (∀ d, R d → R' d) → (∀ e, Y e → Y' e) → F xs R' Y') : WE T b (tCall (SpH T F) dvs E ta) own ds P := fun W σ ha sl Q q => by
  refine h W σ ha sl _ fun vs ss o1 W1 ha1 l1 r1 ⟨k, sr, xs, es, ho, e, f⟩ => ?_
  subst es
  obtain ⟨v, ws, rfl, ⟨a, ea, rfl⟩, r1⟩ := r1
  rw [e.eq] at r1
  have r := RpSL.ds r1
  obtain ⟨a', ea', ga, ba, na, hd0⟩ := ha1.ow.get ho
  have z : a' = a := Option.some.inj (ea'.symm.trans ea)
  subst z
  have app : ∀ {xs ys : List D} {vs ws : List V}, RepL T W1.G xs vs → RepL T W1.G ys ws → RepL T W1.G (xs ++ ys) (vs ++ ws) := by
    intro xs
    induction xs with
    | nil =>
      intro ys vs ws h1 h2
      have h1' : vs = [] := h1
      subst h1'
      exact h2
    | cons x xs ih =>
      intro ys vs ws ⟨v, r, e, h1, h2⟩ h3
      subst e
      exact ⟨v, r ++ ws, rfl, h1, ih h2 h3⟩
  refine ⟨a', W1.G, xs ++ dd, ws ++ dvs, rfl, ga, ha1.gh, hd0, app r (hd _), mon f (fun d p v G' H' g gh hh hg hd' rv => ?_) fun e y => y.elim⟩
  obtain ⟨ha2, l2⟩ := ha1.callH ho ea g gh hh hg hd'
  exact q v (.d d) o1 ⟨G', H', W1.as⟩ ha2 (l1.trans l2) rv p
end

/-! ### a def's body -/
theorem xok {T : Tb} {G0 H : Hp} {E : XK} {F : DF} : XOk T ⟨H, fun x => H x ≠ none ∧ G0 x = none⟩ E (PostX T H E) := fun e dx H' h n f x => x dx H' h n f
/-- the body of a def that changes nothing keeps its promise -/
theorem bodyP {T : Tb} {F : DF} {t : TS} {σ : L2.St} {ss : List (Option SV)} {vs : List V} {H : Hp} {Q : VK} {E : XK} {G0 : Hp} {xs : List D} (g : Ex G0 H) (sl : SlL T ⟨G0, H, []⟩ σ ss)
    (h : WS T ⟨H, fun x => H x ≠ none ∧ G0 x = none⟩ t [] ss ⟨fun _ _ => PostR T G0 H Q .non, fun s _ => ∃ d, s = .d d ∧ PostR T G0 H Q d, fun _ _ => False, fun _ _ => False⟩) :
    t { nx := fun _ H' => Q .non H', rt := Q } σ H := by
  have ha : HA T ⟨H, fun x => H x ≠ none ∧ G0 x = none⟩ ⟨G0, H, []⟩ [] := ⟨g, Ex.refl _, fun x n => ⟨n.2, n.1⟩, List.nodup_nil, rfl⟩
  refine h ⟨G0, H, []⟩ σ ha sl _ ⟨fun σ' o s W' h' l sl' p => p .non W'.G W'.H l.g h'.gh h'.bh (fun x n1 n2 => (h'.nn x ⟨n1, n2⟩).1) rfl, fun v s o W' h' l r ⟨d, e, p⟩ => ?_, fun _ _ _ _ _ _ _ p => p.elim, fun _ _ _ _ _ _ _ p => p.elim⟩
  subst e
  exact p v W'.G W'.H l.g h'.gh h'.bh (fun x n1 n2 => (h'.nn x ⟨n1, n2⟩).1) r
/-- the same of a def that draws -/
theorem bodyH {T : Tb} {F : DF} {t : TS} {σ : L2.St} {ss : List (Option SV)} {H : Hp} {Q : VK} {E : XK} {G0 : Hp} {a : Addr} (ga : G0 a = none) (g : Ex G0 H) (hd : HandAt T.K G0 H a) (sl : SlL T ⟨G0, H, [a]⟩ σ ss)
    (h : WS T ⟨fun x => if x = a then none else H x, fun x => x ≠ a ∧ H x ≠ none ∧ G0 x = none⟩ t [.hand] ss ⟨fun _ _ => False, fun s o => o[0]? = some .hand ∧ ∃ d, s = .d d ∧ PostH T a G0 H Q d, fun _ _ => False, fun _ _ => False⟩) :
    t { nx := fun _ H' => Q .non H', rt := Q } σ H := by
  have bh : Ex (fun x => if x = a then none else H x) H := fun x o q => by
    by_cases z : x = a
    · simp [z] at q
    · simpa [z] using q
  have how : Ow T ⟨fun x => if x = a then none else H x, fun x => x ≠ a ∧ H x ≠ none ∧ G0 x = none⟩ ⟨G0, H, [a]⟩ a .hand := ⟨ga, by simp, fun z => z.1 rfl, hd⟩
  have ha : HA T ⟨fun x => if x = a then none else H x, fun x => x ≠ a ∧ H x ≠ none ∧ G0 x = none⟩ ⟨G0, H, [a]⟩ [.hand] := ⟨g, bh, fun x n => ⟨n.2.2, n.2.1⟩, by simp, ⟨_, _, rfl, how, rfl⟩⟩
  refine h ⟨G0, H, [a]⟩ σ ha sl _ ⟨fun σ' o s W' h' l sl' p => p.elim, fun v s o W' h' l r ⟨ho, d, e, p⟩ => ?_, fun _ _ _ _ _ _ _ p => p.elim, fun _ _ _ _ _ _ _ p => p.elim⟩
  subst e
  obtain ⟨a', ea, ga', _, _, hd'⟩ := h'.ow.get ho
  have ea2 : W'.as[0]? = some a := prefix_get l.a rfl
  have z : a' = a := Option.some.inj (ea.symm.trans ea2)
  subst z
  refine p v W'.G W'.H l.g h'.gh (fun x o n q => h'.bh x o (by simpa [n] using q)) (fun x n1 n2 => ?_) hd' r
  by_cases z : x = a'
  · rw [z]
    exact ga'
  · exact (h'.nn x ⟨z, n1, n2⟩).1
end Lo
end
section
set_option Elab.async false
set_option linter.all false
set_option autoImplicit false
set_option maxRecDepth 100000
set_option maxHeartbeats 1000000
namespace Lo
open PySem PySem.Spec PyProof.Rows L2 Evl

/-! ### operators on data -/
section
variable {T : Tb} {b : Bd} {own : List OW} {ds : List (Option SV)} {P : PSv}
theorem wr_val {r : R2} {x y z : D} (sx : sc z = true) {vz : V} (hz : ∀ G, Rep T G z vz) (h : ∀ W vx vy, HA T b W own → RpS T W (.d x) vx → RpS T W (.d y) vy → ∀ Q : VK, Q vz W.H → r vx vy W.H Q) (p : P (.d z) own) : WR T b r own (.d x) (.d y) P := fun W vx vy ha rx ry Q q =>
  h W vx vy ha rx ry Q (q vz (.d z) own W ha (Le.refl W) (hz _) p)
theorem wr_I {C : Int → Int → Prop} {g : Int → Int → Int} {i j : Int} (c : C i j) (p : P (.d (.int (g i j))) own) : WR T b (rI C fun i j => .int (g i j)) own (.d (.int i)) (.d (.int j)) P := fun W vx vy ha rx ry Q q => by
  cases RpS.int rx
  cases RpS.int ry
  exact ⟨i, j, rfl, rfl, c, q _ (.d (.int (g i j))) own W ha (Le.refl W) rfl p⟩
theorem wr_I0 {g : Int → Int → Int} {i j : Int} (p : P (.d (.int (g i j))) own) : WR T b (rI0 fun i j => .int (g i j)) own (.d (.int i)) (.d (.int j)) P := fun W vx vy ha rx ry Q q => by
  cases RpS.int rx
  cases RpS.int ry
  exact ⟨i, j, rfl, rfl, q _ (.d (.int (g i j))) own W ha (Le.refl W) rfl p⟩
theorem wr_B0 {g : Int → Int → Bool} {i j : Int} (p : P (.d (.bl (g i j))) own) : WR T b (rI0 fun i j => .bl (g i j)) own (.d (.int i)) (.d (.int j)) P := fun W vx vy ha rx ry Q q => by
  cases RpS.int rx
  cases RpS.int ry
  exact ⟨i, j, rfl, rfl, q _ (.d (.bl (g i j))) own W ha (Le.refl W) rfl p⟩
theorem wu_neg {i : Int} (p : P (.d (.int (-i))) own) : WU T b (rU fun i => .int (-i)) own (.d (.int i)) P := fun W vx ha rx Q q => by
  cases RpS.int rx
  exact ⟨i, rfl, q _ (.d (.int (-i))) own W ha (Le.refl W) rfl p⟩
def rAddStr : R2 := fun x y H Q => ∃ i j, x = .str i ∧ y = .str j ∧ i.length + j.length ≤ sizeLine ∧ Q (.str (i ++ j)) H
theorem op_addStr {X : Cx} : OpR X (binaryOp .Add) rAddStr := op_add_str
theorem wr_addStr {x y : PySem.Str} (l : x.length + y.length ≤ 100000) (p : P (.d (.str (x ++ y))) own) : WR T b rAddStr own (.d (.str x)) (.d (.str y)) P := fun W vx vy ha rx ry Q q => by
  cases RpS.str rx
  cases RpS.str ry
  exact ⟨x, y, rfl, rfl, sz_of l, q _ (.d (.str (x ++ y))) own W ha (Le.refl W) rfl p⟩
def rLeStr : R2 := fun x y H Q => ∃ i j, x = .str i ∧ y = .str j ∧ Q (.bl (!decide (j.cps.toList < i.cps.toList))) H
theorem op_leStr {X : Cx} : OpR X (compareOp .LtE) rLeStr := op_le_str
theorem wr_leStr {x y : PySem.Str} (p : P (.d (.bl (!decide (y.cps.toList < x.cps.toList)))) own) : WR T b rLeStr own (.d (.str x)) (.d (.str y)) P := fun W vx vy ha rx ry Q q => by
  cases RpS.str rx
  cases RpS.str ry
  exact ⟨x, y, rfl, rfl, q _ (.d (.bl _)) own W ha (Le.refl W) rfl p⟩
/-- is None -/
def D.isNon : D → Bool
  | .non => true
  | _ => false
theorem isNon_rep {G : Hp} {d : D} {v : V} (r : Rep T G d v) : decide (v = .non) = d.isNon := by
  cases d with
  | non =>
    have e : v = .non := r
    subst e
    rfl
  | bl k =>
    have e : v = .bl k := r
    subst e
    rfl
  | int i =>
    have e : v = .int i := r
    subst e
    exact decide_eq_false (fun z => by cases z)
  | str z =>
    have e : v = .str z := r
    subst e
    exact decide_eq_false (fun z => by cases z)
  | lst xs =>
    obtain ⟨a, vs, e, _⟩ := r
    subst e
    exact decide_eq_false (fun z => by cases z)
  | tup xs =>
    obtain ⟨a, vs, e, _⟩ := r
    subst e
    exact decide_eq_false (fun z => by cases z)
  | obj c fs =>
    obtain ⟨a, dx, gs, e, _⟩ := r
    subst e
    exact decide_eq_false (fun z => by cases z)
  | dct ks vs =>
    obtain ⟨a, gs, e, _⟩ := r
    subst e
    exact decide_eq_false (fun z => by cases z)
theorem wr_isN {x : D} (p : P (.d (.bl x.isNon)) own) : WR T b rIsN own (.d x) (.d .non) P := fun W vx vy ha rx ry Q q => by
  cases RpS.non ry
  refine ⟨rfl, ?_⟩
  rw [isNon_rep rx]
  exact q _ (.d (.bl x.isNon)) own W ha (Le.refl W) rfl p
theorem wr_notN {x : D} (p : P (.d (.bl (!x.isNon))) own) : WR T b rNotN own (.d x) (.d .non) P := fun W vx vy ha rx ry Q q => by
  cases RpS.non ry
  refine ⟨rfl, ?_⟩
  rw [isNon_rep rx]
  exact q _ (.d (.bl (!x.isNon))) own W ha (Le.refl W) rfl p
/-- items -/
theorem RepL.get {G : Hp} : ∀ {xs : List D} {vs : List V} {i : Nat} {x : D}, RepL T G xs vs → xs[i]? = some x → ∃ v, vs[i]? = some v ∧ Rep T G x v
  | [], _, i, x, h, e => by simp at e
  | y :: xs, _, 0, x, ⟨v, r, rfl, h1, h2⟩, e => by
    have e' : y = x := by simpa using e
    subst e'
    exact ⟨v, by simp, h1⟩
  | y :: xs, _, i + 1, x, ⟨v, r, rfl, h1, h2⟩, e => by
    obtain ⟨w, ew, hw⟩ := RepL.get (i := i) h2 (by simpa using e)
    exact ⟨w, by simpa using ew, hw⟩
theorem RpSL.get {W : Wd} : ∀ {xs : List SV} {vs : List V} {i : Nat} {x : SV}, RpSL T W xs vs → xs[i]? = some x → ∃ v, vs[i]? = some v ∧ RpS T W x v
  | [], _, i, x, h, e => by simp at e
  | y :: xs, _, 0, x, ⟨v, r, rfl, h1, h2⟩, e => by
    have e' : y = x := by simpa using e
    subst e'
    exact ⟨v, by simp, h1⟩
  | y :: xs, _, i + 1, x, ⟨v, r, rfl, h1, h2⟩, e => by
    obtain ⟨w, ew, hw⟩ := RpSL.get (i := i) h2 (by simpa using e)
    exact ⟨w, by simpa using ew, hw⟩
theorem atI_len {α β : Type} {xs : List α} {ys : List β} (l : xs.length = ys.length) {i : Int} {x : α} (e : atI xs i = some x) : ∃ j : Nat, ixN ys.length i = some j ∧ xs[j]? = some x := by
  unfold atI at e
  cases h : ixN xs.length i with
  | none => rw [h] at e; cases e
  | some j =>
    rw [h] at e
    exact ⟨j, by rw [← l]; exact h, e⟩
theorem RepL.at {G : Hp} {xs : List D} {vs : List V} {i : Int} {x : D} (r : RepL T G xs vs) (e : atI xs i = some x) : ∃ v, atI vs i = some v ∧ Rep T G x v := by
  obtain ⟨j, h1, h2⟩ := atI_len (ys := vs) r.len.symm e
  obtain ⟨v, ev, rv⟩ := r.get h2
  exact ⟨v, by unfold atI; rw [h1]; exact ev, rv⟩
theorem RpSL.at {W : Wd} {xs : List SV} {vs : List V} {i : Int} {x : SV} (r : RpSL T W xs vs) (e : atI xs i = some x) : ∃ v, atI vs i = some v ∧ RpS T W x v := by
  obtain ⟨j, h1, h2⟩ := atI_len (ys := vs) r.len.symm e
  obtain ⟨v, ev, rv⟩ := r.get h2
  exact ⟨v, by unfold atI; rw [h1]; exact ev, rv⟩
def rIx (K : PySem.W.Frag) : R2 := fun x y H Q => rIxL K x y H Q ∨ rIxT K x y H Q ∨ rIxS x y H Q
theorem ix_any {X : Cx} : IxR X (rIx X.K) := ix_seq
theorem wr_ixL {xs : List D} {i : Int} {x : D} (e : atI xs i = some x) (p : P (.d x) own) : WR T b (rIx T.K) own (.d (.lst xs)) (.d (.int i)) P := fun W vx vy ha rx ry Q q => by
  cases RpS.int ry
  obtain ⟨a, vs, rfl, hs, r⟩ := rx
  obtain ⟨v, ev, rv⟩ := r.at e
  exact .inl ⟨a, vs, i, v, rfl, rfl, sq_of (ha.gh _ _ hs), ev, q v (.d x) own W ha (Le.refl W) rv p⟩
theorem wr_ixT {xs : List D} {i : Int} {x : D} (e : atI xs i = some x) (p : P (.d x) own) : WR T b (rIx T.K) own (.d (.tup xs)) (.d (.int i)) P := fun W vx vy ha rx ry Q q => by
  cases RpS.int ry
  obtain ⟨a, vs, rfl, hs, r⟩ := rx
  obtain ⟨v, ev, rv⟩ := r.at e
  exact .inr (.inl ⟨a, vs, i, v, rfl, rfl, ex_t ha.gh hs, ev, q v (.d x) own W ha (Le.refl W) rv p⟩)
theorem wr_ixO {k : Nat} {ss : List SV} {i : Int} {x : SV} (ho : own[k]? = some (.lst ss)) (e : atI ss i = some x) (p : P x own) : WR T b (rIx T.K) own (.p k) (.d (.int i)) P := fun W vx vy ha rx ry Q q => by
  cases RpS.int ry
  obtain ⟨a, ea, rfl⟩ := rx
  obtain ⟨a', ea', _, _, _, vs, eh, r⟩ := ha.ow.get ho
  have z : a' = a := Option.some.inj (ea'.symm.trans ea)
  subst z
  obtain ⟨v, ev, rv⟩ := r.at e
  exact .inl ⟨a', vs, i, v, rfl, rfl, sq_of eh, ev, q v x own W ha (Le.refl W) rv p⟩
theorem wr_ixS {z : PySem.Str} {i : Int} {c : Nat} (l : z.length ≤ 100000) (e : atI z.cps.toList i = some c) (p : P (.d (.str ⟨#[c]⟩)) own) : WR T b (rIx T.K) own (.d (.str z)) (.d (.int i)) P := fun W vx vy ha rx ry Q q => by
  cases RpS.str rx
  cases RpS.int ry
  exact .inr (.inr ⟨z, i, c, rfl, rfl, sz_of l, e, q _ (.d (.str ⟨#[c]⟩)) own W ha (Le.refl W) rfl p⟩)
end

/-! ### flat data in a row -/
def D.flat : D → Bool
  | .non | .bl _ | .int _ | .str _ => true
  | _ => false
def D.eqF : D → D → Bool
  | .non, .non => true
  | .bl a, .bl b => a == b
  | .bl a, .int b => (if a then 1 else 0) == b
  | .int a, .bl b => a == (if b then 1 else 0)
  | .int a, .int b => a == b
  | .str a, .str b => a == b
  | _, _ => false
def D.vv : D → V
  | .bl b => .bl b
  | .int i => .int i
  | .str s => .str s
  | _ => .non
section
variable {T : Tb} {b : Bd} {own : List OW} {ds : List (Option SV)} {P : PSv}
theorem flat_rep {G : Hp} {d : D} {v : V} (f : d.flat = true) (r : Rep T G d v) : v = d.vv := by
  cases d <;> first | exact r | cases f
theorem flat_repL {G : Hp} : ∀ {xs : List D} {vs : List V}, xs.all D.flat = true → RepL T G xs vs → vs = xs.map D.vv
  | [], _, _, r => r
  | x :: xs, _, f, ⟨v, w, rfl, h1, h2⟩ => by
    simp only [List.all_cons, Bool.and_eq_true] at f
    rw [List.map_cons, flat_rep f.1 h1, flat_repL f.2 h2]
theorem flatV_vv {d : D} (f : d.flat = true) : flatV d.vv = true := by
  cases d <;> first | rfl | cases f
theorem eqV_vv {x y : D} (f : x.flat = true) (g : y.flat = true) : eqV x.vv y.vv = x.eqF y := by
  cases x <;> first | (cases f; done) | (cases y <;> first | rfl | (cases g; done))
def D.inF (x : D) (xs : List D) : Bool := xs.any fun y => y.eqF x
theorem inV_vv {x : D} (f : x.flat = true) : ∀ {xs : List D}, xs.all D.flat = true → inV x.vv (xs.map D.vv) = x.inF xs
  | [], _ => rfl
  | y :: xs, g => by
    simp only [List.all_cons, Bool.and_eq_true] at g
    have ih := inV_vv f g.2
    unfold inV D.inF at ih ⊢
    rw [List.map_cons, List.any_cons, List.any_cons, ih, eqV_vv g.1 f]
theorem flatAll_vv : ∀ {xs : List D}, xs.all D.flat = true → (xs.map D.vv).all flatV = true
  | [], _ => rfl
  | y :: xs, g => by
    simp only [List.all_cons, Bool.and_eq_true] at g
    rw [List.map_cons, List.all_cons, flatV_vv g.1, flatAll_vv g.2]
    rfl
theorem wr_inT {neg : Bool} {x : D} {xs : List D} (f : x.flat = true) (g : xs.all D.flat = true) (p : P (.d (.bl (if neg then !x.inF xs else x.inF xs))) own) : WR T b (rIn T.K neg) own (.d x) (.d (.tup xs)) P := fun W vx vy ha rx ry Q q => by
  obtain ⟨a, vs, rfl, hs, r⟩ := ry
  rw [flat_rep f rx]
  have e := flat_repL g r
  subst e
  refine ⟨a, _, rfl, .inr (ex_t ha.gh hs), flatV_vv f, flatAll_vv g, ?_⟩
  rw [inV_vv f g]
  exact q _ (.d (.bl _)) own W ha (Le.refl W) rfl p
theorem wr_inL {neg : Bool} {x : D} {xs : List D} (f : x.flat = true) (g : xs.all D.flat = true) (p : P (.d (.bl (if neg then !x.inF xs else x.inF xs))) own) : WR T b (rIn T.K neg) own (.d x) (.d (.lst xs)) P := fun W vx vy ha rx ry Q q => by
  obtain ⟨a, vs, rfl, hs, r⟩ := ry
  rw [flat_rep f rx]
  have e := flat_repL g r
  subst e
  refine ⟨a, _, rfl, .inl (sq_of (ha.gh _ _ hs)), flatV_vv f, flatAll_vv g, ?_⟩
  rw [inV_vv f g]
  exact q _ (.d (.bl _)) own W ha (Le.refl W) rfl p
theorem wr_eqF {x y : D} (f : scal x.vv y.vv = true) (fx : x.flat = true) (fy : y.flat = true) (p : P (.d (.bl (decide (x.vv = y.vv)))) own) : WR T b rEq own (.d x) (.d y) P := fun W vx vy ha rx ry Q q => by
  rw [flat_rep fx rx, flat_rep fy ry]
  exact ⟨f, q _ (.d (.bl _)) own W ha (Le.refl W) rfl p⟩
end

/-! ### == of data -/
mutual
def D.py : D → PyData
  | .non => .none
  | .bl b => .bool b
  | .int i => .int i
  | .str s => .str s
  | .lst xs => .list (D.pyL xs)
  | .tup xs => .tuple (D.pyL xs)
  | .obj _ _ => .none
  | .dct _ _ => .none
def D.pyL : List D → List PyData
  | [] => []
  | d :: ds => d.py :: D.pyL ds
end
mutual
def D.pure : D → Bool
  | .lst xs => D.pureL xs
  | .tup xs => D.pureL xs
  | .obj _ _ => false
  | .dct _ _ => false
  | _ => true
def D.pureL : List D → Bool
  | [] => true
  | d :: ds => d.pure && D.pureL ds
end
mutual
theorem Rep.dp {T : Tb} {H : Hp} : ∀ {d : D} {v : V}, d.pure = true → Rep T H d v → Dp T.K H v d.py
  | .non, _, _, h => by
    have e : _ = V.non := h
    subst e
    exact .non
  | .bl k, _, _, h => by
    have e : _ = V.bl k := h
    subst e
    exact .bl k
  | .int k, _, _, h => by
    have e : _ = V.int k := h
    subst e
    exact .int k
  | .str k, _, _, h => by
    have e : _ = V.str k := h
    subst e
    exact .str k
  | .lst xs, _, p, ⟨a, vs, e, hs, r⟩ => by
    subst e
    exact .lst (sq_of hs) (RepL.dp (by simpa [D.pure] using p) r)
  | .tup xs, _, p, ⟨a, vs, e, hs, r⟩ => by
    subst e
    exact .tup hs (RepL.dp (by simpa [D.pure] using p) r)
  | .obj _ _, _, p, _ => by simp [D.pure] at p
  | .dct _ _, _, p, _ => by simp [D.pure] at p
theorem RepL.dp {T : Tb} {H : Hp} : ∀ {ds : List D} {vs : List V}, D.pureL ds = true → RepL T H ds vs → DpAll T.K H vs (D.pyL ds)
  | [], _, _, h => by
    have e : _ = [] := h
    subst e
    exact .nil
  | d :: ds, _, p, ⟨v, r, e, h1, h2⟩ => by
    subst e
    simp only [D.pureL, Bool.and_eq_true] at p
    exact .cons (Rep.dp p.1 h1) (RepL.dp p.2 h2)
end
def D.okd (d : D) : Bool := d.pure && SeqAt.shaped d.py
def D.eqv (x y : D) : Bool := PyData.eqv x.py y.py
section
variable {T : Tb} {b : Bd} {own : List OW} {ds : List (Option SV)} {P : PSv}
theorem wr_eqD {x y : SV} {dx dy : D} (tx : Thw own x dx) (ty : Thw own y dy) (fx : dx.okd = true) (fy : dy.okd = true) (p : P (.d (.bl (dx.eqv dy))) own) : WR T b (rEqD T.K) own x y P := fun W vx vy ha rx ry Q q => by
  simp only [D.okd, Bool.and_eq_true] at fx fy
  exact ⟨_, _, Rep.dp fx.1 (tx.rep ha rx), Rep.dp fy.1 (ty.rep ha ry), fx.2, fy.2, q _ (.d (.bl (dx.eqv dy))) own W ha (Le.refl W) rfl p⟩
theorem wr_neD {x y : SV} {dx dy : D} (tx : Thw own x dx) (ty : Thw own y dy) (fx : dx.okd = true) (fy : dy.okd = true) (p : P (.d (.bl (!dx.eqv dy))) own) : WR T b (rNeD T.K) own x y P := fun W vx vy ha rx ry Q q => by
  simp only [D.okd, Bool.and_eq_true] at fx fy
  exact ⟨_, _, Rep.dp fx.1 (tx.rep ha rx), Rep.dp fy.1 (ty.rep ha ry), fx.2, fy.2, q _ (.d (.bl (!dx.eqv dy))) own W ha (Le.refl W) rfl p⟩

/-! ### isinstance -/
def D.tyN : D → String
  | .non => "NoneType" | .bl _ => "bool" | .int _ => "int" | .str _ => "str" | .lst _ => "list" | .tup _ => "tuple" | .obj _ _ => "object" | .dct _ _ => "dict"
def D.isO : D → Bool
  | .obj _ _ => true
  | _ => false
theorem Rep.tyx {H : Hp} {d : D} {v : V} (n : d.isO = false) (r : Rep T H d v) : TyX T.K H v (.type d.tyN) := by
  cases d with
  | non => have e : v = .non := r; subst e; exact .base .non
  | bl k => have e : v = .bl k := r; subst e; exact .base (.bl k)
  | int k => have e : v = .int k := r; subst e; exact .base (.int k)
  | str k => have e : v = .str k := r; subst e; exact .base (.str k)
  | lst xs =>
    obtain ⟨a, vs, rfl, hs, _⟩ := r
    exact .base (.lst hs)
  | tup xs =>
    obtain ⟨a, vs, rfl, hs, _⟩ := r
    rcases hs with (h | ⟨o, h⟩) | ⟨o, its, m, h, hc, _⟩
    · exact .base (.tup h)
    · exact .fTuple h
    · exact .kTuple h hc
  | obj c fs => cases n
  | dct ks vs =>
    obtain ⟨a, gs, rfl, hs, _⟩ := r
    exact .base (.dK hs)
theorem we_isi {ta : TE} {n : String} (h : WE T b ta own ds fun s o => ∃ d k, Thw o s d ∧ d.isO = false ∧ kitB d.tyN n = some k ∧ P (.d (.bl k)) o) : WE T b (tCB (rIsi T.K) (tCons ta (tCons (tC (.ty n)) tNil))) own ds P := fun W σ ha sl Q q => by
  refine h W σ ha sl _ fun v s o1 W1 ha1 l1 r1 ⟨d, k, t, f, e, p⟩ => ?_
  exact ⟨v, .ty n, .type d.tyN, .type n, k, rfl, .ty n, Rep.tyx f (t.rep ha1 r1), kit_ty e, q _ (.d (.bl k)) o1 W1 ha1 l1 rfl p⟩
theorem we_isi2 {ta : TE} {n m : String} (h : WE T b ta own ds fun s o => ∃ d k1 k2, Thw o s d ∧ d.isO = false ∧ kitB d.tyN n = some k1 ∧ kitB d.tyN m = some k2 ∧ P (.d (.bl (k1 || k2))) o) : WE T b (tCB (rIsiT T.K) (tCons ta (tCons (tTup (tCons (tC (.ty n)) (tCons (tC (.ty m)) tNil))) tNil))) own ds P := fun W σ ha sl Q q => by
  refine h W σ ha sl _ fun v s o1 W1 ha1 l1 r1 ⟨d, k1, k2, t, f, e1, e2, p⟩ => ?_
  refine ⟨sz_of (by show 2 ≤ 100000; decide), fun c hc => ?_⟩
  obtain ⟨ha2, l2⟩ := ha1.alloc (o := .tup [.ty n, .ty m]) hc
  refine ⟨v, c, [.ty n, .ty m], .type d.tyN, [.type n, .type m], k1 || k2, rfl, upd_same, .cons (.ty n) (.cons (.ty m) .nil), Rep.tyx f (Rep.mono (Ex.new hc) (t.rep ha1 r1)), ?_, q _ (.d (.bl (k1 || k2))) o1 _ ha2 (l1.trans l2) rfl p⟩
  refine kitAny_cons (kit_ty e1) (fun z => ?_) (fun z => by rw [z]; rfl)
  rw [z]
  refine kitAny_cons (kit_ty e2) (fun z => by rw [z]; rfl) (fun z => by rw [z]; rfl)
end
end Lo
end
section
set_option Elab.async false
set_option linter.all false
set_option autoImplicit false
set_option maxRecDepth 100000
set_option maxHeartbeats 1000000
namespace Lo
open PySem PySem.Spec PyProof.Rows L2 Evl

/-! ### what is walked -/
/-- the iterator hands out just these data -/
def ItOk (T : Tb) (b : Bd) (J : It) (W : Wd) (items : List D) : Prop :=
  ∀ (i : Nat) (W2 : Wd) (own2 : List OW), Le W W2 → HA T b W2 own2 →
    (∀ x, items[i]? = some x → J.go i W2.H ∧ ∀ v H', J.yld i W2.H v H' → ∃ W3, W3.H = H' ∧ HA T b W3 own2 ∧ Le W2 W3 ∧ Rep T W3.G x v) ∧ (i = items.length → J.stop i W2.H)
def WI (T : Tb) (b : Bd) (wi : TI) (own : List OW) (ds : List (Option SV)) (P : List D → List OW → Prop) : Prop :=
  ∀ (W : Wd) (σ : L2.St), HA T b W own → SlL T W σ ds → ∀ R : It → Hp → Prop, (∀ J items own' W', HA T b W' own' → Le W W' → ItOk T b J W' items → P items own' → R J W'.H) → wi σ W.H R
/-- what a target does with a datum -/
def WG (T : Tb) (b : Bd) (g : TG) (js : List Nat) (x : D) (own : List OW) (ds : List (Option SV)) (P : List OW → List (Option SV) → Prop) : Prop :=
  ∀ (W : Wd) (σ : L2.St) v, HA T b W own → SlL T W σ ds → Rep T W.G x v → ∀ Q : L2.St → Hp → Prop, (∀ σ' own' ds' W', HA T b W' own' → Le W W' → SlL T W' σ' ds' → σ'.length = σ.length → (∀ i, i ∉ js → σ'[i]? = σ[i]?) → P own' ds' → Q σ' W'.H) → g v σ W.H Q
section
variable {T : Tb} {b : Bd} {own : List OW} {ds : List (Option SV)}
theorem wg_name {j : Nat} {x : D} {P : List OW → List (Option SV) → Prop} (p : P own (ds.set j (some (.d x)))) : WG T b (gName j) [j] x own ds P := fun W σ v ha sl r Q q =>
  q _ own _ W ha (Le.refl W) (SlL.set (fun sv e => by cases e; exact r) j sl) (by simp) (fun i hi => by rw [List.getElem?_set_ne (fun z => hi (by simp [z]))]) p
theorem wg_tup2 {K : PySem.W.Frag} (hK : T.K = K) {j k : Nat} {x y : D} {P : List OW → List (Option SV) → Prop} (p : P own ((ds.set j (some (.d x))).set k (some (.d y)))) : WG T b (gTup K 2 (gCons (gName j) (gCons (gName k) gNil))) [j, k] (.tup [x, y]) own ds P := fun W σ v ha sl r Q q => by
  obtain ⟨a, vs, rfl, hs, v1, r1, rfl, h1, v2, r2, rfl, h2, rfl⟩ := r
  subst hK
  refine ⟨a, _, rfl, ex_t ha.gh hs, rfl, v1, [v2], rfl, v2, [], rfl, rfl, ?_⟩
  refine q _ own _ W ha (Le.refl W) (SlL.set (fun sv e => by cases e; exact h2) k (SlL.set (fun sv e => by cases e; exact h1) j sl)) (by simp) (fun i hi => ?_) p
  have n1 : j ≠ i := fun z => hi (by simp [z])
  have n2 : k ≠ i := fun z => hi (by simp [z])
  rw [List.getElem?_set_ne n2, List.getElem?_set_ne n1]
theorem wg_tup2L {K : PySem.W.Frag} (hK : T.K = K) {j k : Nat} {x y : D} {P : List OW → List (Option SV) → Prop} (p : P own ((ds.set j (some (.d x))).set k (some (.d y)))) : WG T b (gTup K 2 (gCons (gName j) (gCons (gName k) gNil))) [j, k] (.tup [x, y]) own ds P := wg_tup2 hK p
theorem wg_tup3 {K : PySem.W.Frag} (hK : T.K = K) {j k l : Nat} {x y z : D} {P : List OW → List (Option SV) → Prop} (p : P own (((ds.set j (some (.d x))).set k (some (.d y))).set l (some (.d z)))) : WG T b (gTup K 3 (gCons (gName j) (gCons (gName k) (gCons (gName l) gNil)))) [j, k, l] (.tup [x, y, z]) own ds P := fun W σ v ha sl r Q q => by
  obtain ⟨a, vs, rfl, hs, v1, r1, rfl, h1, v2, r2, rfl, h2, v3, r3, rfl, h3, rfl⟩ := r
  subst hK
  refine ⟨a, _, rfl, ex_t ha.gh hs, rfl, v1, [v2, v3], rfl, v2, [v3], rfl, v3, [], rfl, rfl, ?_⟩
  refine q _ own _ W ha (Le.refl W) (SlL.set (fun sv e => by cases e; exact h3) l (SlL.set (fun sv e => by cases e; exact h2) k (SlL.set (fun sv e => by cases e; exact h1) j sl))) (by simp) (fun i hi => ?_) p
  have n1 : j ≠ i := fun z => hi (by simp [z])
  have n2 : k ≠ i := fun z => hi (by simp [z])
  have n3 : l ≠ i := fun z => hi (by simp [z])
  rw [List.getElem?_set_ne n3, List.getElem?_set_ne n2, List.getElem?_set_ne n1]

/-- either a list or a tuple -/
def iSeq (K : PySem.W.Frag) (tl : TE) : TI := fun σ H R => tl σ H fun x H1 => (∃ a, x = .ref a ∧ (∃ xs, SqL K H1 a xs) ∧ R (Itl K a) H1) ∨ (∃ a, x = .ref a ∧ (∃ xs, SqT K H1 a xs) ∧ R (Itt K a) H1)
theorem pi_seq {X : Cx} {tg l : Expr} {tl : TE} (hl : PE X l tl) : PI X tg l (iSeq X.K tl) := by
  refine ⟨fun pins s σ H R I h => ?_⟩
  refine thn (hl.run pins s σ H _ I h) fun v s1 ⟨x, H1, I1, r1, q1⟩ => ?_
  rcases q1 with ⟨a, e, ⟨xs, hq⟩, q⟩ | ⟨a, e, ⟨xs, hq⟩, q⟩
  · subst e
    cases r1
    obtain ⟨its, rv, p, hz⟩ := I1.list hq
    refine wpAny_pyIter_list p.isList ?_
    refine ⟨s1.heap.objs.size, [s1.heap.objs.size], _, _, H1, rfl, I1.kept (t' := s1.toks) fun b o e => Heap.get?_push_of_some _ e, turn_list a _, ⟨_, Heap.get?_push_size _ rfl, rfl, rfl⟩, fun b hb => ?_, q⟩
    have e : b = s1.heap.objs.size := by simpa using hb
    subst e
    exact I1.fpOk (Nat.le_refl _) (I1.hok.fresh (Nat.le_refl _))
  · subst e
    cases r1
    obtain ⟨its, rv, p, hz⟩ := I1.tuple hq
    refine wpAny_pyIter_tuple (show s1.heap.IsTuple a its.toArray from p) ?_
    refine ⟨s1.heap.objs.size, [s1.heap.objs.size], _, _, H1, rfl, I1.kept (t' := s1.toks) fun b o e => Heap.get?_push_of_some _ e, turn_tuple a _, ⟨_, Heap.get?_push_size _ rfl, rfl, rfl⟩, fun b hb => ?_, q⟩
    have e : b = s1.heap.objs.size := by simpa using hb
    subst e
    exact I1.fpOk (Nat.le_refl _) (I1.hok.fresh (Nat.le_refl _))
theorem sql_inj {K : PySem.W.Frag} {G H : Hp} {a : Addr} {xs ys : List V} (P : ∀ {xs ys : List V}, SqL K H a xs → SqL K H a ys → xs = ys) (h : SqL K H a xs) (k : SqL K H a ys) : xs = ys := P h k
theorem itl_ok {W : Wd} {a : Addr} {vs : List V} {xs : List D} (hs : W.G a = some (.lst vs)) (r : RepL T W.G xs vs) : ItOk T b (Itl T.K a) W xs := fun i W2 own2 l ha => by
  have h2 : SqL T.K W2.H a vs := sq_of ((l.g.trans ha.gh) _ _ hs)
  refine ⟨fun x e => ?_, fun e => ⟨vs, h2, by rw [r.len, e]; exact Nat.le_refl _⟩⟩
  obtain ⟨v, ev, rv⟩ := r.get e
  refine ⟨⟨vs, v, h2, ev⟩, fun w H' ⟨eh, hw⟩ => ⟨W2, eh.symm, ha, Le.refl _, ?_⟩⟩
  have ew : w = v := Option.some.inj ((hw vs h2).symm.trans ev)
  rw [ew]
  exact Rep.mono l.g rv
theorem itt_ok {W : Wd} {a : Addr} {vs : List V} {xs : List D} (hs : SqT T.K W.G a vs) (r : RepL T W.G xs vs) : ItOk T b (Itt T.K a) W xs := fun i W2 own2 l ha => by
  have h2 : SqT T.K W2.H a vs := ex_t (l.g.trans ha.gh) hs
  refine ⟨fun x e => ?_, fun e => ⟨vs, h2, by rw [r.len, e]; exact Nat.le_refl _⟩⟩
  obtain ⟨v, ev, rv⟩ := r.get e
  refine ⟨⟨vs, v, h2, ev⟩, fun w H' ⟨eh, hw⟩ => ⟨W2, eh.symm, ha, Le.refl _, ?_⟩⟩
  have ew : w = v := Option.some.inj ((hw vs h2).symm.trans ev)
  rw [ew]
  exact Rep.mono l.g rv
theorem wi_seq {tl : TE} {P : List D → List OW → Prop} (h : WE T b tl own ds fun s o => ∃ xs, (s = .d (.lst xs) ∨ s = .d (.tup xs)) ∧ P xs o) : WI T b (iSeq T.K tl) own ds P := fun W σ ha sl R q => by
  refine h W σ ha sl _ fun v s o1 W1 ha1 l1 r1 ⟨xs, e, p⟩ => ?_
  rcases e with e | e
  · subst e
    obtain ⟨a, vs, rfl, hs, r⟩ := r1
    exact .inl ⟨a, rfl, ⟨vs, sq_of (ha1.gh _ _ hs)⟩, q _ xs o1 W1 ha1 l1 (itl_ok hs r) p⟩
  · subst e
    obtain ⟨a, vs, rfl, hs, r⟩ := r1
    exact .inr ⟨a, rfl, ⟨vs, ex_t ha1.gh hs⟩, q _ xs o1 W1 ha1 l1 (itt_ok hs r) p⟩
/-- an own list that is walked and frozen for that (it stays so) -/
def rngD (lo : Int) (n : Nat) : List D := (List.range n).map fun (i : Nat) => D.int (lo + (i : Int))
theorem rngD_get {lo : Int} {n i : Nat} {x : D} (e : (rngD lo n)[i]? = some x) : i < n ∧ x = .int (lo + (i : Int)) := by
  unfold rngD at e
  rw [List.getElem?_map] at e
  by_cases h : i < n
  · rw [List.getElem?_range h] at e
    exact ⟨h, (Option.some.inj e).symm⟩
  · rw [List.getElem?_eq_none (by simp; omega)] at e
    cases e
theorem rngD_len {lo : Int} {n : Nat} : (rngD lo n).length = n := by simp [rngD]
theorem itr_ok {W : Wd} {lo : Int} {n : Nat} : ItOk T b (Itr lo n) W (rngD lo n) := fun i W2 own2 l ha => by
  refine ⟨fun x e => ?_, fun e => by rw [e, rngD_len]; exact Nat.le_refl _⟩
  obtain ⟨h, rfl⟩ := rngD_get e
  exact ⟨h, fun w H' ⟨eh, hw⟩ => ⟨W2, eh.symm, ha, Le.refl _, hw⟩⟩
theorem wi_rng1 {ta : TA} {P : List D → List OW → Prop} (h : WA T b ta own ds fun ss o => ∃ n : Int, ss = [.d (.int n)] ∧ -(2 ^ 62) ≤ n ∧ n < 2 ^ 62 ∧ P (rngD 0 n.toNat) o) : WI T b (iRng1 ta) own ds P := fun W σ ha sl R q => by
  refine h W σ ha sl _ fun vs ss o1 W1 ha1 l1 r1 ⟨n, e, h1, h2, p⟩ => ?_
  subst e
  obtain ⟨v, r, rfl, hv, rfl⟩ := r1
  cases RpS.int hv
  exact ⟨n, rfl, h1, h2, q _ _ o1 W1 ha1 l1 itr_ok p⟩
theorem wi_rng2 {ta : TA} {P : List D → List OW → Prop} (h : WA T b ta own ds fun ss o => ∃ m n : Int, ss = [.d (.int m), .d (.int n)] ∧ -(2 ^ 62) ≤ m ∧ m < 2 ^ 62 ∧ -(2 ^ 62) ≤ n ∧ n < 2 ^ 62 ∧ P (rngD m (n - m).toNat) o) : WI T b (iRng2 ta) own ds P := fun W σ ha sl R q => by
  refine h W σ ha sl _ fun vs ss o1 W1 ha1 l1 r1 ⟨m, n, e, h1, h2, h3, h4, p⟩ => ?_
  subst e
  obtain ⟨v, r, rfl, hv, v2, r2, rfl, hv2, rfl⟩ := r1
  cases RpS.int hv
  cases RpS.int hv2
  exact ⟨m, n, rfl, ⟨h1, h2, h3, h4⟩, q _ _ o1 W1 ha1 l1 itr_ok p⟩
def signsD (z : PySem.Str) : List D := z.cps.toList.map fun c => .str ⟨#[c]⟩
theorem wi_str {te : TE} {P : List D → List OW → Prop} (h : WE T b te own ds fun s o => ∃ z, s = .d (.str z) ∧ P (signsD z) o) : WI T b (iStr te) own ds P := fun W σ ha sl R q => by
  refine h W σ ha sl _ fun v s o1 W1 ha1 l1 r1 ⟨z, e, p⟩ => ?_
  subst e
  cases RpS.str r1
  refine ⟨z, rfl, q _ _ o1 W1 ha1 l1 (fun i W2 own2 l ha => ⟨fun x e => ?_, fun e => ?_⟩) p⟩
  · unfold signsD at e
    rw [List.getElem?_map] at e
    cases g : z.cps.toList[i]? with
    | none => rw [g] at e; cases e
    | some c =>
      rw [g] at e
      have ex := (Option.some.inj e).symm
      subst ex
      have gc : z.cps[i]? = some c := by rw [← Array.getElem?_toList]; exact g
      refine ⟨(Array.getElem?_eq_some_iff.mp gc).1, fun w H' ⟨eh, c', hc, hw⟩ => ⟨W2, eh.symm, ha, Le.refl _, ?_⟩⟩
      have ec : c' = c := Option.some.inj (hc.symm.trans gc)
      rw [hw, ec]
      rfl
  · show z.cps.size ≤ i
    rw [e]
    simp [signsD]

/-! ### loops -/
/-- less is known: slots forgotten, own objects dropped from behind -/
inductive SlF (n : Nat) : List (Option SV) → List (Option SV) → Prop
  | nil : SlF n [] []
  | drop {x : Option SV} {xs ys : List (Option SV)} : SlF n xs ys → SlF n (x :: xs) (none :: ys)
  | keepd {d : D} {xs ys : List (Option SV)} : SlF n xs ys → SlF n (some (.d d) :: xs) (some (.d d) :: ys)
  | keepp {k : Nat} {xs ys : List (Option SV)} : k < n → SlF n xs ys → SlF n (some (.p k) :: xs) (some (.p k) :: ys)
structure Fg (o : List OW) (s : List (Option SV)) (o2 : List OW) (s2 : List (Option SV)) : Prop where
  own : o2 <+: o
  sl : SlF o2.length s s2
theorem SlF.sl {W : Wd} {n : Nat} : ∀ {xs ys : List (Option SV)} {σ : L2.St}, SlF n xs ys → SlL T W σ xs → SlL T ⟨W.G, W.H, W.as.take n⟩ σ ys
  | _, _, [], .nil, _ => rfl
  | _, _, [], .drop _, h => by cases h
  | _, _, [], .keepd _, h => by cases h
  | _, _, [], .keepp _ _, h => by cases h
  | _, _, _ :: _, .nil, ⟨s, r, e, _⟩ => by cases e
  | _, _, _ :: _, .drop f, ⟨s, r, e, h1, h2⟩ => by
    cases e
    exact ⟨none, _, rfl, (fun sv (e : (none : Option SV) = some sv) => nomatch e), SlF.sl f h2⟩
  | _, _, _ :: _, .keepd f, ⟨s, r, e, h1, h2⟩ => by
    cases e
    exact ⟨_, _, rfl, fun sv e => by
      obtain ⟨v, ev, hr⟩ := h1 sv e
      cases e
      exact ⟨v, ev, hr⟩, SlF.sl f h2⟩
  | _, _, _ :: _, .keepp hk f, ⟨s, r, e, h1, h2⟩ => by
    cases e
    refine ⟨_, _, rfl, fun sv e => ?_, SlF.sl f h2⟩
    obtain ⟨v, ev, hr⟩ := h1 sv e
    cases e
    obtain ⟨a, ea, e2⟩ := hr
    exact ⟨v, ev, a, by rw [List.getElem?_take_of_lt hk]; exact ea, e2⟩
theorem RpSL.takeN {W : Wd} {n : Nat} {xs : List SV} : ∀ {vs : List V}, (∀ x ∈ xs, ∀ k, x = .p k → k < n) → RpSL T W xs vs → RpSL T ⟨W.G, W.H, W.as.take n⟩ xs vs := by
  induction xs with
  | nil => intro vs _ h; exact h
  | cons x xs ih =>
    intro vs q ⟨v, r, e, h1, h2⟩
    refine ⟨v, r, e, ?_, ih (fun y hy => q y (by simp [hy])) h2⟩
    cases x with
    | d d => exact h1
    | p k =>
      obtain ⟨a, ea, e2⟩ := h1
      exact ⟨a, by rw [List.getElem?_take_of_lt (q _ (by simp) k rfl)]; exact ea, e2⟩
    | x a dx fs => exact h1
    | scr ns => exact h1
    | x0 a => exact h1
theorem RpS.takeOw {W : Wd} {n : Nat} {a : Addr} {o : OW} (h : Ow T b W a o) (np : (∀ xs, o = .lst xs → ∀ x ∈ xs, ∀ k, x = .p k → k < n) ∧ (∀ c fs, o = .ins c fs → ∀ x ∈ fs.map (·.2), ∀ k, x = .p k → k < n) ∧ (∀ kvs, o = .dct kvs → ∀ x ∈ kvs.map (·.2), ∀ k, x = .p k → k < n)) : Ow T b ⟨W.G, W.H, W.as.take n⟩ a o := by
  cases o with
  | ins c fs =>
    obtain ⟨g, h1, h2, dx, gs, e, en, r⟩ := h
    exact ⟨g, h1, h2, dx, gs, e, en, RpSL.takeN (np.2.1 c fs rfl) r⟩
  | dct kvs =>
    obtain ⟨g, h1, h2, gs, e, en, r⟩ := h
    exact ⟨g, h1, h2, gs, e, en, RpSL.takeN (np.2.2 kvs rfl) r⟩
  | ho f => exact h
  | lst xs =>
    obtain ⟨g, h1, h2, vs, e, r⟩ := h
    exact ⟨g, h1, h2, vs, e, RpSL.takeN (np.1 xs rfl) r⟩
  | hand => exact h
  | gone => exact h
/-- own lists hold no pointers to later ones -/
def OwP (n : Nat) (os : List OW) : Prop := ∀ o ∈ os, (∀ xs, o = .lst xs → ∀ x ∈ xs, ∀ k, x = .p k → k < n) ∧ (∀ c fs, o = .ins c fs → ∀ x ∈ fs.map (·.2), ∀ k, x = .p k → k < n) ∧ (∀ kvs, o = .dct kvs → ∀ x ∈ kvs.map (·.2), ∀ k, x = .p k → k < n)
theorem OwL.takeP {W : Wd} {n : Nat} : ∀ {as : List Addr} {os : List OW}, OwP n os → OwL T b W as os → OwL T b ⟨W.G, W.H, W.as.take n⟩ as os
  | [], _, _, h => h
  | x :: as, _, q, ⟨o, r, e, h1, h2⟩ => by
    subst e
    exact ⟨o, r, rfl, RpS.takeOw h1 (q o (by simp)), OwL.takeP (fun o' m => q o' (by simp [m])) h2⟩
theorem Fg.go {W : Wd} {o o2 : List OW} {s s2 : List (Option SV)} {σ : L2.St} (f : Fg o s o2 s2) (pp : OwP o2.length o2) (h : HA T b W o) (sl : SlL T W σ s) : HA T b ⟨W.G, W.H, W.as.take o2.length⟩ o2 ∧ SlL T ⟨W.G, W.H, W.as.take o2.length⟩ σ s2 := by
  refine ⟨⟨h.gh, h.bh, h.nn, h.nd.sublist (List.take_sublist _ _), ?_⟩, f.sl.sl sl⟩
  have e : o.take o2.length = o2 := by
    obtain ⟨t, rfl⟩ := f.own
    simp
  have := OwL.take o2.length h.ow
  rw [e] at this
  exact OwL.takeP pp this
theorem Fg.le {W0 W : Wd} {n : Nat} (l : Le W0 W) (h : W0.as.length ≤ n) : Le W0 ⟨W.G, W.H, W.as.take n⟩ := ⟨l.g, by
  obtain ⟨t, e⟩ := l.a
  rw [show W.as = W0.as ++ t from e.symm]
  rw [List.take_append]
  exact ⟨t.take (n - W0.as.length), by rw [List.take_of_length_le h]⟩⟩
/-- a for: what holds between two turns is told by states from which the turn starts -/
theorem ws_for {wi : TI} {g : TG} {js : List Nat} {tb : TS} {Φ : Po} (I : List D → Nat → List OW → List (Option SV) → Prop)
    (h : WI T b wi own ds fun items o => own.length ≤ o.length ∧ I items 0 o ds ∧ (∀ i x o' s', items[i]? = some x → I items i o' s' → OwP o'.length o' ∧ o.length ≤ o'.length ∧
        WG T b g js x o' s' fun o2 s2 => WS T b tb o2 s2 { nx := fun o3 s3 => ∃ o4 s4, Fg o3 s3 o4 s4 ∧ OwP o4.length o4 ∧ o.length ≤ o4.length ∧ I items (i + 1) o4 s4, ct := fun o3 s3 => ∃ o4 s4, Fg o3 s3 o4 s4 ∧ OwP o4.length o4 ∧ o.length ≤ o4.length ∧ I items (i + 1) o4 s4, bk := Φ.nx, rt := Φ.rt }) ∧
      (∀ o' s', I items items.length o' s' → Φ.nx o' s')) : WS T b (tFor wi g tb) own ds Φ := fun W σ ha sl D d => by
  refine h W σ ha sl _ fun J items o1 W1 ha1 l1 it ⟨hlen, i0, hs, hd⟩ => ?_
  have dm : ∀ (i : Nat) (W2 : Wd), Le W1 W2 → W1.as.length = o1.length := fun i W2 l => ha1.ow.len
  refine ⟨fun i m σ2 H2 => m = items.length - i ∧ i ≤ items.length ∧ ∃ W2 o2 s2, W2.H = H2 ∧ HA T b W2 o2 ∧ Le W1 W2 ∧ SlL T W2 σ2 s2 ∧ I items i o2 s2, ⟨items.length, by simp, Nat.zero_le _, W1, o1, ds, rfl, ha1, Le.refl _, sl.mono l1, i0⟩, ?_⟩
  rintro i m σ2 H2 ⟨rfl, hi, W2, o2, s2, rfl, ha2, l2, sl2, iv⟩
  by_cases hlt : i < items.length
  · obtain ⟨x, hx⟩ : ∃ x, items[i]? = some x := ⟨_, List.getElem?_eq_getElem hlt⟩
    obtain ⟨hgo, hy⟩ := (it i W2 o2 l2 ha2).1 x hx
    obtain ⟨pp, lo, hw⟩ := hs i x o2 s2 hx iv
    refine .inr ⟨hgo, fun σ' H' => ∃ W3 o4 s4, W3.H = H' ∧ HA T b W3 o4 ∧ Le W1 W3 ∧ SlL T W3 σ' s4 ∧ I items (i + 1) o4 s4, fun σ' H' ⟨W3, o4, s4, e, h4, l4, sl4, i4⟩ => ⟨items.length - (i + 1), by omega, rfl, hlt, W3, o4, s4, e, h4, l4, sl4, i4⟩, fun v H' yv => ?_⟩
    obtain ⟨W3, rfl, ha3, l3, rv⟩ := hy v H' yv
    refine hw W3 σ2 v ha3 (sl2.mono l3) rv _ fun σ4 o4 s4 W4 ha4 l4 sl4 _ _ hb => ?_
    have l14 : Le W1 W4 := (l2.trans l3).trans l4
    refine hb W4 σ4 ha4 sl4 _ ⟨fun σ5 o5 s5 W5 ha5 l5 sl5 ⟨o6, s6, f, pp6, lo6, i6⟩ => ?_, fun v s o W5 ha5 l5 r5 p => d.rt v s o W5 ha5 (l1.trans (l14.trans l5)) r5 p, fun σ5 o5 s5 W5 ha5 l5 sl5 p => d.nx σ5 o5 s5 W5 ha5 (l1.trans (l14.trans l5)) sl5 p, fun σ5 o5 s5 W5 ha5 l5 sl5 ⟨o6, s6, f, pp6, lo6, i6⟩ => ?_⟩
    · obtain ⟨h6, sl6⟩ := f.go pp6 ha5 sl5
      exact ⟨⟨W5.G, W5.H, W5.as.take o6.length⟩, o6, s6, rfl, h6, Fg.le (l14.trans l5) (by rw [ha1.ow.len]; exact lo6), sl6, i6⟩
    · obtain ⟨h6, sl6⟩ := f.go pp6 ha5 sl5
      exact ⟨⟨W5.G, W5.H, W5.as.take o6.length⟩, o6, s6, rfl, h6, Fg.le (l14.trans l5) (by rw [ha1.ow.len]; exact lo6), sl6, i6⟩
  · have e : i = items.length := by omega
    subst e
    exact .inl ⟨(it _ W2 o2 l2 ha2).2 rfl, d.nx σ2 o2 s2 W2 ha2 (l1.trans l2) sl2 (hd o2 s2 iv)⟩
/-- a while -/
theorem ws_while {c : TT} {tb : TS} {Φ : Po} (I : Nat → List OW → List (Option SV) → Prop) (m0 : Nat) (h0 : I m0 own ds)
    (h : ∀ m o s, I m o s → OwP o.length o ∧ own.length ≤ o.length ∧ WT T b c o s fun k o1 => (k = true → WS T b tb o1 s { nx := fun o3 s3 => ∃ m' o4 s4, m' < m ∧ Fg o3 s3 o4 s4 ∧ OwP o4.length o4 ∧ own.length ≤ o4.length ∧ I m' o4 s4, ct := fun o3 s3 => ∃ m' o4 s4, m' < m ∧ Fg o3 s3 o4 s4 ∧ OwP o4.length o4 ∧ own.length ≤ o4.length ∧ I m' o4 s4, bk := Φ.nx, rt := Φ.rt }) ∧ (k = false → Φ.nx o1 s)) : WS T b (tWhile c tb) own ds Φ := fun W σ ha sl D d => by
  refine ⟨fun m σ2 H2 => ∃ W2 o2 s2, W2.H = H2 ∧ HA T b W2 o2 ∧ Le W W2 ∧ SlL T W2 σ2 s2 ∧ I m o2 s2, ⟨m0, W, own, ds, rfl, ha, Le.refl _, sl, h0⟩, ?_⟩
  rintro m σ2 H2 ⟨W2, o2, s2, rfl, ha2, l2, sl2, iv⟩
  obtain ⟨pp, lo, hc⟩ := h m o2 s2 iv
  refine hc W2 σ2 ha2 sl2 _ fun k o3 W3 ha3 l3 ⟨ht, hf⟩ => ?_
  cases k with
  | true =>
    refine ⟨fun σ' H' => ∃ m', m' < m ∧ ∃ W3 o4 s4, W3.H = H' ∧ HA T b W3 o4 ∧ Le W W3 ∧ SlL T W3 σ' s4 ∧ I m' o4 s4, fun σ' H' x => x, ?_⟩
    refine ht rfl W3 σ2 ha3 (sl2.mono l3) _ ⟨fun σ5 o5 s5 W5 ha5 l5 sl5 ⟨m', o6, s6, lt, f, pp6, lo6, i6⟩ => ?_, fun v s o W5 ha5 l5 r5 p => d.rt v s o W5 ha5 (l2.trans (l3.trans l5)) r5 p, fun σ5 o5 s5 W5 ha5 l5 sl5 p => d.nx σ5 o5 s5 W5 ha5 (l2.trans (l3.trans l5)) sl5 p, fun σ5 o5 s5 W5 ha5 l5 sl5 ⟨m', o6, s6, lt, f, pp6, lo6, i6⟩ => ?_⟩
    · obtain ⟨h6, sl6⟩ := f.go pp6 ha5 sl5
      exact ⟨m', lt, ⟨W5.G, W5.H, W5.as.take o6.length⟩, o6, s6, rfl, h6, Fg.le (l2.trans (l3.trans l5)) (by rw [ha.ow.len]; exact lo6), sl6, i6⟩
    · obtain ⟨h6, sl6⟩ := f.go pp6 ha5 sl5
      exact ⟨m', lt, ⟨W5.G, W5.H, W5.as.take o6.length⟩, o6, s6, rfl, h6, Fg.le (l2.trans (l3.trans l5)) (by rw [ha.ow.len]; exact lo6), sl6, i6⟩
  | false => exact d.nx σ2 o3 s2 W3 ha3 (l2.trans l3) (sl2.mono l3) (hf rfl)
end
end Lo
end
section
set_option Elab.async false
set_option linter.all false
set_option autoImplicit false
set_option maxRecDepth 100000
set_option maxHeartbeats 1000000
namespace Lo
open PySem PySem.Spec PyProof.Rows L2 Evl

/-! ### comprehensions -/
def wipeD (ds : List (Option SV)) : List Nat → List (Option SV)
  | [] => ds
  | v :: vs => (wipeD ds vs).set v none
theorem SlL.setNone {T : Tb} {W : Wd} : ∀ {xs : List (Option V)} {ds : List (Option SV)} (i : Nat), SlL T W xs ds → SlL T W (xs.set i none) (ds.set i none)
  | [], ds, i, h => by
    have h' : ds = [] := h
    subst h'
    exact rfl
  | x :: xs, _, 0, ⟨s0, r, rfl, h1, h2⟩ => ⟨none, r, rfl, (fun sv (e : (none : Option SV) = some sv) => nomatch e), h2⟩
  | x :: xs, _, i + 1, ⟨s0, r, rfl, h1, h2⟩ => ⟨s0, r.set i none, rfl, h1, SlL.setNone i h2⟩
theorem SlL.wipe {T : Tb} {W : Wd} {σ : L2.St} {ds : List (Option SV)} (h : SlL T W σ ds) : ∀ vs : List Nat, SlL T W (wipe σ vs) (wipeD ds vs)
  | [] => h
  | v :: vs => SlL.setNone v (SlL.wipe h vs)
theorem wipe_get (σ : L2.St) : ∀ (vs : List Nat) (i : Nat), (wipe σ vs)[i]? = if i ∈ vs then (σ[i]?).map (fun _ => none) else σ[i]?
  | [], i => by simp [wipe]
  | v :: vs, i => by
    unfold wipe
    by_cases h : v = i
    · subst h
      rw [List.getElem?_set_self']
      rw [wipe_get σ vs v]
      by_cases m : v ∈ vs
      · simp [m]
        cases σ[v]? <;> rfl
      · simp [m]
        cases σ[v]? <;> rfl
    · rw [List.getElem?_set_ne h, wipe_get σ vs i]
      have : (i ∈ v :: vs) ↔ (i ∈ vs) := by simp [Ne.symm h]
      simp only [this]
theorem wipe_same {σ σ' : L2.St} {js vs : List Nat} (hj : ∀ j ∈ js, j ∈ vs) (hl : σ'.length = (wipe σ vs).length) (h : ∀ i, i ∉ js → σ'[i]? = (wipe σ vs)[i]?) : wipe σ' vs = wipe σ vs := by
  refine List.ext_getElem? fun i => ?_
  rw [wipe_get σ' vs i, wipe_get σ vs i]
  by_cases m : i ∈ vs
  · rw [if_pos m, if_pos m]
    have e : σ'.length = σ.length := by rw [hl, wipe_length]
    by_cases q : i < σ.length
    · rw [List.getElem?_eq_getElem q, List.getElem?_eq_getElem (by omega)]
      rfl
    · rw [List.getElem?_eq_none (by omega), List.getElem?_eq_none (by omega)]
  · rw [if_neg m, if_neg m]
    have := h i (fun z => m (hj i z))
    rw [this, wipe_get σ vs i, if_neg m]
section
variable {T : Tb} {b : Bd} {own : List OW} {ds : List (Option SV)} {P : PSv}
theorem HA.closeLst {W : Wd} {o : List OW} {acc : List D} {p : Addr} (h : HA T b W (o ++ [.lst (acc.map SV.d)])) (hp : W.as[o.length]? = some p) (pp : OwP o.length o) :
    ∃ W', W'.H = W.H ∧ HA T b W' o ∧ (∀ W0, Le W0 W → W0.as.length ≤ o.length → Le W0 W') ∧ Rep T W'.G (.lst acc) (.ref p) := by
  have ho : (o ++ [OW.lst (acc.map SV.d)])[o.length]? = some (.lst (acc.map SV.d)) := by simp
  obtain ⟨vs, e, h1, l1, r⟩ := h.freeze ho hp
  have es : (o ++ [OW.lst (acc.map SV.d)]).set o.length .gone = o ++ [.gone] := by simp
  rw [es] at h1
  refine ⟨⟨upd W.G p (.lst vs), W.H, W.as.take o.length⟩, rfl, ⟨h1.gh, h1.bh, h1.nn, h1.nd.sublist (List.take_sublist _ _), ?_⟩, fun W0 l hl => ?_, r⟩
  · have := OwL.take o.length h1.ow
    simp only [List.take_left'] at this
    exact OwL.takeP pp this
  · exact ⟨l.g.trans l1.g, by
      obtain ⟨t, e⟩ := l.a
      show W0.as <+: W.as.take o.length
      rw [show W.as = W0.as ++ t from e.symm, List.take_append]
      exact ⟨t.take (o.length - W0.as.length), by rw [List.take_of_length_le hl]⟩⟩
/-- [e for x in xs if t]: what is made so far is told by I -/
theorem we_lc {wi : TI} {g : TG} {js : List Nat} {tt : TT} {te : TE} {vs : List Nat} (hj : ∀ j ∈ js, j ∈ vs) (I : List D → Nat → List D → Prop)
    (h : WI T b wi own ds fun items o => own.length ≤ o.length ∧ OwP o.length o ∧ I items 0 [] ∧ items.length ≤ 100000 ∧ (∀ i x acc, items[i]? = some x → I items i acc → acc.length ≤ i →
        WG T b g js x (o ++ [.lst (acc.map SV.d)]) (wipeD ds vs) fun o2 s2 => WT T b tt o2 s2 fun k o3 => (k = true → WE T b te o3 s2 fun s o4 => ∃ d, s = .d d ∧ o4 = o ++ [.lst (acc.map SV.d)] ∧ I items (i + 1) (acc ++ [d])) ∧ (k = false → o3 = o ++ [.lst (acc.map SV.d)] ∧ I items (i + 1) acc)) ∧
      (∀ acc, I items items.length acc → acc.length ≤ items.length → P (.d (.lst acc)) o)) : WE T b (tLc wi g tt te vs) own ds P := fun W σ ha sl Q q => by
  refine h W σ ha sl _ fun J items o1 W1 ha1 l1 it ⟨hlen, pp, i0, hsz, hs, hd⟩ Dd hD => ?_
  have dl := ha1.ow.len
  obtain ⟨hA0, lA0⟩ := ha1.allocOwn (ss := ([] : List D).map SV.d) (vs := []) hD rfl
  have at0 : (W1.as ++ [Dd])[o1.length]? = some Dd := by rw [← dl]; simp
  refine ⟨fun i m H2 => m = items.length - i ∧ i ≤ items.length ∧ ∃ W2 acc, W2.H = H2 ∧ HA T b W2 (o1 ++ [.lst (acc.map SV.d)]) ∧ Le W1 W2 ∧ W2.as[o1.length]? = some Dd ∧ I items i acc ∧ acc.length ≤ i, ⟨items.length, by simp, Nat.zero_le _, _, [], rfl, hA0, lA0, at0, i0, Nat.le_refl _⟩, ?_⟩
  rintro i m H2 ⟨rfl, hi, W2, acc, rfl, ha2, l2, atD, iv, hal⟩
  by_cases hlt : i < items.length
  · obtain ⟨x, hx⟩ : ∃ x, items[i]? = some x := ⟨_, List.getElem?_eq_getElem hlt⟩
    obtain ⟨hgo, hy⟩ := (it i W2 _ l2 ha2).1 x hx
    have hw := hs i x acc hx iv hal
    refine .inr ⟨hgo, fun H' => ∃ W3 acc', W3.H = H' ∧ HA T b W3 (o1 ++ [.lst (acc'.map SV.d)]) ∧ Le W1 W3 ∧ W3.as[o1.length]? = some Dd ∧ I items (i + 1) acc' ∧ acc'.length ≤ i + 1, fun H' ⟨W3, acc', e, h4, l4, a4, i4, n4⟩ => ⟨items.length - (i + 1), by omega, rfl, hlt, W3, acc', e, h4, l4, a4, i4, n4⟩, fun v H' yv => ?_⟩
    obtain ⟨W3, rfl, ha3, l3, rv⟩ := hy v H' yv
    have sl2 : SlL T W3 (wipe σ vs) (wipeD ds vs) := (SlL.wipe (sl.mono l1) vs).mono (l2.trans l3)
    refine hw W3 _ v ha3 sl2 rv _ fun σ4 o4 s4 W4 ha4 l4 sl4 hl4 hk4 hb => ⟨wipe_same hj hl4 hk4, ?_⟩
    have l14 : Le W1 W4 := (l2.trans l3).trans l4
    have at4 : W4.as[o1.length]? = some Dd := prefix_get (l3.trans l4).a atD
    refine hb W4 σ4 ha4 sl4 _ fun k o5 W5 ha5 l5 ⟨hyes, hno⟩ => ?_
    cases k with
    | true =>
      refine hyes rfl W5 σ4 ha5 (sl4.mono l5) _ fun y s o6 W6 ha6 l6 r6 ⟨d, es, eo, i6⟩ => ?_
      subst es
      subst eo
      have at6 : W6.as[o1.length]? = some Dd := prefix_get (l5.trans l6).a at4
      have ho : (o1 ++ [OW.lst (acc.map SV.d)])[o1.length]? = some (.lst (acc.map SV.d)) := by simp
      obtain ⟨a', ea', g', b', n', vs', eh, rr⟩ := ha6.ow.get ho
      have z : a' = Dd := Option.some.inj (ea'.symm.trans at6)
      subst z
      have app : RpSL T W6 ((acc ++ [d]).map SV.d) (vs' ++ [y]) := by
        have key : ∀ {xs : List SV} {ws : List V}, RpSL T W6 xs ws → RpSL T W6 (xs ++ [.d d]) (ws ++ [y]) := by
          intro xs
          induction xs with
          | nil =>
            intro ws h
            have h' : ws = [] := h
            subst h'
            exact ⟨y, [], rfl, r6, rfl⟩
          | cons x xs ih =>
            intro ws ⟨v, r, e, h1, h2⟩
            subst e
            exact ⟨v, r ++ [y], rfl, h1, ih h2⟩
        rw [List.map_append]
        exact key rr
      obtain ⟨ha7, l7⟩ := ha6.setOwn ho at6 app
      have es : (o1 ++ [OW.lst (acc.map SV.d)]).set o1.length (.lst ((acc ++ [d]).map SV.d)) = o1 ++ [.lst ((acc ++ [d]).map SV.d)] := by simp
      rw [es] at ha7
      have nl : vs'.length = acc.length := by rw [RpSL.len rr, List.length_map]
      refine ⟨vs', eh, sz_lt (by omega), _, acc ++ [d], rfl, ha7, (l14.trans (l5.trans l6)).trans l7, at6, i6, by simp; omega⟩
    | false =>
      obtain ⟨eo, i6⟩ := hno rfl
      subst eo
      exact ⟨W5, acc, rfl, ha5, l14.trans l5, prefix_get l5.a at4, i6, by omega⟩
  · have e : i = items.length := by omega
    subst e
    refine .inl ⟨(it _ W2 _ l2 ha2).2 rfl, ?_⟩
    obtain ⟨W', eH, ha', lle, r⟩ := ha2.closeLst atD pp
    rw [← eH]
    exact q _ (.d (.lst acc)) o1 W' ha' (l1.trans (lle W1 l2 (by rw [dl]; exact Nat.le_refl _))) r (hd acc iv hal)
theorem wt_yes {P : Bool → List OW → Prop} (p : P true own) : WT T b tYes own ds P := fun W σ ha sl Q q => q true own W ha (Le.refl W) p
/-- the elements are a function of the items -/
theorem we_lcf {wi : TI} {g : TG} {js : List Nat} {te : TE} {vs : List Nat} (hj : ∀ j ∈ js, j ∈ vs) (f : D → D)
    (h : WI T b wi own ds fun items o => own.length ≤ o.length ∧ OwP o.length o ∧ items.length ≤ 100000 ∧ (∀ x acc, x ∈ items →
        WG T b g js x (o ++ [.lst acc]) (wipeD ds vs) fun o2 s2 => WE T b te o2 s2 fun s o4 => s = .d (f x) ∧ o4 = o ++ [.lst acc]) ∧ P (.d (.lst (items.map f))) o) : WE T b (tLc wi g tYes te vs) own ds P := by
  refine we_lc hj (fun items i acc => acc = (items.take i).map f) ?_
  intro W σ ha sl R q
  refine h W σ ha sl R fun J items o' W' ha' l' it ⟨h1, h2, h3, h4, h5⟩ => q J items o' W' ha' l' it ⟨h1, h2, by simp, h3, fun i x acc hx ea hl => ?_, fun acc ea hl => by rw [ea]; simpa using h5⟩
  intro W2 σ2 v ha2 sl2 r2 Q2 q2
  refine h4 x (acc.map SV.d) (List.mem_of_getElem? hx) W2 σ2 v ha2 sl2 r2 Q2 fun σ' own' ds' W'' a1 a2 a3 a4 a5 hb => q2 σ' own' ds' W'' a1 a2 a3 a4 a5 (wt_yes ⟨fun _ => hb.imp fun s o ⟨e1, e2⟩ => ⟨f x, e1, e2, ?_⟩, fun z => by cases z⟩)
  rw [ea, List.take_add_one, hx, List.map_append]
  rfl
end
end Lo
end
section
set_option Elab.async false
set_option linter.all false
set_option autoImplicit false
set_option maxRecDepth 100000
set_option maxHeartbeats 1000000
namespace Lo
open PySem PySem.Spec PyProof.Rows L2 Evl

section
variable {T : Tb} {b : Bd} {own : List OW} {ds : List (Option SV)} {P : PSv}
/-! ### calls of built-ins -/
/-- a value that needs no heap -/
theorem wc_val {r : List V → Hp → VK → Prop} {xs : List SV} {z : D} {vz : V} (hz : ∀ G, Rep T G z vz) (h : ∀ W vs, HA T b W own → RpSL T W xs vs → ∀ Q : VK, Q vz W.H → r vs W.H Q) (p : P (.d z) own) : WC T b r own xs P := fun W vs ha rx Q q =>
  h W vs ha rx Q (q vz (.d z) own W ha (Le.refl W) (hz _) p)
def D.lenN : D → Option Nat
  | .str s => if s.length ≤ 100000 then some s.length else none
  | .lst xs => some xs.length
  | .tup xs => some xs.length
  | _ => none
def rLen (K : PySem.W.Frag) : List V → Hp → VK → Prop := fun xs H Q => ∃ x n, xs = [x] ∧ LenV K x H n ∧ Q (.int n) H
theorem call_lenA {X : Cx} : CallR X (.builtin "len") (rLen X.K) := call_len
theorem wc_len {x : D} {n : Nat} (e : x.lenN = some n) (p : P (.d (.int n)) own) : WC T b (rLen T.K) own [.d x] P :=
  wc_val (z := .int n) (vz := .int n) (fun _ => rfl) (fun W vs ha ⟨v, r, ev, rx, er⟩ Q q => by
    subst ev
    have er' : r = [] := er
    subst er'
    refine ⟨v, n, rfl, ?_, q⟩
    cases x with
    | str s =>
      cases RpS.str rx
      have e' : (if s.length ≤ 100000 then some s.length else none) = some n := e
      by_cases h : s.length ≤ 100000
      · rw [if_pos h] at e'
        exact ⟨sz_of h, (Option.some.inj e').symm⟩
      · rw [if_neg h] at e'
        cases e'
    | lst xs =>
      obtain ⟨a, vs, rfl, hs, rr⟩ := rx
      exact .inl ⟨vs, sq_of (ha.gh _ _ hs), by rw [rr.len]; exact (Option.some.inj e).symm⟩
    | tup xs =>
      obtain ⟨a, vs, rfl, hs, rr⟩ := rx
      exact .inr ⟨vs, ex_t ha.gh hs, by rw [rr.len]; exact (Option.some.inj e).symm⟩
    | non => cases e
    | bl k => cases e
    | int i => cases e
    | obj c fs => cases e
    | dct ks vs => cases e) p
theorem wc_lenO {k : Nat} {ss : List SV} (ho : own[k]? = some (.lst ss)) (p : P (.d (.int ss.length)) own) : WC T b (rLen T.K) own [.p k] P :=
  wc_val (z := .int ss.length) (vz := .int ss.length) (fun _ => rfl) (fun W vs ha ⟨v, r, ev, ⟨a, ea, e⟩, er⟩ Q q => by
    subst ev
    have er' : r = [] := er
    subst er'
    subst e
    obtain ⟨a', ea', _, _, _, ws, eh, rr⟩ := ha.ow.get ho
    have z : a' = a := Option.some.inj (ea'.symm.trans ea)
    subst z
    exact ⟨.ref a', ss.length, rfl, .inl ⟨ws, sq_of eh, by rw [rr.len]⟩, q⟩) p
def rInt1 : List V → Hp → VK → Prop := fun xs H Q => (∃ i, xs = [.int i] ∧ Q (.int i) H) ∨ ∃ k, xs = [.bl k] ∧ Q (.int (if k then 1 else 0)) H
theorem call_intA {X : Cx} : CallR X (.type "int") rInt1 := call_int1
theorem wc_int {i : Int} (p : P (.d (.int i)) own) : WC T b rInt1 own [.d (.int i)] P :=
  wc_val (z := .int i) (vz := .int i) (fun _ => rfl) (fun W vs ha ⟨v, r, ev, rx, er⟩ Q q => by
    subst ev
    have er' : r = [] := er
    subst er'
    cases RpS.int rx
    exact .inl ⟨i, rfl, q⟩) p
/-- list(x) -/
def rListA (K : PySem.W.Frag) : List V → Hp → VK → Prop := fun xs H Q => ∃ p ys, xs = [.ref p] ∧ (SqL K H p ys ∨ SqT K H p ys) ∧ ∀ l, H l = none → Q (.ref l) (upd H l (.lst ys))
theorem call_listA {X : Cx} : CallR X (.type "list") (rListA X.K) := call_list_of
theorem wc_list {x : D} {xs : List D} (hx : x = .lst xs ∨ x = .tup xs) (p : P (.d (.lst xs)) own) : WC T b (rListA T.K) own [.d x] P := fun W vs ha ⟨v, r, ev, rx, er⟩ Q q => by
  subst ev
  have er' : r = [] := er
  subst er'
  rcases hx with rfl | rfl
  · obtain ⟨a, ws, rfl, hs, rr⟩ := rx
    refine ⟨a, ws, rfl, .inl (sq_of (ha.gh _ _ hs)), fun l hl => ?_⟩
    obtain ⟨ha2, l2⟩ := ha.alloc (o := .lst ws) hl
    exact q _ (.d (.lst xs)) own _ ha2 l2 ⟨l, ws, rfl, upd_same, RepL.mono l2.g rr⟩ p
  · obtain ⟨a, ws, rfl, hs, rr⟩ := rx
    refine ⟨a, ws, rfl, .inr (ex_t ha.gh hs), fun l hl => ?_⟩
    obtain ⟨ha2, l2⟩ := ha.alloc (o := .lst ws) hl
    exact q _ (.d (.lst xs)) own _ ha2 l2 ⟨l, ws, rfl, upd_same, RepL.mono l2.g rr⟩ p
/-- .. an own one -/
theorem wc_listO {x : D} {xs : List D} (hx : x = .lst xs ∨ x = .tup xs) (p : P (.p own.length) (own ++ [.lst (xs.map SV.d)])) : WC T b (rListA T.K) own [.d x] P := fun W vs ha ⟨v, r, ev, rx, er⟩ Q q => by
  subst ev
  have er' : r = [] := er
  subst er'
  have fin : ∀ (ws : List V) l, RepL T W.G xs ws → W.H l = none → Q (.ref l) (upd W.H l (.lst ws)) := fun ws l rr hl => by
    obtain ⟨ha2, l2⟩ := ha.allocOwn (ss := xs.map SV.d) (vs := ws) hl (RepL.sv rr)
    refine q _ (.p own.length) _ _ ha2 l2 ⟨l, ?_, rfl⟩ p
    rw [← ha.ow.len]
    simp
  rcases hx with rfl | rfl
  · obtain ⟨a, ws, rfl, hs, rr⟩ := rx
    exact ⟨a, ws, rfl, .inl (sq_of (ha.gh _ _ hs)), fun l hl => fin ws l rr hl⟩
  · obtain ⟨a, ws, rfl, hs, rr⟩ := rx
    exact ⟨a, ws, rfl, .inr (ex_t ha.gh hs), fun l hl => fin ws l rr hl⟩
/-- list, tuple of an own list: its items are handed on -/
theorem wc_listP {k : Nat} {ss : List SV} {xs : List D} (ho : own[k]? = some (.lst ss)) (hx : AllD ss xs) (p : P (.d (.lst xs)) own) : WC T b (rListA T.K) own [.p k] P := fun W vs ha ⟨v, r, ev, ⟨a, ea, e⟩, er⟩ Q q => by
  subst ev
  have er' : r = [] := er
  subst er'
  subst e
  obtain ⟨a', ea', _, _, _, ws, eh, rr⟩ := ha.ow.get ho
  have z : a' = a := Option.some.inj (ea'.symm.trans ea)
  subst z
  rw [hx.eq] at rr
  refine ⟨a', ws, rfl, .inl (sq_of eh), fun l hl => ?_⟩
  obtain ⟨ha2, l2⟩ := ha.alloc (o := .lst ws) hl
  exact q _ (.d (.lst xs)) own _ ha2 l2 ⟨l, ws, rfl, upd_same, RepL.mono l2.g (RpSL.ds rr)⟩ p
def rTupA (K : PySem.W.Frag) : List V → Hp → VK → Prop := fun xs H Q => ∃ p ys, xs = [.ref p] ∧ ((SqL K H p ys ∧ ∀ l, H l = none → Q (.ref l) (upd H l (.tup ys))) ∨ (SqT K H p ys ∧ Q (.ref p) H))
theorem call_tupA {X : Cx} : CallR X (.type "tuple") (rTupA X.K) := call_tuple_of
theorem wc_tup {x : D} {xs : List D} (hx : x = .lst xs ∨ x = .tup xs) (p : P (.d (.tup xs)) own) : WC T b (rTupA T.K) own [.d x] P := fun W vs ha ⟨v, r, ev, rx, er⟩ Q q => by
  subst ev
  have er' : r = [] := er
  subst er'
  rcases hx with rfl | rfl
  · obtain ⟨a, ws, rfl, hs, rr⟩ := rx
    refine ⟨a, ws, rfl, .inl ⟨sq_of (ha.gh _ _ hs), fun l hl => ?_⟩⟩
    obtain ⟨ha2, l2⟩ := ha.alloc (o := .tup ws) hl
    exact q _ (.d (.tup xs)) own _ ha2 l2 ⟨l, ws, rfl, st_of upd_same, RepL.mono l2.g rr⟩ p
  · obtain ⟨a, ws, rfl, hs, rr⟩ := rx
    exact ⟨a, ws, rfl, .inr ⟨ex_t ha.gh hs, q _ (.d (.tup xs)) own W ha (Le.refl W) ⟨a, ws, rfl, hs, rr⟩ p⟩⟩
theorem wc_tupP {k : Nat} {ss : List SV} {xs : List D} (ho : own[k]? = some (.lst ss)) (hx : AllD ss xs) (p : P (.d (.tup xs)) own) : WC T b (rTupA T.K) own [.p k] P := fun W vs ha ⟨v, r, ev, ⟨a, ea, e⟩, er⟩ Q q => by
  subst ev
  have er' : r = [] := er
  subst er'
  subst e
  obtain ⟨a', ea', _, _, _, ws, eh, rr⟩ := ha.ow.get ho
  have z : a' = a := Option.some.inj (ea'.symm.trans ea)
  subst z
  rw [hx.eq] at rr
  refine ⟨a', ws, rfl, .inl ⟨sq_of eh, fun l hl => ?_⟩⟩
  obtain ⟨ha2, l2⟩ := ha.alloc (o := .tup ws) hl
  exact q _ (.d (.tup xs)) own _ ha2 l2 ⟨l, ws, rfl, st_of upd_same, RepL.mono l2.g (RpSL.ds rr)⟩ p
/-- ints, texts, truths in a row -/
theorem RepL.ints {G : Hp} : ∀ {ns : List Int} {vs : List V}, RepL T G (ns.map D.int) vs → vs = ns.map V.int
  | [], _, h => h
  | n :: ns, _, ⟨v, r, e, h1, h2⟩ => by
    have e1 : v = .int n := h1
    rw [e, e1, RepL.ints h2]
    rfl
theorem RepL.ofInts {G : Hp} : ∀ (ns : List Int), RepL T G (ns.map D.int) (ns.map V.int)
  | [] => rfl
  | n :: ns => ⟨_, _, rfl, rfl, RepL.ofInts ns⟩
theorem RepL.bools {G : Hp} : ∀ {ns : List Bool} {vs : List V}, RepL T G (ns.map D.bl) vs → vs = ns.map V.bl
  | [], _, h => h
  | n :: ns, _, ⟨v, r, e, h1, h2⟩ => by
    have e1 : v = .bl n := h1
    rw [e, e1, RepL.bools h2]
    rfl
theorem RepL.strs {G : Hp} : ∀ {ns : List PySem.Str} {vs : List V}, RepL T G (ns.map D.str) vs → vs = ns.map V.str
  | [], _, h => h
  | n :: ns, _, ⟨v, r, e, h1, h2⟩ => by
    have e1 : v = .str n := h1
    rw [e, e1, RepL.strs h2]
    rfl
theorem wc_sorted {ns : List Int} (p : ∀ ns' : List Int, ns'.Perm ns → ns'.Pairwise (· ≤ ·) → P (.d (.lst (ns'.map D.int))) own) : WC T b (rSortedI T.K) own [.d (.lst (ns.map D.int))] P := fun W vs ha ⟨v, r, ev, rx, er⟩ Q q => by
  subst ev
  have er' : r = [] := er
  subst er'
  obtain ⟨a, ws, rfl, hs, rr⟩ := rx
  have ew := RepL.ints rr
  subst ew
  refine ⟨a, ns, rfl, sq_of (ha.gh _ _ hs), fun ns' l pe pw hl => ?_⟩
  obtain ⟨ha2, l2⟩ := ha.alloc (o := .lst (ns'.map V.int)) hl
  exact q _ (.d (.lst (ns'.map D.int))) own _ ha2 l2 ⟨l, _, rfl, upd_same, RepL.ofInts ns'⟩ (p ns' pe pw)
theorem wc_all {bs : List Bool} (p : P (.d (.bl (bs.all id))) own) : WC T b (rAll T.K) own [.d (.lst (bs.map D.bl))] P :=
  wc_val (z := .bl (bs.all id)) (vz := .bl (bs.all id)) (fun _ => rfl) (fun W vs ha ⟨v, r, ev, rx, er⟩ Q q => by
    subst ev
    have er' : r = [] := er
    subst er'
    obtain ⟨a, ws, rfl, hs, rr⟩ := rx
    have ew := RepL.bools rr
    subst ew
    exact ⟨a, bs, rfl, sq_of (ha.gh _ _ hs), q⟩) p
theorem wc_any {bs : List Bool} (p : P (.d (.bl (bs.any id))) own) : WC T b (rAny T.K) own [.d (.lst (bs.map D.bl))] P :=
  wc_val (z := .bl (bs.any id)) (vz := .bl (bs.any id)) (fun _ => rfl) (fun W vs ha ⟨v, r, ev, rx, er⟩ Q q => by
    subst ev
    have er' : r = [] := er
    subst er'
    obtain ⟨a, ws, rfl, hs, rr⟩ := rx
    have ew := RepL.bools rr
    subst ew
    exact ⟨a, bs, rfl, sq_of (ha.gh _ _ hs), q⟩) p
/-- list(range(..)) -/
theorem we_listRg {ta : TE} (h : WE T b ta own ds fun s o => ∃ n : Int, s = .d (.int n) ∧ 0 ≤ n ∧ n ≤ 1000000 ∧ P (.d (.lst (rngD 0 n.toNat))) o) : WE T b (tLstRg (tRg1 ta)) own ds P := fun W σ ha sl Q q => by
  refine h W σ ha sl _ fun v s o1 W1 ha1 l1 r1 ⟨n, e, h0, h1, p⟩ => ?_
  subst e
  cases RpS.int r1
  refine ⟨n, rfl, RgOk.of_le (by omega) (by omega) (by omega) h0, fun l hl => ?_⟩
  obtain ⟨ha2, l2⟩ := ha1.alloc (o := .lst (rgV 0 n)) hl
  refine q _ (.d (.lst (rngD 0 n.toNat))) o1 _ ha2 (l1.trans l2) ⟨l, _, rfl, upd_same, ?_⟩ p
  have e1 : rngD 0 n.toNat = ((List.range n.toNat).map fun i : Nat => (0 + (i : Int))).map D.int := by
    unfold rngD
    rw [List.map_map]
    rfl
  have e2 : rgV 0 n = ((List.range n.toNat).map fun i : Nat => (0 + (i : Int))).map V.int := by
    unfold rgV
    rw [List.map_map, show (n - 0).toNat = n.toNat by simp]
    rfl
  rw [e1, e2]
  exact RepL.ofInts _

/-! ### methods -/
def rJoin (K : PySem.W.Frag) : V → List V → Hp → VK → Prop := fun x xs H Q => ∃ a p, ∃ ys : List PySem.Str, x = .str a ∧ xs = [.ref p] ∧ (SqL K H p (ys.map V.str) ∨ SqT K H p (ys.map V.str)) ∧
      (ys.map (·.length)).sum + ys.length * a.length ≤ 16777216 ∧ Q (.str (Txt.join a ys)) H
theorem pe_joinA {X : Cx} {o e : Expr} {to te : TE} {apos pos : Pos} (ho : PE X o to) (he : PE X e te) (hs : starEach [e] X.env = [(false, eval e X.env)] := by rfl) (hbase : attributeBase o "join" X.env (eval o X.env) = eval o X.env := by rfl) (hline : (apos.endLine == pos.line) = true := by rfl) :
    PE X (.Call (.Attribute o "join" apos) [e] [] pos) (tM1 (rJoin X.K) to te) := pe_join ho he hs hbase hline
theorem we_join {to te : TE} (h : WE T b to own ds fun s o => ∃ a, s = .d (.str a) ∧ WE T b te o ds fun s2 o2 => ∃ ys : List PySem.Str, (s2 = .d (.lst (ys.map D.str)) ∨ s2 = .d (.tup (ys.map D.str))) ∧ (ys.map (·.length)).sum + ys.length * a.length ≤ 16777216 ∧ P (.d (.str (Txt.join a ys))) o2) : WE T b (tM1 (rJoin T.K) to te) own ds P := fun W σ ha sl Q q => by
  refine h W σ ha sl _ fun v s o1 W1 ha1 l1 r1 ⟨a, e, h2⟩ => ?_
  subst e
  cases RpS.str r1
  refine ⟨⟨a, rfl⟩, h2 W1 σ ha1 (sl.mono l1) _ fun v2 s2 o2 W2 ha2 l2 r2 ⟨ys, e, z, p⟩ => ?_⟩
  have fin := q (.str (Txt.join a ys)) (.d (.str (Txt.join a ys))) o2 W2 ha2 (l1.trans l2) rfl p
  rcases e with rfl | rfl
  · obtain ⟨c, ws, rfl, hs, rr⟩ := r2
    have ew := RepL.strs rr
    subst ew
    exact ⟨a, c, ys, rfl, rfl, .inl (sq_of (ha2.gh _ _ hs)), z, fin⟩
  · obtain ⟨c, ws, rfl, hs, rr⟩ := r2
    have ew := RepL.strs rr
    subst ew
    exact ⟨a, c, ys, rfl, rfl, .inr (ex_t ha2.gh hs), z, fin⟩
/-- a method of an own list -/
def WM (T : Tb) (b : Bd) (r : V → List V → Hp → VK → Prop) (own : List OW) (k : Nat) (ss : List SV) (P : PSv) : Prop :=
  ∀ (W : Wd) a vs, HA T b W own → W.as[k]? = some a → RpSL T W ss vs → ∀ Q : VK, (∀ v s own' W', HA T b W' own' → Le W W' → RpS T W' s v → P s own' → Q v W'.H) → r (.ref a) vs W.H Q
theorem we_bm {r : V → List V → Hp → VK → Prop} {to : TE} {ta : TA} (h : WE T b to own ds fun s o => ∃ k ss, s = .p k ∧ o[k]? = some (.lst ss) ∧ WA T b ta o ds fun xs o2 => WM T b r o2 k xs P) : WE T b (tBM T.K "list" r to ta) own ds P := fun W σ ha sl Q q => by
  refine h W σ ha sl _ fun v s o1 W1 ha1 l1 r1 ⟨k, ss, e, ho, h2⟩ => ?_
  subst e
  obtain ⟨a, ea, rfl⟩ := r1
  obtain ⟨a', ea', _, _, _, ws, eh, rr⟩ := ha1.ow.get ho
  have z : a' = a := Option.some.inj (ea'.symm.trans ea)
  subst z
  refine ⟨.inl ⟨rfl, ws, sq_of eh⟩, h2 W1 σ ha1 (sl.mono l1) _ fun vs xs o2 W2 ha2 l2 r2 wm => ?_⟩
  exact wm W2 a' vs ha2 (prefix_get l2.a ea) r2 Q fun v s o3 W3 ha3 l3 r3 p => q v s o3 W3 ha3 ((l1.trans l2).trans l3) r3 p
theorem we_bm0 {r : V → List V → Hp → VK → Prop} {to : TE} (h : WE T b to own ds fun s o => ∃ k ss, s = .p k ∧ o[k]? = some (.lst ss) ∧ WM T b r o k [] P) : WE T b (tBM0 T.K "list" r to) own ds P := fun W σ ha sl Q q => by
  refine h W σ ha sl _ fun v s o1 W1 ha1 l1 r1 ⟨k, ss, e, ho, wm⟩ => ?_
  subst e
  obtain ⟨a, ea, rfl⟩ := r1
  obtain ⟨a', ea', _, _, _, ws, eh, rr⟩ := ha1.ow.get ho
  have z : a' = a := Option.some.inj (ea'.symm.trans ea)
  subst z
  exact ⟨.inl ⟨rfl, ws, sq_of eh⟩, wm W1 a' [] ha1 ea rfl Q fun v s o3 W3 ha3 l3 r3 p => q v s o3 W3 ha3 (l1.trans l3) r3 p⟩
theorem RpSL.snoc {W : Wd} {s : SV} {v : V} (h : RpS T W s v) : ∀ {ss : List SV} {vs : List V}, RpSL T W ss vs → RpSL T W (ss ++ [s]) (vs ++ [v])
  | [], vs, r => by
    have r' : vs = [] := r
    subst r'
    exact ⟨v, [], rfl, h, rfl⟩
  | x :: ss, _, ⟨w, r, rfl, h1, h2⟩ => ⟨w, r ++ [v], rfl, h1, RpSL.snoc h h2⟩
theorem RpSL.dropLast {W : Wd} : ∀ {ss : List SV} {vs : List V}, RpSL T W ss vs → RpSL T W ss.dropLast vs.dropLast
  | [], vs, r => by
    have r' : vs = [] := r
    subst r'
    exact rfl
  | [x], _, ⟨w, r, rfl, h1, h2⟩ => by
    have r' : r = [] := h2
    subst r'
    exact rfl
  | x :: y :: ss, _, ⟨w, r, e, h1, h2⟩ => by
    obtain ⟨w2, r2, e2, h3, h4⟩ := id h2
    subst e2
    subst e
    exact ⟨w, _, rfl, h1, RpSL.dropLast h2⟩
theorem RpSL.erase {W : Wd} : ∀ {ss : List SV} {vs : List V} (k : Nat), RpSL T W ss vs → RpSL T W (ss.eraseIdx k) (vs.eraseIdx k)
  | [], vs, k, r => by
    have r' : vs = [] := r
    subst r'
    exact rfl
  | x :: ss, _, 0, ⟨w, r, rfl, h1, h2⟩ => h2
  | x :: ss, _, k + 1, ⟨w, r, rfl, h1, h2⟩ => ⟨w, _, rfl, h1, RpSL.erase k h2⟩
theorem RpSL.setAt {W : Wd} {s : SV} {v : V} (h : RpS T W s v) : ∀ {ss : List SV} {vs : List V} (k : Nat), RpSL T W ss vs → RpSL T W (ss.set k s) (vs.set k v)
  | [], vs, k, r => by
    have r' : vs = [] := r
    subst r'
    exact rfl
  | x :: ss, _, 0, ⟨w, r, rfl, h1, h2⟩ => ⟨v, r, rfl, h, h2⟩
  | x :: ss, _, k + 1, ⟨w, r, rfl, h1, h2⟩ => ⟨w, _, rfl, h1, RpSL.setAt h k h2⟩
theorem wm_append {k : Nat} {ss : List SV} {x : SV} (ho : own[k]? = some (.lst ss)) (hl : ss.length < 100000) (p : P (.d .non) (own.set k (.lst (ss ++ [x])))) : WM T b rAppend own k [x] P := fun W a vs ha ea ⟨v, r, ev, rx, er⟩ Q q => by
  subst ev
  have er' : r = [] := er
  subst er'
  obtain ⟨a', ea', _, _, _, ws, eh, rr⟩ := ha.ow.get ho
  have z : a' = a := Option.some.inj (ea'.symm.trans ea)
  subst z
  obtain ⟨ha2, l2⟩ := ha.setOwn ho ea (RpSL.snoc rx rr)
  exact ⟨a', ws, v, rfl, rfl, eh, sz_lt (by rw [rr.len]; exact hl), q _ (.d .non) _ _ ha2 l2 rfl p⟩
theorem wm_pop {k : Nat} {ss : List SV} {x : SV} (ho : own[k]? = some (.lst ss)) (e : ss[ss.length - 1]? = some x) (p : P x (own.set k (.lst ss.dropLast))) : WM T b rPop own k [] P := fun W a vs ha ea rx Q q => by
  have er' : vs = [] := rx
  subst er'
  obtain ⟨a', ea', _, _, _, ws, eh, rr⟩ := ha.ow.get ho
  have z : a' = a := Option.some.inj (ea'.symm.trans ea)
  subst z
  obtain ⟨ha2, l2⟩ := ha.setOwn ho ea (RpSL.dropLast rr)
  obtain ⟨v, ev, rv⟩ := rr.get e
  exact ⟨a', ws, v, rfl, rfl, eh, by rw [rr.len]; exact ev, q v x _ _ ha2 l2 (RpS.mono l2 rv) p⟩
theorem seqIndex_nat {i n : Nat} (h : i < n) : seqIndex? (i : Int) n = some i := by
  have := (ixN_seq (n := n) (i := (i : Int)) (j := i) (by unfold ixN; rw [if_pos (by omega), if_pos (by omega)]; simp)).1
  exact this
theorem wm_popAt {k : Nat} {ss : List SV} {i : Nat} {x : SV} (ho : own[k]? = some (.lst ss)) (e : ss[i]? = some x) (hl : ss.length ≤ 100000) (p : P x (own.set k (.lst (ss.eraseIdx i)))) : WM T b rPopAt own k [.d (.int i)] P := fun W a vs ha ea ⟨v, r, ev, rx, er⟩ Q q => by
  subst ev
  have er' : r = [] := er
  subst er'
  cases RpS.int rx
  obtain ⟨a', ea', _, _, _, ws, eh, rr⟩ := ha.ow.get ho
  have z : a' = a := Option.some.inj (ea'.symm.trans ea)
  subst z
  obtain ⟨ha2, l2⟩ := ha.setOwn ho ea (RpSL.erase i rr)
  obtain ⟨v, ev, rv⟩ := rr.get e
  have hi : i < ss.length := (List.getElem?_eq_some_iff.mp e).1
  exact ⟨a', ws, i, i, v, rfl, rfl, eh, by omega, by omega, by rw [rr.len]; exact seqIndex_nat hi, ev, q v x _ _ ha2 l2 (RpS.mono l2 rv) p⟩
/-- xs[i] = e on an own list -/
theorem ws_sub {Φ : Po} {te to ti : TE} (h : WE T b te own ds fun x o1 => WE T b to o1 ds fun s o2 => ∃ k, s = .p k ∧ WE T b ti o2 ds fun y o3 => ∃ (i : Int) (j : Nat) (ss : List SV), y = .d (.int i) ∧ o3[k]? = some (.lst ss) ∧ ixN ss.length i = some j ∧ Φ.nx (o3.set k (.lst (ss.set j x))) ds) : WS T b (tAsg te (gSub to ti rSetL)) own ds Φ := fun W σ ha sl D d => by
  refine h W σ ha sl _ fun v x o1 W1 ha1 l1 r1 h1 => ?_
  refine h1 W1 σ ha1 (sl.mono l1) _ fun v2 s o2 W2 ha2 l2 r2 ⟨k, e, h2⟩ => ?_
  subst e
  obtain ⟨a, ea, rfl⟩ := r2
  refine h2 W2 σ ha2 (sl.mono (l1.trans l2)) _ fun v3 y o3 W3 ha3 l3 r3 ⟨i, j, ss, e, ho, hj, p⟩ => ?_
  subst e
  cases RpS.int r3
  have ea3 := prefix_get l3.a ea
  obtain ⟨a', ea', _, _, _, ws, eh, rr⟩ := ha3.ow.get ho
  have z : a' = a := Option.some.inj (ea'.symm.trans ea3)
  subst z
  obtain ⟨ha4, l4⟩ := ha3.setOwn ho ea3 (RpSL.setAt (RpS.mono (l2.trans l3) r1) j rr)
  refine ⟨a', ws, i, j, rfl, rfl, eh, by rw [rr.len]; exact hj, ?_⟩
  exact d.nx σ _ ds _ ha4 (((l1.trans l2).trans l3).trans l4) (sl.mono (((l1.trans l2).trans l3).trans l4)) p

/-! ### slices -/
def WO (T : Tb) (b : Bd) (to : TO) (own : List OW) (ds : List (Option SV)) (P : Option Int → List OW → Prop) : Prop :=
  ∀ (W : Wd) (σ : L2.St), HA T b W own → SlL T W σ ds → ∀ Q : Option Int → Hp → Prop, (∀ k own' W', HA T b W' own' → Le W W' → P k own' → Q k W'.H) → to σ W.H Q
theorem wo_none {P : Option Int → List OW → Prop} (p : P none own) : WO T b tNoPart own ds P := fun W σ ha sl Q q => q none own W ha (Le.refl W) p
theorem wo_some {P : Option Int → List OW → Prop} {te : TE} (h : WE T b te own ds fun s o => ∃ i, s = .d (.int i) ∧ P (some i) o) : WO T b (tPart te) own ds P := fun W σ ha sl Q q => by
  refine h W σ ha sl _ fun v s o W1 ha1 l1 r1 ⟨i, e, p⟩ => ?_
  subst e
  exact ⟨i, r1, q (some i) o W1 ha1 l1 p⟩
def cutD {α : Type} (xs : List α) (lo hi : Option Int) : List α := (xs.drop (HT.sIx xs.length 0 lo)).take (HT.sIx xs.length xs.length hi - HT.sIx xs.length 0 lo)
theorem RepL.drop {G : Hp} : ∀ {xs : List D} {vs : List V} (n : Nat), RepL T G xs vs → RepL T G (xs.drop n) (vs.drop n)
  | _, _, 0, h => h
  | [], vs, n + 1, h => by
    have h' : vs = [] := h
    subst h'
    exact rfl
  | x :: xs, _, n + 1, ⟨v, r, rfl, h1, h2⟩ => RepL.drop n h2
theorem RepL.take {G : Hp} : ∀ {xs : List D} {vs : List V} (n : Nat), RepL T G xs vs → RepL T G (xs.take n) (vs.take n)
  | _, _, 0, h => rfl
  | [], vs, n + 1, h => by
    have h' : vs = [] := h
    subst h'
    exact rfl
  | x :: xs, _, n + 1, ⟨v, r, rfl, h1, h2⟩ => ⟨v, r.take n, rfl, h1, RepL.take n h2⟩
theorem RepL.cut {G : Hp} {xs : List D} {vs : List V} (h : RepL T G xs vs) (lo hi : Option Int) : RepL T G (cutD xs lo hi) (cutV vs lo hi) := by
  unfold cutD cutV
  rw [h.len]
  exact (h.drop _).take _
def rSlAny (K : PySem.W.Frag) : V → Option Int → Option Int → Hp → VK → Prop := fun x lo hi H Q => rSlL K x lo hi H Q ∨ rSlA K x lo hi H Q ∨ rSlS x lo hi H Q
theorem sl_any {X : Cx} : SlR X (rSlAny X.K) := by
  intro pins s σ H x v vl vu lo hi sl Q I rx hs pl pu h
  rcases h with h | h | h
  · exact sl_list pins s σ H x v vl vu lo hi sl Q I rx hs pl pu h
  · exact sl_tupA pins s σ H x v vl vu lo hi sl Q I rx hs pl pu h
  · exact sl_str pins s σ H x v vl vu lo hi sl Q I rx hs pl pu h
theorem we_sl {te : TE} {tl th : TO} (h : WE T b te own ds fun s o => WO T b tl o ds fun lo o1 => WO T b th o1 ds fun hi o2 =>
    (∃ xs, s = .d (.lst xs) ∧ P (.d (.lst (cutD xs lo hi))) o2) ∨ (∃ xs, s = .d (.tup xs) ∧ P (.d (.tup (cutD xs lo hi))) o2) ∨ (∃ z, s = .d (.str z) ∧ z.length ≤ 100000 ∧ P (.d (.str (cutS z lo hi))) o2)) : WE T b (tSl (rSlAny T.K) te tl th) own ds P := fun W σ ha sl Q q => by
  refine h W σ ha sl _ fun v s o1 W1 ha1 l1 r1 h1 => ?_
  refine h1 W1 σ ha1 (sl.mono l1) _ fun lo o2 W2 ha2 l2 h2 => ?_
  refine h2 W2 σ ha2 (sl.mono (l1.trans l2)) _ fun hi o3 W3 ha3 l3 h3 => ?_
  have r3 := RpS.mono (l2.trans l3) r1
  rcases h3 with ⟨xs, e, p⟩ | ⟨xs, e, p⟩ | ⟨z, e, hz, p⟩
  · subst e
    obtain ⟨a, ws, rfl, hs, rr⟩ := r3
    refine .inl ⟨a, ws, rfl, sq_of (ha3.gh _ _ hs), fun c hc => ?_⟩
    obtain ⟨ha4, l4⟩ := ha3.alloc (o := .lst (cutV ws lo hi)) hc
    exact q _ (.d (.lst (cutD xs lo hi))) _ _ ha4 (((l1.trans l2).trans l3).trans l4) ⟨c, _, rfl, upd_same, RepL.mono l4.g (rr.cut lo hi)⟩ p
  · subst e
    obtain ⟨a, ws, rfl, hs, rr⟩ := r3
    refine .inr (.inl ⟨a, ws, rfl, ex_t ha3.gh hs, fun ⟨e1, e2⟩ => ?_, fun _ c hc => ?_⟩)
    · have e : cutD xs lo hi = xs := by
        unfold cutD
        rw [rr.len] at e1 e2
        rw [e1, e2]
        simp
      rw [e] at p
      exact q _ (.d (.tup xs)) _ W3 ha3 ((l1.trans l2).trans l3) ⟨a, ws, rfl, hs, rr⟩ p
    · obtain ⟨ha4, l4⟩ := ha3.alloc (o := .tup (cutV ws lo hi)) hc
      exact q _ (.d (.tup (cutD xs lo hi))) _ _ ha4 (((l1.trans l2).trans l3).trans l4) ⟨c, _, rfl, st_of upd_same, RepL.mono l4.g (rr.cut lo hi)⟩ p
  · subst e
    cases RpS.str r3
    exact .inr (.inr ⟨z, rfl, sz_of hz, q _ (.d (.str (cutS z lo hi))) _ W3 ha3 ((l1.trans l2).trans l3) rfl p⟩)
/-- [*xs, ..] -/
theorem wa_star {P : List SV → List OW → Prop} {te : TE} {tr : TA} (h : WE T b te own ds fun s o => ∃ xs, (s = .d (.lst xs) ∨ s = .d (.tup xs)) ∧ WA T b tr o ds fun ss o2 => P (xs.map SV.d ++ ss) o2) : WA T b (StX.tStar T.K te tr) own ds P := fun W σ ha sl Q q => by
  refine h W σ ha sl _ fun v s o1 W1 ha1 l1 r1 ⟨xs, e, h1⟩ => ?_
  have app : ∀ {W2 : Wd} {xs : List D} {ss : List SV} {vs ws : List V}, RepL T W2.G xs vs → RpSL T W2 ss ws → RpSL T W2 (xs.map SV.d ++ ss) (vs ++ ws) := by
    intro W2 xs
    induction xs with
    | nil =>
      intro ss vs ws a1 a2
      have a1' : vs = [] := a1
      subst a1'
      exact a2
    | cons x xs ih =>
      intro ss vs ws ⟨v, r, e, a1, a2⟩ a3
      subst e
      exact ⟨v, r ++ ws, rfl, a1, ih a2 a3⟩
  rcases e with rfl | rfl
  · obtain ⟨a, ws, rfl, hs, rr⟩ := r1
    refine ⟨a, ws, rfl, .inr (sq_of (ha1.gh _ _ hs)), h1 W1 σ ha1 (sl.mono l1) _ fun vs ss o2 W2 ha2 l2 r2 p => ?_⟩
    exact q _ _ o2 W2 ha2 (l1.trans l2) (app (RepL.mono l2.g rr) r2) p
  · obtain ⟨a, ws, rfl, hs, rr⟩ := r1
    refine ⟨a, ws, rfl, .inl (ex_t ha1.gh hs), h1 W1 σ ha1 (sl.mono l1) _ fun vs ss o2 W2 ha2 l2 r2 p => ?_⟩
    exact q _ _ o2 W2 ha2 (l1.trans l2) (app (RepL.mono l2.g rr) r2) p
end
end Lo
end
section
set_option Elab.async false
set_option linter.all false
set_option autoImplicit false
set_option maxRecDepth 100000
set_option maxHeartbeats 1000000
namespace Lo
open PySem PySem.Spec PyProof.Rows L2 Evl

section
variable {T : Tb} {b : Bd} {own : List OW} {ds : List (Option SV)} {P : PSv}
theorem lookup_names {α β : Type} {f : PySem.Str} : ∀ {gs : List (PySem.Str × α)} {fs : List (PySem.Str × β)}, gs.map (·.1) = fs.map (·.1) → (gs.lookup f = none ↔ fs.lookup f = none)
  | [], [], _ => by simp
  | [], _ :: _, h => by simp at h
  | _ :: _, [], h => by simp at h
  | (n, x) :: gs, (m, y) :: fs, h => by
    simp only [List.map_cons, List.cons.injEq] at h
    obtain ⟨e, h⟩ := h
    subst e
    by_cases q : f = n
    · subst q
      simp [List.lookup]
    · have q' : (f == n) = false := by simpa using q
      simp only [List.lookup, q']
      exact lookup_names h
/-- which field of a class -/
def fldAt : List PySem.Str → List D → PySem.Str → Option D
  | n :: ns, d :: ds, f => if f = n then some d else fldAt ns ds f
  | _, _, _ => none
theorem fld_lookup {H : Hp} {f : PySem.Str} {d : D} : ∀ {ns : List PySem.Str} {fs : List D} {gs : List (PySem.Str × V)}, gs.map (·.1) = ns → RepL T H fs (gs.map (·.2)) → fldAt ns fs f = some d → ∃ v, gs.lookup f = some v ∧ Rep T H d v
  | [], fs, gs, e, r, h => by simp [fldAt] at h
  | n :: ns, [], gs, e, r, h => by simp [fldAt] at h
  | n :: ns, x :: fs, [], e, r, h => by simp at e
  | n :: ns, x :: fs, (m, v) :: gs, e, ⟨w, rr, ew, h1, h2⟩, h => by
    simp only [List.map_cons, List.cons.injEq] at e ew
    obtain ⟨e1, e2⟩ := e
    obtain ⟨ew1, ew2⟩ := ew
    subst e1
    subst ew1
    unfold fldAt at h
    by_cases q : f = m
    · subst q
      rw [if_pos rfl] at h
      have := Option.some.inj h
      subst this
      exact ⟨v, by simp [List.lookup], h1⟩
    · rw [if_neg q] at h
      have q' : (f == m) = false := by simpa using q
      obtain ⟨v', ev, rv⟩ := fld_lookup e2 (ew2 ▸ h2) h
      exact ⟨v', by simp [List.lookup, q', ev], rv⟩
/-- o.f of an instance that stands for good -/
theorem we_fld {ta : TE} {f : PySem.Str} (h : WE T b ta own ds fun s o => ∃ c fs d, s = .d (.obj c fs) ∧ Cls T.K (T.cls c) ∧ NoAttr T.K (T.cls c) f ∧ fldAt (T.fld c) fs f = some d ∧ P (.d d) o) : WE T b (tFld T.K ta f) own ds P := fun W σ ha sl Q q => by
  refine h W σ ha sl _ fun v s o1 W1 ha1 l1 r1 ⟨c, fs, d, e, hc, hn, hf, p⟩ => ?_
  subst e
  obtain ⟨a, dx, gs, rfl, ho, en, rr⟩ := r1
  obtain ⟨v, ev, rv⟩ := fld_lookup en rr hf
  exact ⟨a, T.cls c, dx, gs, v, rfl, ha1.gh _ _ ho, hc, hn, ev, q v (.d d) o1 W1 ha1 l1 rv p⟩
def fldS : List (PySem.Str × SV) → PySem.Str → Option SV
  | (n, s) :: r, f => if f = n then some s else fldS r f
  | [], _ => none
theorem fldS_lookup {W : Wd} {f : PySem.Str} {s : SV} : ∀ {fs : List (PySem.Str × SV)} {gs : List (PySem.Str × V)}, gs.map (·.1) = fs.map (·.1) → RpSL T W (fs.map (·.2)) (gs.map (·.2)) → fldS fs f = some s → ∃ v, gs.lookup f = some v ∧ RpS T W s v
  | [], gs, e, r, h => by simp [fldS] at h
  | (n, x) :: fs, [], e, r, h => by simp at e
  | (n, x) :: fs, (m, v) :: gs, e, ⟨w, rr, ew, h1, h2⟩, h => by
    simp only [List.map_cons, List.cons.injEq] at e ew
    obtain ⟨e1, e2⟩ := e
    obtain ⟨ew1, ew2⟩ := ew
    subst e1
    subst ew1
    unfold fldS at h
    by_cases q : f = m
    · subst q
      rw [if_pos rfl] at h
      have := Option.some.inj h
      subst this
      exact ⟨v, by simp [List.lookup], h1⟩
    · rw [if_neg q] at h
      have q' : (f == m) = false := by simpa using q
      obtain ⟨v', ev, rv⟩ := fldS_lookup e2 (ew2 ▸ h2) h
      exact ⟨v', by simp [List.lookup, q', ev], rv⟩
/-- .. that is being made -/
theorem we_fldO {ta : TE} {f : PySem.Str} (h : WE T b ta own ds fun s o => ∃ k c fs x, s = .p k ∧ o[k]? = some (.ins c fs) ∧ Cls T.K (T.cls c) ∧ NoAttr T.K (T.cls c) f ∧ fldS fs f = some x ∧ P x o) : WE T b (tFld T.K ta f) own ds P := fun W σ ha sl Q q => by
  refine h W σ ha sl _ fun v s o1 W1 ha1 l1 r1 ⟨k, c, fs, x, e, ho, hc, hn, hf, p⟩ => ?_
  subst e
  obtain ⟨a, ea, rfl⟩ := r1
  obtain ⟨a', ea', _, _, _, dx, gs, eh, en, rr⟩ := ha1.ow.get ho
  have z : a' = a := Option.some.inj (ea'.symm.trans ea)
  subst z
  obtain ⟨v, ev, rv⟩ := fldS_lookup en rr hf
  exact ⟨a', T.cls c, dx, gs, v, rfl, eh, hc, hn, ev, q v x o1 W1 ha1 l1 rv p⟩
theorem putF_new {f : PySem.Str} {v : V} : ∀ {gs : List (PySem.Str × V)}, f ∉ gs.map (·.1) → putF f v gs = gs ++ [(f, v)]
  | [], _ => rfl
  | (n, x) :: gs, h => by
    simp only [List.map_cons, List.mem_cons, not_or] at h
    have q : ¬ n = f := fun z => h.1 z.symm
    have ih := putF_new (v := v) h.2
    first
      | (show (if n = f then (n, v) :: gs else (n, x) :: putF f v gs) = _; rw [if_neg q, ih]; rfl)
      | (show (if f = n then (n, v) :: gs else (n, x) :: putF f v gs) = _; rw [if_neg h.1, ih]; rfl)
      | (unfold putF; simp [q, h.1, ih])
theorem HA.setIns {W : Wd} (h : HA T b W own) {k : Nat} {a : Addr} {c : Nat} {fs : List (PySem.Str × SV)} {f : PySem.Str} {x : SV} {v : V} (ho : own[k]? = some (.ins c fs)) (ea : W.as[k]? = some a) (hf : f ∉ fs.map (·.1)) (rv : RpS T W x v) {dx : Addr} {gs : List (PySem.Str × V)} (eh : W.H a = some (.ins (T.cls c) dx gs)) (en : gs.map (·.1) = fs.map (·.1)) (rr : RpSL T W (fs.map (·.2)) (gs.map (·.2))) :
    HA T b ⟨W.G, upd W.H a (.ins (T.cls c) dx (gs ++ [(f, v)])), W.as⟩ (own.set k (.ins c (fs ++ [(f, x)]))) ∧ Le W ⟨W.G, upd W.H a (.ins (T.cls c) dx (gs ++ [(f, v)])), W.as⟩ := by
  obtain ⟨a', ea', g, bb, hN, _⟩ := h.ow.get ho
  have z : a' = a := Option.some.inj (ea'.symm.trans ea)
  subst z
  have l : Le W ⟨W.G, upd W.H a' (.ins (T.cls c) dx (gs ++ [(f, v)])), W.as⟩ := ⟨Ex.refl _, List.prefix_refl _⟩
  have ne : ∀ {H : Hp} {x : Addr} {o : HO}, H a' = none → H x = some o → x ≠ a' := fun {H x o} q w z => by
    subst z
    rw [q] at w
    cases w
  have how : Ow T b ⟨W.G, upd W.H a' (.ins (T.cls c) dx (gs ++ [(f, v)])), W.as⟩ a' (.ins c (fs ++ [(f, x)])) := by
    refine ⟨g, bb, hN, dx, _, upd_same, by simp [en], ?_⟩
    rw [List.map_append, List.map_append]
    exact RpSL.snoc (RpS.mono l rv) (RpSL.mono l rr)
  refine ⟨⟨fun x o q => (upd_ne (ne g q)).trans (h.gh x o q), fun x o q => (upd_ne (ne bb q)).trans (h.bh x o q), fun x n => ?_, h.nd, OwL.set l how ea h.nd (fun c _ z => ⟨upd_ne z, id⟩) h.ow⟩, l⟩
  have z : x ≠ a' := fun z => hN (z ▸ n)
  exact ⟨(h.nn x n).1, fun q => (h.nn x n).2 ((upd_ne z).symm.trans q)⟩
/-- self.f = e of an instance that is being made; self is the 0-th own object -/
theorem ws_fld {Φ : Po} {ta tv : TE} {f : PySem.Str} (h : WE T b tv own ds fun x o1 => WE T b ta o1 ds fun s o => ∃ k c fs, s = .p k ∧ o[k]? = some (.ins c fs) ∧ Cls T.K (T.cls c) ∧ NoAttr T.K (T.cls c) f ∧ f ∉ fs.map (·.1) ∧ fs.length < 900 ∧ Φ.nx (o.set k (.ins c (fs ++ [(f, x)]))) ds) : WS T b (sFld T.K ta tv f) own ds Φ := fun W σ ha sl D d => by
  refine h W σ ha sl _ fun v x o1 W1 ha1 l1 r1 h1 => ?_
  refine h1 W1 σ ha1 (sl.mono l1) _ fun v2 s o2 W2 ha2 l2 r2 ⟨k, c, fs, e, ho, hc, hn, hf, hz, p⟩ => ?_
  subst e
  obtain ⟨a, ea, rfl⟩ := r2
  obtain ⟨a', ea', _, _, _, dx, gs, eh, en, rr⟩ := ha2.ow.get ho
  have z : a' = a := Option.some.inj (ea'.symm.trans ea)
  subst z
  have lg : gs.length = fs.length := by simpa using congrArg List.length en
  obtain ⟨ha3, l3⟩ := ha2.setIns ho ea hf (RpS.mono l2 r1) eh en rr
  refine ⟨a', T.cls c, dx, gs, rfl, eh, hc, hn, by omega, ?_⟩
  rw [putF_new (by rw [en]; exact hf)]
  exact d.nx σ _ ds _ ha3 ((l1.trans l2).trans l3) (sl.mono ((l1.trans l2).trans l3)) p

/-! ### a class is called -/
/-- the promise of an __init__: F tells of the whole instance -/
def PostI (T : Tb) (c : Nat) (x : Addr) (G0 H : Hp) (Q : VK) : D → Prop := fun d => ∃ fs, d = .obj c fs ∧ ∀ G' H' gs dx, Ex G0 G' → Ex G' H' → (∀ y o, y ≠ x → H y = some o → H' y = some o) → (∀ y, H y ≠ none → G0 y = none → G' y = none) → G' x = none →
  H' x = some (.ins (T.cls c) dx gs) → gs.map (·.1) = T.fld c → RepL T G' fs (gs.map (·.2)) → Q .non H'
def PostXI (T : Tb) (x : Addr) (H : Hp) (E : XK) : Er → Prop := fun e => ∀ dx H', (∀ y o, y ≠ x → H y = some o → H' y = some o) → (H dx = none ∨ dx = x) → H' dx = some (.xd e.fs) → E (.ref (T.cls e.c)) (some dx) H'
def SpI (T : Tb) (c : Nat) (F : DF) : Sp := fun vs H Q E => ∃ x dx G0 ds ws, vs = .ref x :: ws ∧ H x = some (.ins (T.cls c) dx []) ∧ G0 x = none ∧ Ex G0 H ∧ RepL T G0 ds ws ∧ F ds (PostI T c x G0 H Q) (PostXI T x H E)
theorem repL_app {G : Hp} : ∀ {xs ys : List D} {vs ws : List V}, RepL T G xs vs → RepL T G ys ws → RepL T G (xs ++ ys) (vs ++ ws) := by
  intro xs
  induction xs with
  | nil =>
    intro ys vs ws h1 h2
    have h1' : vs = [] := h1
    subst h1'
    exact h2
  | cons x xs ih =>
    intro ys vs ws ⟨v, r, e, h1, h2⟩ h3
    subst e
    exact ⟨v, r ++ ws, rfl, h1, ih h2 h3⟩
/-- what a call of a class comes to; W's error is wished for by Y -/
theorem make_core {c : Nat} {F : DF} {E : XK} {W1 : Wd} {o : List OW} {xs : List D} {vs : List V} {Q : VK} {X : Er → Prop} (ha : HA T b W1 o) (r : RepL T W1.G xs vs) (mon : ∀ {xs R R' Y Y'}, F xs R Y → (∀ d, R d → R' d) → (∀ e, Y e → Y' e) → F xs R' Y') {R : D → Prop}
    (f : F xs R X) (hq : ∀ d v W', HA T b W' o → Le W1 W' → RpS T W' (.d d) v → R d → Q v W'.H) (hx : ∀ e dx H', Ex W1.H H' → W1.H dx = none → H' dx = some (.xd e.fs) → X e → E (.ref (T.cls e.c)) (some dx) H') (ob : ∀ d, R d → ∃ fs, d = .obj c fs)
    {x dx : Addr} (nx : W1.H x = none) (nd : W1.H dx = none) (ne : dx ≠ x) : SpI T c F (.ref x :: vs) (upd (upd W1.H dx (.own x)) x (.ins (T.cls c) dx [])) (fun v H2 => v = .non ∧ Q (.ref x) H2) E := by
  have gx : W1.G x = none := fresh_back ha.gh nx
  have e0 : Ex W1.H (upd (upd W1.H dx (.own x)) x (.ins (T.cls c) dx [])) := (Ex.new nd).mut nx
  have keep : ∀ {y o}, W1.H y = some o → y ≠ x := fun {y o} h z => by
    subst z
    rw [nx] at h
    cases h
  refine ⟨x, dx, W1.G, xs, vs, rfl, upd_same, gx, ha.gh.trans e0, r, mon f (fun d rd => ?_) fun e xe ddx H' k n hf => ?_⟩
  · obtain ⟨fs, rfl⟩ := ob d rd
    refine ⟨fs, rfl, fun G' H' gs dx g gh k hg gx' hx' hn' rr => ⟨rfl, ?_⟩⟩
    have eG : Ex G' (upd G' x (.ins (T.cls c) dx gs)) := Ex.new gx'
    have hh : Ex W1.H H' := fun y o h => k y o (keep h) (e0 y o h)
    have gh2 : Ex (upd G' x (.ins (T.cls c) dx gs)) H' := fun y o h => by
      by_cases z : y = x
      · subst z
        rw [upd_same] at h
        rw [hx', h]
      · rw [upd_ne z] at h
        exact gh y o h
    obtain ⟨h2, l2⟩ := ha.call (g.trans eG) gh2 hh (fun y n1 n2 => by
      have z : y ≠ x := fun z => n1 (z ▸ nx)
      rw [upd_ne z]
      refine hg y ?_ n2
      cases q : W1.H y with
      | none => exact absurd q n1
      | some o =>
        rw [e0 y o q]
        exact fun z => by cases z)
    have rp : RpS T ⟨upd G' x (.ins (T.cls c) dx gs), H', W1.as⟩ (.d (.obj c fs)) (.ref x) := ⟨x, dx, gs, rfl, upd_same, hn', RepL.mono eG rr⟩
    exact hq _ _ _ h2 l2 rp rd
  · refine hx e ddx H' (fun y o h => k y o (keep h) (e0 y o h)) ?_ hf xe
    rcases n with n | rfl
    · cases q : W1.H ddx with
      | none => rfl
      | some o =>
        have := e0 _ _ q
        rw [n] at this
        cases this
    · exact nx
theorem we_make {c : Nat} {C : Addr} {F : DF} {dvs : List V} {dd : List D} {E : XK} {X : Er → Prop} {ta : TA} (hC : T.cls c = C) (hx : XOk T b E X) (hd : ∀ G, RepL T G dd dvs)
    (h : WA T b ta own ds fun ss o => ∃ xs, AllD ss xs ∧ F (xs ++ dd) (fun d => (∃ fs, d = .obj c fs) ∧ P (.d d) o) X) (mon : ∀ {xs R R' Y Y'}, F xs R Y → (∀ d, R d → R' d) → (∀ e, Y e → Y' e) → F xs R' Y') : WE T b (tMake C (SpI T c F) dvs E ta) own ds P := fun W σ ha sl Q q => by
  subst hC
  refine h W σ ha sl _ fun vs ss o1 W1 ha1 l1 r1 ⟨xs, e, f⟩ x dx nx nd ne => ?_
  rw [e.eq] at r1
  have r := RpSL.ds r1
  exact make_core (F := F) (xs := xs ++ dd) ha1 (repL_app r (hd _)) mon f (fun d v W' h' l' r' rd => q v (.d d) o1 W' h' (l1.trans l') r' rd.2) (fun e dx H' k n hf xe => hx e dx H' (ha1.bh.trans k) (fresh_B ha1 n) hf xe) (fun d rd => rd.1) nx nd ne
/-- a property of an own class, read -/
theorem we_prop {C : Addr} {F : DF} {E : XK} {X : Er → Prop} {ta : TE} (hx : XOk T b E X)
    (h : WE T b ta own ds fun s o => ∃ c fs, s = .d (.obj c fs) ∧ T.cls c = C ∧ F [.obj c fs] (fun d => P (.d d) o) X) (mon : ∀ {xs R R' Y Y'}, F xs R Y → (∀ d, R d → R' d) → (∀ e, Y e → Y' e) → F xs R' Y') : WE T b (tProp C (SpP T F) [] E ta) own ds P := fun W σ ha sl Q q => by
  refine h W σ ha sl _ fun v s o1 W1 ha1 l1 r1 ⟨c, fs, e, hC, f⟩ => ?_
  subst e
  have r0 := r1
  obtain ⟨a, dx, gs, rfl, ho, en, rr⟩ := r1
  refine ⟨a, dx, gs, rfl, hC ▸ ha1.gh _ _ ho, W1.G, [.obj c fs], ha1.gh, ⟨_, _, rfl, r0, rfl⟩, mon f (fun d p v G' H' g gh hh hg rv => ?_) fun e y dx H' hh hn hf => ?_⟩
  · obtain ⟨ha2, l2⟩ := ha1.call g gh hh hg
    exact q v (.d d) o1 ⟨G', H', W1.as⟩ ha2 (l1.trans l2) rv p
  · exact hx e dx H' (ha1.bh.trans hh) (fresh_B ha1 hn) hf y
theorem we_meth {C : Addr} {m : PySem.Str} {F : DF} {dvs : List V} {dd : List D} {E : XK} {X : Er → Prop} {ta : TE} {tt : TA} (hx : XOk T b E X) (hd : ∀ G, RepL T G dd dvs)
    (h : WE T b ta own ds fun s o => ∃ c fs, s = .d (.obj c fs) ∧ T.cls c = C ∧ m ∉ T.fld c ∧ WA T b tt o ds fun ss o2 => ∃ xs, AllD ss xs ∧ F (.obj c fs :: (xs ++ dd)) (fun d => P (.d d) o2) X) (mon : ∀ {xs R R' Y Y'}, F xs R Y → (∀ d, R d → R' d) → (∀ e, Y e → Y' e) → F xs R' Y') : WE T b (tMeth C m (SpP T F) dvs E ta tt) own ds P := fun W σ ha sl Q q => by
  refine h W σ ha sl _ fun v s o1 W1 ha1 l1 r1 ⟨c, fs, e, hC, hm, h2⟩ => ?_
  subst e
  have r0 := r1
  obtain ⟨a, dx, gs, rfl, ho, en, rr⟩ := r1
  have lk : gs.lookup m = none := by
    have key : ∀ {l : List (PySem.Str × V)}, m ∉ l.map (·.1) → l.lookup m = none := by
      intro l
      induction l with
      | nil => intro _; rfl
      | cons p l ih =>
        intro h
        obtain ⟨n, x⟩ := p
        simp only [List.map_cons, List.mem_cons, not_or] at h
        have q' : (m == n) = false := by simpa using h.1
        simp only [List.lookup, q']
        exact ih h.2
    exact key (by rw [en]; exact hm)
  refine ⟨a, dx, gs, rfl, hC ▸ ha1.gh _ _ ho, lk, h2 W1 σ ha1 (sl.mono l1) _ fun vs ss o2 W2 ha2 l2 r2 ⟨xs, e, f⟩ => ?_⟩
  rw [e.eq] at r2
  have r := RpSL.ds r2
  refine ⟨W2.G, .obj c fs :: (xs ++ dd), ha2.gh, ⟨_, _, rfl, Rep.mono l2.g r0, repL_app r (hd _)⟩, mon f (fun d p v G' H' g gh hh hg rv => ?_) fun e y dx H' hh hn hf => ?_⟩
  · obtain ⟨ha3, l3⟩ := ha2.call g gh hh hg
    exact q v (.d d) o2 ⟨G', H', W2.as⟩ ha3 ((l1.trans l2).trans l3) rv p
  · exact hx e dx H' (ha2.bh.trans hh) (fresh_B ha2 hn) hf y

/-! ### errors -/
/-- raise C(..): its own __init__ makes the attributes F tells -/
def SpX (T : Tb) (c : Nat) (F : List D → List (PySem.Str × V)) (pre : List D → Prop) : Sp := fun vs H Q E => ∃ (a : Addr) (ds : List D) (ws : List V), vs = .ref a :: ws ∧ H a = some (exo a (T.cls c) none) ∧ RepL T H ds ws ∧ pre ds ∧
  ∀ d H', H d = none → (∀ y o, y ≠ a → H y = some o → H' y = some o) → H' a = some (exo a (T.cls c) (some d)) → H' d = some (exd d (F ds)) → Q .non H'
theorem ws_raise {Φ : Po} {c : Nat} {C : Addr} {F : List D → List (PySem.Str × V)} {pre : List D → Prop} {E : XK} {X : Er → Prop} {ta : TA} (hC : T.cls c = C) (hx : XOk T b E X) (h : WA T b ta own ds fun ss o => ∃ xs, AllD ss xs ∧ xs.length ≤ 900 ∧ pre xs ∧ X ⟨c, F xs⟩) :
    WS T b (fun _ σ H => tMkO C (SpX T c F pre) [] ta σ H fun cls d H' => E cls d H') own ds Φ := fun W σ ha sl D d => by
  subst hC
  refine h W σ ha sl _ fun vs ss o1 W1 ha1 l1 r1 ⟨xs, e, hl, hp, x⟩ => ?_
  rw [e.eq] at r1
  have r := RpSL.ds r1
  refine ⟨by rw [r.len]; omega, fun a na => ⟨a, xs, vs, by simp, upd_same, RepL.mono (ha1.gh.trans (Ex.new na)) r, hp, fun d' H' nd k e1 e2 => ?_⟩⟩
  have nda : d' ≠ a := fun z => by
    rw [z, upd_same] at nd
    cases nd
  have nd' : W1.H d' = none := by
    rw [upd_ne nda] at nd
    exact nd
  refine ⟨rfl, d', F xs, e1, e2, nd', hx ⟨c, F xs⟩ d' _ (fun y o q => ?_) (fresh_B ha1 nd') upd_same x⟩
  have q1 := ha1.bh y o q
  have n1 : y ≠ d' := fun z => by
    rw [z, nd'] at q1
    cases q1
  have n2 : y ≠ a := fun z => by
    rw [z, na] at q1
    cases q1
  rw [upd_ne n1, del_ne n2]
  exact k y o n2 ((upd_ne n2).trans q1)
end
end Lo
end
section
set_option Elab.async false
set_option linter.all false
set_option autoImplicit false
set_option maxRecDepth 100000
set_option maxHeartbeats 2000000
/-! the __init__ of an own error that says super().__init__(e) first -/
namespace LX
open PySem PySem.Spec PyProof.Rows L2 PySem.W PySem.Calls

section
variable {prog : Program} {w : World} {A : Around} {E : Value → Shared → Prop} {h : Heap} {g : Array GenState} {d : Drawn} {t : Nat} {os : OsState}
variable {nm q : Str} {C N : Addr} {bs bm : List Value} {hdct : Bool} {sn : List Str} {sub : List Value} {ab : Bool} {col : Option Bool} {dd : Option Addr} {k0 k1 k2 k3 k5 : Option Value}
/-- the bound ValueError.__init__ is called -/
theorem call_mw {u e t0 : Addr} {rest : List Value} {Q : Value → Shared → Prop}
    (hC : h.get? C = some (excClassObj nm q C N bs bm hdct sn sub ab col dd k0 k1 k2 k3 k5 "ValueError.__new__")) (he : h.get? e = some (HandSPX.excO C t0)) (hu : h.get? u = some (kxs_mw "ValueError.__init__" e)) (hrest : rest.length ≤ sizeLine)
    (hq : ∀ h' t1, (∀ b o, b ≠ e → h.get? b = some o → h'.get? b = some o) → h'.get? e = some (HandSPX.excO C t1) → Q .none ⟨h', g, d, t, os⟩) :
    wpAny (model prog w) A (call (.ref u) rest) Q E ⟨h, g, d, t, os⟩ := by
  refine wpAny_call (codeAny_of_tree ?_)
  show wpAny _ A.in1 (callAny (.ref u) ⟨rest, []⟩) _ _ _
  simp only [callAny]
  refine wpAny_bind (wpAny_load hu ?_)
  simp only [kxs_mw, show (Value.type "method-wrapper" == Value.type "method" || Value.type "method-wrapper" == Value.type "builtin_function_or_method" || Value.type "method-wrapper" == Value.type "method-wrapper") = true by decide, if_true]
  refine KFB.if_so (by decide) ?_
  refine wpAny_bind (check_bound_init F.excBase_ValueError.toExcCallFacts hC he rfl ?_)
  refine wpAny_bind (wpAny_pure (wpAny_pure ?_))
  refine ⟨plainId_quiet F.excBase_ValueError.init.plain _, codeAny_builtin F.excBase_ValueError.initEntry ?_⟩
  refine exc_init_tree (cls := .ref C) (t0 := t0) (dv := none) (c2 := .none) (c3 := .none) (b4 := .bool false) he hrest fun h' k e' _ => ?_
  exact hq h' _ k e'
end

/-- what the written part says of the class at C and of its __init__ at f -/
structure SupC (P : Program) (K : PySem.W.Frag) (mg : Str → Option Value) (C f cc cda : Addr) (qual : Str) (params : Arguments) (body : List Stmt) (scope : Scope) : Prop where
  ox : OexC K C
  fn : ∃ (oc : Value) (od : Option Addr) (dV kV doc pm : Value) (an : Option Addr) (ct : Value) (osl : Array (Option Value)), K.lookup f = some ⟨oc, od, .func (ksFn "__init__" qual params body scope dV kV doc pm an (.ref cda) ct cc), osl⟩
  cd : codeIn K (.ref cda) qual = true
  code : ∃ ccl cdd vs ccs file tf, K.lookup cda = some ⟨ccl, cdd, .fields vs, ccs⟩ ∧ vs[2]? = some (.str file tf) ∧ ((P.main.file : Str) == file) = true
  cell : ∃ cl cld csl, K.lookup cc = some ⟨cl, cld, .cell (some (.ref C)), csl⟩
  cls : ∃ cd, clsIn K C = some cd
  sub : mroIn K C (.ref C) = some true
  sup : mg "super" = none
  ops : nsIn K cStatics "thirdparty.any" = some none
  sin : ks_superIn K C C "__init__" = some (some (.builtin "ValueError.__init__"))
  ve : subIn K (.ref C) (.type "ValueError") = some true
  top : (P.main.scope.names.lookup ("super" : Str)).isSome = false
/-- its names: the parameters, and __class__ -/
structure SupS (ps : List Str) (sc : Scope) : Prop where
  nd : ps.Nodup
  kind : sc.kind = .function
  co : sc.isCoroutine = false
  gen : sc.isGenerator = false
  par : ∀ y ∈ ps, sc.names.lookup y = some .local
  nocell : ∀ x ∈ sc.names, x.2 ≠ .cell
  free : ∀ y ∈ sc.names, y.2 = .free → y.1 = "__class__"
  hks : sc.names.lookup ("super" : Str) = some .globalImplicit
  hkc : sc.names.lookup ("__class__" : Str) = some .free
def sxc (CX : CXT) (P : Program) (w : World) (K : PySem.W.Frag) (mg : Str → Option Value) (base : Heap) (N : List Str) (qual : Str) (scope : Scope) (f cc cda : Addr) (A : Around) (outer : List Env) (s : Shared) (H : Hp) (E : XK) : Cx where
  prog := P
  w := w
  K := K
  mg := mg
  base := base
  A := A.deeper (ksEnv qual scope s.heap.objs.size f (.ref cda) cc)
  N := N
  s_0 := s
  H_0 := H
  env := ksEnv qual scope s.heap.objs.size f (.ref cda) cc
  outer := outer
  stack := ksEnv qual scope s.heap.objs.size f (.ref cda) cc :: outer
  ex := []
  calm := true
  fn := fun _ => false
  pn := []
  xe := fun e s' => wpAny (model P w) (A.deeper (ksEnv qual scope s.heap.objs.size f (.ref cda) cc)) (leaving (ksEnv qual scope s.heap.objs.size f (.ref cda) cc) e) (fun _ s'' => CX outer H s E e s'') (fun e' s'' => CX outer H s E e' s'') s'
section
variable {CX : CXT} {P : Program} {w : World} {K : PySem.W.Frag} {mg : Str → Option Value} {base : Heap} {ps : List Str} {qual : Str} {scope : Scope} {params : Arguments} {body : List Stmt} {f cc cda C : Addr} {A : Around} {outer : List Env} {s : Shared} {H : Hp} {E : XK} {us : List Value} {vs : List V} {k : Nat}
theorem inv_startS {h₁ : Heap} {tk : Nat} (S : SupS ps scope) (T : SupC P K mg C f cc cda qual params body scope) (hd : A.handled = none) (e0 : Env0 P w K mg base A outer s H) (hl : vs.length = ps.length) (r : Vals vs us) (hns : h₁.Ns s.heap.objs.size fun y => (ps.zip us).reverse.lookup y)
    (kp : ∀ b o, s.heap.get? b = some o → h₁.get? b = some o) : Inv (sxc CX P w K mg base ps qual scope f cc cda A outer s H E) [] (L2.start ps vs) H { s with heap := h₁, toks := tk } := by
  obtain ⟨cl, cld, csl, hcell⟩ := T.cell
  have hb : base.get? cc = some ⟨cl, cld, .cell (some (.ref C)), csl⟩ := e0.mod.kin _ _ hcell
  have one : ∀ {x : Str} {c : Addr}, (sxc CX P w K mg base ps qual scope f cc cda A outer s H E).env.cells.lookup x = some c → x = "__class__" ∧ c = cc := fun {x c} h => by
    have h' : List.lookup x [(("__class__" : Str), cc)] = some c := h
    by_cases q : x = "__class__"
    · subst q
      simp [List.lookup] at h'
      exact ⟨rfl, h'.symm⟩
    · have q' : (x == ("__class__" : Str)) = false := by simpa using q
      simp [List.lookup, q'] at h'
  have noA : ∀ b : Addr, b ∉ (sxc CX P w K mg base ps qual scope f cc cda A outer s H E).ex := fun b z => absurd (show b ∈ ([] : List Addr) from z) (by simp)
  refine ⟨⟨e0.mod, S.kind, rfl, rfl, Nat.le_refl _, fun x y c e1 e2 => ?_, fun y hy => ?_, fun y c z _ => ?_, fun _ => hd, Around.frames_deeper e0.frames, .inr ⟨rfl, rfl⟩, fun b z => absurd z (noA b), e0.bs, e0.bsz, fun b _ _ => noA b,
      fun b z => absurd z (noA b), e0.funs, e0.frf⟩,
    rfl, e0.bare, Un.kept kp, ⟨_, hns, fun i y v e1 e2 e3 => ?_⟩, fun y c e => ?_, e0.hok.fresh (Nat.le_refl _), fun y c e => ?_, fun q hq => absurd (show q ∈ ([] : List (Addr × Obj)) ++ [] from hq) (by simp), e0.hok.kept kp, ?_⟩
  · rw [(one e1).1, (one e2).1]
  · have hy : scope.names.lookup y = some .cell ∨ scope.names.lookup y = some .free := hy
    rcases hy with hy | hy
    · exact absurd rfl (S.nocell _ (PySem.mem_of_lookup hy))
    · have e : y = "__class__" := S.free _ (PySem.mem_of_lookup hy) rfl
      subst e
      exact ⟨cc, by show List.lookup _ [(("__class__" : Str), cc)] = _; simp [List.lookup]⟩
  · have z : false = true := z
    cases z
  · have e1 : ps[i]? = some y := e1
    have hi : i < vs.length := by
      unfold L2.start at e2
      by_cases hi : i < vs.length
      · exact hi
      · rw [List.getElem?_append_right (by simpa using hi), List.getElem?_replicate] at e2
        split at e2 <;> cases e2
    have ha : vs[i]? = some v := by
      unfold L2.start at e2
      rw [List.getElem?_append_left (by simpa using hi), List.getElem?_map] at e2
      cases e : vs[i]? with
      | none => rw [e] at e2; cases e2
      | some a => rw [e] at e2; cases e2; rfl
    obtain ⟨u, hu, rv⟩ := r.get ha
    exact ⟨u, rv, .inl ⟨S.par y (List.mem_of_getElem? e1), NdefX.zip_look S.nd e1 hu⟩⟩
  · obtain ⟨_, rfl⟩ := one e
    exact ⟨some (.ref C), ⟨_, kp _ _ ((e0.bs _ _ hb).1), rfl⟩⟩
  · obtain ⟨_, rfl⟩ := one e
    exact (e0.bs _ _ hb).2
  · unfold L2.start
    show _ = ps.length
    rw [List.length_append, List.length_map, List.length_replicate]
    omega
/-- a thing as it stands in the heap, tracked -/
def asIs (a : Addr) (o : Obj) : HO := .ext fun h => h.get? a = some o
theorem asIs_ok {H : Hp} {h : Heap} {a : Addr} {o : Obj} (e : h.get? a = some o) : ObjOk P w H h a (asIs a o) := ⟨e, ⟨o, e⟩, fun h1 h2 z k => k _ z⟩
theorem asIs_at {H : Hp} {h : Heap} {a : Addr} {o : Obj} (hok : HOk P w H h) (e : H a = some (asIs a o)) : h.get? a = some o := by
  have x : ObjOk P w H h a (.ext fun h => h.get? a = some o) := hok a _ e
  exact x.1
/-- THE RULE: def __init__(self, ..): super().__init__(e); rest -/
theorem fn_sup {sp : Sp} {e : Expr} {rest : List Stmt} {p0 p1 p2 p3 p4 : Pos} {pl : Sem Bool} {ar : Arg} (S : SupS ps scope) (hps : (params.posonlyargs ++ params.args).head? = some ar) (hp0 : ps.head? = some ar.arg)
    (T : SupC P K mg C f cc cda qual params (.Expr (.Call (.Attribute (.Call (.Name "super" p0) [] [] p1) "__init__" p2) [e] [] p3) p4 :: rest) scope)
    (len : ∀ vs H Q E, sp vs H Q E → vs.length = ps.length)
    (bind : ∀ fd (s : Shared) us, us.length = ps.length → (∃ oc od osl, K.lookup f = some ⟨oc, od, .func fd, osl⟩) → BindsTo s fd ⟨us, []⟩ (ps.zip us))
    (hstar : ∀ env, starEach [e] env = (false, eval e env) :: starEach [] env := by intro _; rfl)
    (hint : ∀ L a, interactive (ksEnv qual scope L a (.ref cda) cc) = false := by intro _ _; rfl)
    (hsw : ∀ L a, swapsWith (.Call (.Attribute (.Call (.Name "super" p0) [] [] p1) "__init__" p2) [e] [] p3) none p4.line (ksEnv qual scope L a (.ref cda) cc) = pure false := by intro _ _; rfl)
    (heval : ∀ env, eval (.Call (.Attribute (.Call (.Name "super" p0) [] [] p1) "__init__" p2) [e] [] p3) env = (do
      let ov ← attributeBase (.Call (.Name "super" p0) [] [] p1) "__init__" env (eval (.Call (.Name "super" p0) [] [] p1) env)
      standAt p2.atName
      let (f, first) ← holding [ov] (getMethod ov "__init__" pl)
      callWith p3 f first (backTo p3 (starEach [e] env)) []) := by intro _; rfl)
    (hbody : ∀ (A : Around) (outer : List Env) (s : Shared) (H : Hp) (vs : List V) (Q : VK) (E : XK), Room k (A.deeper (ksEnv qual scope s.heap.objs.size f (.ref cda) cc)) → sp vs H Q E →
      ∃ a ws te t, vs = .ref a :: ws ∧ H a = some (exo a C none) ∧ PE (sxc CX P w K mg base ps qual scope f cc cda A outer s H E) e te ∧ PSs (sxc CX P w K mg base ps qual scope f cc cda A outer s H E) rest t ∧
        (∀ H' (R : VK), Evl.Ex H H' → (∀ z, R (.str z) H') → te (L2.start ps vs) H' R) ∧ ∀ H', Evl.Ex H H' → t { nx := fun _ H' => Q .non H', rt := Q } (L2.start ps vs) H') :
    ∃ fd, (∃ oc od osl, K.lookup f = some ⟨oc, od, .func fd, osl⟩) ∧ FnOk P w K mg base CX (k + 1) f fd ps sp := by
  obtain ⟨oc, od, dV, kV, doc, pm, an, ct, osl, lk⟩ := T.fn
  refine ⟨_, ⟨oc, od, osl, lk⟩, ⟨len, fun A outer s H args us vs Q E hr e0 hb r hsp => ?_⟩⟩
  have hl := len _ _ _ _ hsp
  have KX : K.In s.heap := e0.mod.kin.keeps fun b o e => (e0.bs b o e).1
  have lim : s.heap.NoLimit := e0.mod.nolimit.keeps fun b o e => (e0.bs b o e).1
  refine ks_codeAny_call_defAt hr.depth (KX _ _ lk) rfl lim (codeRec_of KX T.cd) rfl hb S.nocell (fun y hy => S.par y.1 (List.of_mem_zip hy).1) (fun h₀ hns kp => ?_) S.co S.gen S.kind
  obtain ⟨a, ws, te, t, rfl, ha, he, hrest, hte, hq⟩ := hbody A outer s H vs Q E (hr.deeper _) hsp
  have I : Inv (sxc CX P w K mg base ps qual scope f cc cda A outer s H E) [] (L2.start ps (.ref a :: ws)) H { s with heap := h₀, toks := s.toks + (ps.zip us).length } := inv_startS S T hr.hd e0 hl r hns kp
  have fin : ∀ {σ' : L2.St} {H' : Hp} {v : V} {u : Value} {s' : Shared}, Inv (sxc CX P w K mg base ps qual scope f cc cda A outer s H E) [] σ' H' s' → RelV v u → Q v H' → CE outer P w H s Q u s' :=
    fun {σ' H' v u s'} J rv q => ⟨v, H', J.os, J.bare, J.base, J.hok, rv, q⟩
  -- self
  cases r with
  | @cons _ u0 _ ur ra rw' =>
  obtain rfl : u0 = Value.ref a := ra
  obtain ⟨p', pr, rfl⟩ : ∃ p' pr, ps = p' :: pr := by
    cases ps with
    | nil => simp at hl
    | cons p' pr => exact ⟨p', pr, rfl⟩
  have ep : p' = ar.arg := by simpa using hp0
  subst ep
  obtain ⟨ccl, cdd, cvs, ccs, file, tf, hcode, hvs, hfile⟩ := T.code
  obtain ⟨cl, cld, csl, hcell⟩ := T.cell
  obtain ⟨cd, hcls⟩ := T.cls
  have X₀ : K.In h₀ := KX.keeps kp
  obtain ⟨t1, hx⟩ := exo_at I.hok ha
  have IA : InstAt h₀ a { cls := .ref C, dict := none, data := .fields #[.ref t1, .none, .none, .none, .bool false, .none] } C none := ⟨hx, rfl, rfl, trivial⟩
  obtain ⟨oD, hD1, hD2⟩ : ∃ oD, h₀.get? C = some oD ∧ oD.data = .cls cd := by
    have hD := hcls
    unfold clsIn at hD
    split at hD
    · rename_i c d cd' sl ho
      cases hD
      exact ⟨_, X₀ _ _ ho, rfl⟩
    · cases hD
  have hself : (fun y => ((ar.arg :: pr).zip (Value.ref a :: ur)).reverse.lookup y) ar.arg = some (Value.ref a) := NdefX.zip_look S.nd (i := 0) rfl rfl
  refine ks_wpAt_execs_cons (ks_wpAt_Expr_any ?_ (hint _ _) (hsw _ _))
  refine ks_wpAt_MethodCall (pl := pl) ?_ (heval _)
  refine ks_wpAt_super_base (env := ksEnv qual scope s.heap.objs.size f (.ref cda) cc) S.hks S.hkc rfl rfl (X₀ _ _ lk) rfl hps rfl (X₀ _ _ hcode) rfl hvs hfile T.top ?_
  obtain ⟨mb, hb1, hb2⟩ := I.mod.blt
  refine ks_loadName_global S.kind S.hks (loadGlobal_builtin (env := ksEnv qual scope s.heap.objs.size f (.ref cda) cc) (I.mod.glob.keeps I.bk) T.sup (hb1.keeps I.bk) ((hb2 _ (by decide)).trans (by decide +kernel)) ⟨rfl, ?_⟩)
  refine wpAny_loadName_free S.kind S.hkc rfl ⟨_, X₀ _ _ hcell, rfl⟩ ?_
  refine wpAny_loadName_local S.kind (S.par _ (by simp)) hns hself ?_
  refine ks_wpAny_isType_cls hD1 hD2 ⟨rfl, ?_⟩
  refine ks_wpAny_call_super hD1 hD2 IA.at_ IA.cls (fun c e => ?_) (looks_mroIn X₀ T.sub) (fun h₁ hso k₁ => ?_)
  · have := IA.no
    unfold notCls at this
    rw [e] at this
    exact Bool.noConfusion this
  -- the bound __init__
  have X₁ : K.In h₁ := X₀.keeps k₁
  have hI : Looks (model P w) h₁ (isInstance (.ref a) (.type "ValueError")) true := (show InstAt h₁ a _ C none from ⟨k₁ _ _ hx, rfl, rfl, trivial⟩).type.andThen (looks_subIn X₁ T.ve)
  have sin := T.sin
  unfold ks_superIn at sin
  rw [hcls] at sin
  refine kxs_getMethod kxs_ValueError (so := h₀.objs.size) hso (looks_opaque X₁ T.ops) (l₀ := cd.mro) ?_ rfl X₁ sin hI (ks_ne X₀ IA hcls) rfl ?_
  · exact fun A Q E s k q => wpAny_bind ((looks_clsIn X₁ hcls) A _ E s k (wpAny_pure q))
  -- the arguments
  have lt0 : h₀.objs.size < h₁.objs.size := Heap.lt_size hso
  have k₂ : ∀ b o, h₀.get? b = some o → (h₁.push (kxs_mw "ValueError.__init__" a)).get? b = some o := fun b o e => Heap.get?_push_of_some _ (k₁ b o e)
  have hu : H h₁.objs.size = none := I.hok.fresh (Nat.le_of_lt lt0)
  have I2 : Inv (sxc CX P w K mg base (ar.arg :: pr) qual scope f cc cda A outer s H E) [] (L2.start (ar.arg :: pr) (.ref a :: ws)) (upd H h₁.objs.size (asIs h₁.objs.size (kxs_mw "ValueError.__init__" a)))
      { s with heap := h₁.push (kxs_mw "ValueError.__init__" a), toks := s.toks + ((ar.arg :: pr).zip (Value.ref a :: ur)).length + 1 } :=
    I.laid (a := h₁.objs.size) (o := asIs h₁.objs.size (kxs_mw "ValueError.__init__" a)) k₂ (Nat.le_of_lt lt0) (asIs_ok (Heap.get?_push_size _ rfl))
  have eH : Evl.Ex H (upd H h₁.objs.size (asIs h₁.objs.size (kxs_mw "ValueError.__init__" a))) := Evl.Ex.new hu
  have nau : a ≠ h₁.objs.size := fun z => by
    rw [← z, ha] at hu
    cases hu
  have ra := (pa_cons (hs := hstar _) he pa_nil).run p3 [] _ (L2.start (ar.arg :: pr) (.ref a :: ws)) (upd H h₁.objs.size (asIs h₁.objs.size (kxs_mw "ValueError.__init__" a))) (fun vs H1 => H1 = upd H h₁.objs.size (asIs h₁.objs.size (kxs_mw "ValueError.__init__" a)) ∧ vs.length = 1) I2
    (hte _ _ eH fun z => ⟨rfl, rfl⟩)
  dsimp only
  rw [hstar]
  refine kxs_callWith (i := "ValueError.__init__") (x := a) (by rfl) (evalArgs_plain ?_)
  rw [hstar] at ra
  refine wpAny_mono ra (fun us2 s3 ⟨vs3, H3, I3, rv3, e3, l3⟩ => ?_) fun _ _ x => x
  subst e3
  have hmw : s3.heap.get? h₁.objs.size = some (kxs_mw "ValueError.__init__" a) := asIs_at I3.hok upd_same
  refine ⟨hmw, ?_⟩
  have ha3 : (upd H h₁.objs.size (asIs h₁.objs.size (kxs_mw "ValueError.__init__" a))) a = some (exo a C none) := (upd_ne nau).trans ha
  obtain ⟨t3, hx3⟩ := exo_at I3.hok ha3
  obtain ⟨nm, q, N, bs, bm, sn, sub, ab, col, dd, k0, k1, k2, k3, k5, hC, hbm⟩ := T.ox.cls
  have hC3 := I3.kIn _ _ hC
  obtain ⟨hp3, g3, d3, tk3, os3⟩ := s3
  refine call_mw hC3 hx3 hmw (by
    show ([] ++ us2).length ≤ sizeLine
    rw [List.nil_append, ← Paired.length rv3, l3]
    decide) fun h4 t4 k4 e4 => ?_
  have J := I3.write (t' := tk3) (x := a) (e := a) (o := exo a C none) (by rw [ha3]; exact True.intro) (.inl rfl) k4 ⟨_, e4⟩ (exo_ok e4)
  have eu : upd (upd H h₁.objs.size (asIs h₁.objs.size (kxs_mw "ValueError.__init__" a))) a (exo a C none) = upd H h₁.objs.size (asIs h₁.objs.size (kxs_mw "ValueError.__init__" a)) := by
    funext y
    by_cases hy : y = a
    · rw [hy, upd_same, ha3]
    · rw [upd_ne hy]
  rw [eu] at J
  refine wpAt_of_wpAny ?_
  refine wpAny_mono (hrest.run [] _ _ _ _ J (hq _ eH)) (fun fl s' hs => ?_) fun e s' hs => hs
  cases fl with
  | ret u =>
    obtain ⟨v, σ', H', J, rv, q⟩ := hs
    exact fin J rv q
  | next =>
    obtain ⟨σ', H', J, q⟩ := hs
    exact fin (v := V.non) (u := Value.none) J rfl q
  | brk =>
    obtain ⟨_, _, _, q⟩ := hs
    exact False.elim q
  | cont =>
    obtain ⟨_, _, _, q⟩ := hs
    exact False.elim q
end
end LX
end
section
set_option Elab.async false
set_option linter.all false
set_option autoImplicit false
set_option maxRecDepth 100000
set_option maxHeartbeats 2000000
/-! == and != by an own __eq__, both answers -/
namespace LX
open PySem PySem.Spec PyProof.Rows L2 PySem.W PySem.Calls
section
variable {prog : Program} {w : World} {A : Around} {E : Value → Shared → Prop} {s : Shared} {K : Frag} {x C L f : Addr} {h₀ : Heap} {m : Str → Option Value} {ox : Obj} {od : Option Obj} {b tb : Value}
theorem objNe_K {Q : Fin → Shared → Prop} (X : K.In s.heap) (I : InstAt s.heap x ox C od) (he : findIn K (.ref C) "__eq__" = some (some (.ref f))) (hf : isFn K (.ref f) = true) (hu : A.units < cLine)
    (hcall : wpAny (model prog w) A (call (.ref f) [.ref x, b]) (fun v s' => ∃ k, v = .bool k ∧ Q (.done (.ret (.bool (!k)))) s') E s) :
    wpAny (model prog w) A (Builtin.«object.__ne__» ⟨[.ref x, b], []⟩) Q E s := by
  unfold Builtin.«object.__ne__»
  repeat (first
    | with_reducible refine wpAny_cRoomFor hu ?_
    | (refine wpAny_bind (m := callSpecialIfBound? (.ref x) (Str.ofString "__eq__") [b])
        (ifBound_K X I he hf (wpAny_mono hcall (fun r s' hr => by
          obtain ⟨k, rfl, hq⟩ := hr
          repeat (first | exact hq | exact wpAny_pure hq | exact wpAny_truthy_bool hq | (refine wpAny_bind (m := truthy (.bool _)) (wpAny_truthy_bool ?_)) | wp_step)) fun _ _ e => e)))
    | wp_step)
theorem ifBoundNe {args : List Value} {Q : Option Value → Shared → Prop} (X : K.In s.heap) (I : InstAt s.heap x ox C od) (hs : findIn K (.ref C) "__ne__" = some (some (.builtin "object.__ne__")))
    (h : wpAny (model prog w) A (call (.builtin "object.__ne__") (.ref x :: args)) (fun v => Q (some v)) E s) : wpAny (model prog w) A (callSpecialIfBound? (.ref x) "__ne__" args) Q E s := by
  simp only [callSpecialIfBound?, bindSpecialIfBound?]
  refine wpAny_holding (wpAny_bind (wpAny_bind (wpAny_bind (I.type.here ((looks_findIn X hs).here ?_)))))
  refine wpAny_bind (wpAny_askSetting (wpAny_ite ?_))
  have fin : wpAny (model prog w) A (call (.builtin "object.__ne__") ([.ref x] ++ args) >>= fun v => pure (some v)) Q E s := wpAny_bind (wpAny_mono h (fun v s' h' => wpAny_pure h') fun _ _ h' => h')
  split
  · exact wpAny_bind (wpAny_of_eq (F.cmp_object.ne.bind _) (wpAny_pure (by exact fin)))
  · exact wpAny_tryCatch (wpAny_bind (wpAny_of_eq (F.cmp_object.ne.bind _) (wpAny_pure (by exact fin))))
theorem cmpNe_K {Q : Value → Shared → Prop} (hu : A.units + 1 < cLine) (F₀ : Fr h₀ L s.heap m) (X₀ : K.In h₀) (I : InstAt s.heap x ox C od) (hb : Looks (model prog w) s.heap (typeOf b) tb) (hn : notFirst K C tb = true)
    (hs : findIn K (.ref C) "__ne__" = some (some (.builtin "object.__ne__"))) (he : findIn K (.ref C) "__eq__" = some (some (.ref f))) (hf : isFn K (.ref f) = true) (ho : mroIn K C (.type "object") = some true)
    (h : wpAny (model prog w) A.in1 (call (.ref f) [.ref x, b]) (fun v s' => ∃ k, v = .bool k ∧ Q (.bool (!k)) s') E s) : wpAny (model prog w) A (richCompare .NotEq (.ref x) b) Q E s := by
  have X := X₀.keeps F₀.keep
  have sub : Looks (model prog w) s.heap (isInstance (.ref x) (.type "object")) true := I.type.andThen (looks_mroIn X ho)
  have one : wpAny (model prog w) A (tryCompare (.ref x) "__ne__" b) (fun r s' => ∃ k, r = some (.bool k) ∧ Q (.bool k) s') E s := by
    unfold tryCompare
    refine wpAny_bind (ifBoundNe X I hs (wpAny_mono (Q := fun v s' => ∃ k, v = .bool k ∧ Q (.bool k) s') (E := E) (wpAny_call (codeAny_call_builtin F.cmp_object.ne.plain F.cmpEntry_ne
      (@W.check_slot (model prog w) _ _ s "object.__ne__" "object" "__ne__" (.ref x) [b] [] _ F.cmpKind_ne F.cmpSplit_ne sub (F.cmpArgs_ne _ _)
        (objNe_K (A := A.in1) X I he hf (by show A.units + 1 < cLine; exact hu) (wpAny_mono h (fun v s' hv => ?_) fun _ _ e => e))))) (fun v s' hv => ?_) fun _ _ e => e))
    · obtain ⟨k, rfl, hq⟩ := hv
      exact ⟨k, rfl, _, rfl, hq⟩
    · obtain ⟨k, rfl, hq⟩ := hv
      exact wpAny_pure ⟨_, rfl, hq⟩
  unfold richCompare
  simp only [oneThing_ref]
  refine wpAny_holding (wpAny_bind (wpAny_cRoomFor (by omega) ?_))
  refine wpAny_bind (I.type.here (wpAny_bind (hb.here ?_)))
  split
  · rename_i q
    have e : subIn K tb (.ref C) = some false := by
      rcases Bool.or_eq_true_iff.mp hn with e | e
      · rw [beq_iff_eq.mp e] at q; simp at q
      · exact beq_iff_eq.mp e
    refine wpAny_bind ((looks_subIn X e).here ?_)
    simp only [Bool.false_eq_true, if_false]
    refine wpAny_bind (wpAny_mono one (fun r s' z => ?_) fun _ _ e => e)
    obtain ⟨v, rfl, hq⟩ := z
    exact wpAny_pure hq
  · refine wpAny_bind (wpAny_pure ?_)
    simp only [Bool.false_eq_true, if_false]
    refine wpAny_bind (wpAny_mono one (fun r s' z => ?_) fun _ _ e => e)
    obtain ⟨v, rfl, hq⟩ := z
    exact wpAny_pure hq
end
/-- a value's class, looked at -/
theorem ty_looks {X : Cx} {pins : List (Addr × Obj)} {σ : L2.St} {H : Hp} {s : Shared} {y : V} {u t : Value} (I : L2.Inv X pins σ H s) (r : L2.RelV y u) (ty : TyX X.K H y t) : Looks (model X.prog X.w) s.heap (typeOf u) t := by
  have ofRef : ∀ {a : Addr} {o : Obj} {c : Value}, s.heap.get? a = some o → o.cls = c → Looks (model X.prog X.w) s.heap (typeOf (.ref a)) c := fun {a o c} e k A Q E s' kk q => wpAny_typeOf_ref (kk _ _ e) (by rw [k]; exact q)
  have ofEq : ∀ {v c : Value}, typeOf v = pure c → Looks (model X.prog X.w) s.heap (typeOf v) c := fun {v c} e A Q E s' kk q => wpAny_of_eq e q
  cases ty with
  | base b =>
    cases b with
    | non => cases (show u = Value.none from r); exact ofEq (by kernel_rfl)
    | bl y => cases (show u = Value.bool y from r); exact ofEq (by rfl)
    | int i => obtain ⟨t, q⟩ := (show ∃ t, u = Value.int i t from r); cases q; exact ofEq (by rfl)
    | str y => obtain ⟨t, q⟩ := (show ∃ t, u = Value.str y t from r); cases q; exact ofEq (by rfl)
    | flt y => obtain ⟨t, q⟩ := (show ∃ t, u = Value.float y t from r); cases q; exact ofEq (by rfl)
    | @lst a xs ea =>
      cases (show u = Value.ref a from r)
      obtain ⟨_, _, n, _, h1⟩ := (show ObjOk X.prog X.w H s.heap a (.lst xs) from I.hok a _ ea)
      exact ofRef h1 rfl
    | @frz a ob xs ea =>
      cases (show u = Value.ref a from r)
      obtain ⟨_, _, _, n, _, h1⟩ := (show ObjOk X.prog X.w H s.heap a (.frz ob (.lst xs)) from I.hok a _ ea)
      exact ofRef h1 rfl
    | @tup a xs ea =>
      cases (show u = Value.ref a from r)
      obtain ⟨_, _, _, o, h1, h2, _⟩ := (show ObjOk X.prog X.w H s.heap a (.tup xs) from I.hok a _ ea)
      exact ofRef h1 h2
    | @dK a kvs ea =>
      cases (show u = Value.ref a from r)
      obtain ⟨_, _, vs, _, o, es, ep, h1, h2, _⟩ := (show ObjOk X.prog X.w H s.heap a (.dK kvs) from I.hok a _ ea)
      exact ofRef h1 h2.1
    | @dT a kvs ea =>
      cases (show u = Value.ref a from r)
      obtain ⟨_, _, xs, _, o, es, ep, h1, h2, _⟩ := (show ObjOk X.prog X.w H s.heap a (.dT kvs) from I.hok a _ ea)
      exact ofRef h1 h2.1
    | @ins a C dx fs ea cl ha hn htk hm =>
      cases (show u = Value.ref a from r)
      obtain ⟨mA, O, _⟩ := ins_get I.hok ea
      obtain ⟨od, J, _⟩ := O.look
      exact J.type
  | byt y => obtain ⟨t, q⟩ := (show ∃ t, u = Value.bytes y t from r); cases q; exact ofEq (by rfl)
  | @set a S n ea =>
    cases (show u = Value.ref a from r)
    obtain ⟨o, _, _, _, e, ex, _⟩ := I.hok a _ ea
    exact ofRef e ex.1
  | @kList a o e c =>
    cases (show u = Value.ref a from r)
    exact ofRef (I.kIn a o e) c
  | @kTuple a o e c =>
    cases (show u = Value.ref a from r)
    exact ofRef (I.kIn a o e) c
  | @kDict a o e c =>
    cases (show u = Value.ref a from r)
    exact ofRef (I.kIn a o e) c
  | @fTuple a ob xs ea =>
    cases (show u = Value.ref a from r)
    obtain ⟨_, _, _, _, o, h1, h2, _⟩ := (show ObjOk X.prog X.w H s.heap a (.frz ob (.tup xs)) from I.hok a _ ea)
    exact ofRef h1 h2
  | @fDict a ob kvs ea =>
    cases (show u = Value.ref a from r)
    obtain ⟨_, _, _, vs, _, o, es, ep, h1, h2, _⟩ := (show ObjOk X.prog X.w H s.heap a (.frz ob (.dK kvs)) from I.hok a _ ea)
    exact ofRef h1 h2.1
/-- an own class with an own __eq__, and no own __ne__ -/
structure EqC (K : Frag) (C f : Addr) : Prop where
  eq : findIn K (.ref C) "__eq__" = some (some (.ref f))
  fn : isFn K (.ref f) = true
  ne : findIn K (.ref C) "__ne__" = some (some (.builtin "object.__ne__"))
  ob : mroIn K C (.type "object") = some true
/-- x == y, x an instance of C -/
def rEqI (K : Frag) (C : Addr) (sp : Sp) : R2 := fun x y H Q => ∃ a dx fs t, x = .ref a ∧ H a = some (.ins C dx fs) ∧ TyX K H y t ∧ notFirst K C t = true ∧ sp [x, y] H (fun v H' => ∃ k, v = .bl k ∧ Q (.bl k) H') E0
def rNeI (K : Frag) (C : Addr) (sp : Sp) : R2 := fun x y H Q => ∃ a dx fs t, x = .ref a ∧ H a = some (.ins C dx fs) ∧ TyX K H y t ∧ notFirst K C t = true ∧ sp [x, y] H (fun v H' => ∃ k, v = .bl k ∧ Q (.bl (!k)) H') E0
section
variable {X : Cx} {n : Nat} {C f : Addr} {fd : FuncData} {ps : List Str} {sp : Sp}
theorem op_eqI (F : FnOk X.prog X.w X.K X.mg X.base (L2.CX X.prog X.w) n f fd ps sp) (T : EqC X.K C f) (hb : Binds X.K fd ps []) (hr : Room n X.A) : OpR X (compareOp .Eq) (rEqI X.K C sp) := by
  intro pins s σ H x y v u Q I rx ry hq
  obtain ⟨a, dx, fs, t, rfl, ha, ty, hn, hsp⟩ := hq
  cases rx
  obtain ⟨mA, J, _⟩ := ins_get I.hok ha
  obtain ⟨od, J, _⟩ := J.look
  obtain ⟨m, hF⟩ := I.fr
  unfold compareOp
  refine cmp_K (op := .Eq) (tb := t) hr.units0 hF I.ok.mod.kin J (ty_looks I ry ty) hn T.eq T.fn ?_
  have r := run_fn (dvs := []) (ds := []) (E := E0) F hr hb .nil passL I (us := [.ref a, u]) (vs := [.ref a, y]) (.cons rfl (.cons ry .nil)) hsp
  refine wpAny_mono r (fun v' s' ⟨z, H', J', rz, k, ez, q⟩ => ?_) fun _ _ e => e
  subst ez
  cases (show v' = Value.bool k from rz)
  exact ⟨.bl k, H', J', rfl, q⟩
theorem op_neI (F : FnOk X.prog X.w X.K X.mg X.base (L2.CX X.prog X.w) n f fd ps sp) (T : EqC X.K C f) (hb : Binds X.K fd ps []) (hr : Room (n + 1) X.A) : OpR X (compareOp .NotEq) (rNeI X.K C sp) := by
  intro pins s σ H x y v u Q I rx ry hq
  obtain ⟨a, dx, fs, t, rfl, ha, ty, hn, hsp⟩ := hq
  cases rx
  obtain ⟨mA, J, _⟩ := ins_get I.hok ha
  obtain ⟨od, J, _⟩ := J.look
  obtain ⟨m, hF⟩ := I.fr
  have sb : L2.Sub X n X.A.in1 := Sub.in1 ⟨hr, by rw [I.ok.frames]⟩
  unfold compareOp
  refine cmpNe_K (tb := t) (by have := hr.units0; have := sb.room.units0; exact this) hF I.ok.mod.kin J (ty_looks I ry ty) hn T.ne T.eq T.fn T.ob ?_
  have e0 : Env0 X.prog X.w X.K X.mg X.base X.A.in1 X.stack s H := by
    have e := I.env0
    exact ⟨by rw [sb.fr]; exact e.frames, e.mod, e.bs, e.bsz, e.funs, e.frf, e.hok, e.bare⟩
  have hl := F.len _ _ _ _ hsp
  have r2 : Vals [V.ref a, y] [Value.ref a, u] := .cons rfl (.cons ry .nil)
  refine wpAny_call (codeAny_mono (F.run X.A.in1 X.stack s H ⟨[.ref a, u], []⟩ [.ref a, u] [.ref a, y] _ E0 sb.room e0 (by
    have := hb s [.ref a, u] I.kIn (by simpa using hl)
    simpa using this) r2 hsp) fun r s' hq => ?_)
  cases r with
  | error e => exact passL pins σ H s e s' I hq
  | ok fl =>
    cases fl with
    | ret w =>
      obtain ⟨z, H', I', rz, k, ez, q⟩ := I.after hq
      subst ez
      cases (show w = Value.bool k from rz)
      exact ⟨k, rfl, .bl (!k), H', I', rfl, q⟩
    | next => exact False.elim hq
    | brk => exact False.elim hq
    | cont => exact False.elim hq
end
end LX
end
section
set_option Elab.async false
set_option linter.all false
set_option autoImplicit false
set_option maxRecDepth 100000
set_option maxHeartbeats 2000000
/-! defs that ask repr: called where no repr is under way -/
namespace LX
open PySem PySem.Spec PyProof.Rows L2 PySem.W PySem.Calls
/-- as FnOk, where no repr runs around the call -/
structure FnG (P : Program) (w : World) (K : Frag) (mg : Str → Option Value) (base : Heap) (CX : CXT) (k : Nat) (f : Addr) (fd : FuncData) (ps : List Str) (sp : Sp) : Prop where
  len : ∀ vs H Q E, sp vs H Q E → vs.length = ps.length
  run : ∀ (A : Around), A.guards = some [] → ∀ (outer : List Env) (s : Shared) (H : Hp) (args : Args) (us : List Value) (vs : List V) (Q : VK) (E : XK), Room k A → Env0 P w K mg base A outer s H → BindsTo s fd args (ps.zip us) → Vals vs us → sp vs H Q E →
    codeAny (model P w) A (.call (.ref f) args) (CR CX outer P w H s Q E) s
section
variable {P : Program} {w : World} {K : Frag} {mg : Str → Option Value} {base : Heap} {CX : CXT} {k : Nat}
theorem FnG.of {f : Addr} {fd : FuncData} {ps : List Str} {sp : Sp} (F : FnOk P w K mg base CX k f fd ps sp) : FnG P w K mg base CX k f fd ps sp := ⟨F.len, fun A _ => F.run A⟩
theorem fnG_of {f : Addr} {name qual : Str} {params : Arguments} {body : List Stmt} {scope : Scope} {dV kV doc pm cdv ct oc : Value} {an od : Option Addr} {osl : Array (Option Value)} {N ps : List Str} {sp : Sp}
    (lk : K.lookup f = some ⟨oc, od, .func (fnOf name qual params body scope dV kV doc pm an cdv ct), osl⟩) (hcd : codeIn K cdv qual = true) (S : FnScope N ps scope) (len : ∀ vs H Q E, sp vs H Q E → vs.length = ps.length)
    (hbody : ∀ (A : Around), A.guards = some [] → ∀ (outer : List Env) (s : Shared) (H : Hp) (vs : List V) (Q : VK) (E : XK), Room k (A.deeper (envOfC qual scope s.heap.objs.size f cdv)) → sp vs H Q E →
      ∃ t, PSs (cxOf CX P w K mg base N qual scope f cdv A outer s H E) body t ∧ t { nx := fun _ H' => Q .non H', rt := Q } (L2.start N vs) H) :
    FnG P w K mg base CX (k + 1) f (fnOf name qual params body scope dV kV doc pm an cdv ct) ps sp := by
  refine ⟨len, fun A hg outer s H args us vs Q E hr e0 hb r hsp => ?_⟩
  have hin : K.In s.heap := e0.mod.kin.keeps fun b o e => (e0.bs b o e).1
  have hno : s.heap.NoLimit := e0.mod.nolimit.keeps fun b o e => (e0.bs b o e).1
  have par : ∀ y ∈ ps.zip us, scope.names.lookup y.1 = some .local ∨ (scope.names.lookup y.1 = some .cell ∧ ((cellsFrom (s.heap.objs.size + 1) scope.names []).lookup y.1).isSome = true) := fun y hy =>
    (S.par y.1 (List.of_mem_zip (show (y.1, y.2) ∈ ps.zip us from hy)).1).imp id fun q => ⟨q, cellsFrom_some _ _ _ (.inl q)⟩
  refine codeAny_call_function hr.depth (hin _ _ lk) rfl S.co S.gen rfl (codeRec_of hin hcd) (hb _ _ _ _ (wpAny_newFunctionEnv_cells S.kind par fun env he s1 x => ?_))
  subst he
  obtain ⟨t, ht, hq⟩ := hbody A hg outer s H vs Q E (hr.deeper _) hsp
  have I : L2.Inv (cxOf CX P w K mg base N qual scope f cdv A outer s H E) [] (L2.start N vs) H s1 := inv_start S hr.hd e0 (len _ _ _ _ hsp) r x
  refine ⟨hno.keeps x.toInCall.keep, codeAny_func (wpAny_mono (ht.run [] s1 (L2.start N vs) H _ I hq) (fun fl s' hs => ?_) fun e s' hs => hs)⟩
  match fl, hs with
  | .ret u, ⟨v, σ', H', J, rv, q⟩ => exact ⟨v, H', J.os, J.bare, J.base, J.hok, rv, q⟩
  | .next, ⟨σ', H', J, q⟩ => exact ⟨.non, H', J.os, J.bare, J.base, J.hok, rfl, q⟩
  | .brk, ⟨_, _, _, q⟩ => exact q.elim
  | .cont, ⟨_, _, _, q⟩ => exact q.elim
end
section
variable {X : Cx} {CX : CXT} {k : Nat} {f : Addr} {fd : FuncData} {ps : List Str} {sp : Sp} {dvs : List V} {ds : List Value} {E : XK} {x : Str} {p pos : Pos} {e : Expr} {es : List Expr} {t : TA}
theorem pe_callG (hgu : X.A.guards = some []) (F : FnG X.prog X.w X.K X.mg X.base CX k f fd ps sp) (hr : Room k X.A) (hg : Gl X x) (hm : X.mg x = some (.ref f)) (hk : keepIn X.K (.ref f) = true) (hb : Binds X.K fd ps ds) (hd : Vals dvs ds) (hx : Passes CX X E)
    (ha : PA X (e :: es) t) (hdb : (x == ("__debug__" : Str)) = false := by decide) (he : starEach (e :: es) X.env = (false, eval e X.env) :: starEach es X.env := by rfl) (hpl : (backTo pos (starEach es X.env)).any (·.1) = false := by rfl) :
    PE X (.Call (.Name x p) (e :: es) [] pos) (tCall sp dvs E t) := ⟨fun pins s σ H Q I h => by
  refine wpAny_Call_Name_kw (ld_glob I hg hm (callWith_K (h₀ := X.base) I.ok.mod.kin hk (thn (ha.run pos pins s σ H _ I h) fun us s1 hq => ?_) he hpl) hdb)
  obtain ⟨vs, H1, I1, r, q⟩ := hq
  refine ⟨I1.kIn, wpAny_call (codeAny_mono (F.run X.A hgu X.stack s1 H1 ⟨us, []⟩ (us ++ ds) (vs ++ dvs) Q E hr I1.env0 (hb s1 us I1.kIn ?_) (r.append hd) q) fun z s' hq => ?_)⟩
  · rw [← F.len _ _ _ _ q]
    exact (r.append hd).length.symm
  · match z, hq with
    | .error e, hq => exact hx pins σ H1 s1 e s' I1 hq
    | .ok (.ret u), hq => exact I1.after hq
    | .ok .next, hq => exact hq.elim
    | .ok .brk, hq => exact hq.elim
    | .ok .cont, hq => exact hq.elim⟩
/-- repr of data -/
def rRepr (K : Frag) : List V → Hp → VK → Prop := fun xs H Q => ∃ x d, xs = [x] ∧ Dp K H x d ∧ d.showable = true ∧ d.hasDict = false ∧ d.depth ≤ 60 ∧ d.shown.length ≤ sizeLine ∧ (∃ a, x = .ref a) ∧ Q (.str d.shown) H
theorem call_repr (hgu : X.A.guards = some []) (hu : X.A.units + 64 < cLine) : CallR X (.builtin "repr") (rRepr X.K) := by
  intro pins s σ H xs us Q I r h
  obtain ⟨x, d, rfl, hd, hs, hn, hz, hl, ⟨a, rfl⟩, q⟩ := h
  obtain ⟨u, rfl, ru⟩ := vals1 r
  obtain ⟨as, rd⟩ := Dp.reads I d _ _ hd ru
  cases (show u = Value.ref a from ru)
  refine repr_of_reads' rd hs (PyData.noDict_hsm hn) hgu (by omega) (fun _ _ e => e) (fun h' t tk hk => ?_) hl
  exact ⟨.str d.shown, H, I.kept (t' := tk) hk, ⟨t, rfl⟩, q⟩
end
/-- the law's def is called, at the heap behind the top -/
theorem law_callG {P : Program} {w : World} {K : Frag} {mg mb : Str → Option Value} {CX : CXT} {k : Nat} {fa a : Addr} {fd : FuncData} {x : Str} {sp : Sp} {s₁ : Shared} {vs : List Value} {ns : List Int}
    (KX : K.In s₁.heap) (hns : s₁.heap.Ns mainGlobals mg) (hb : s₁.heap.Ns builtinsNs mb) (hbb : ∀ x : Str, x ≠ "__name__" → mb x = bootBuiltins x) (hlim : s₁.heap.NoLimit) (hg : s₁.gens = #[])
    (ha : s₁.heap.get? a = some { cls := .type "list", data := .seq vs.toArray }) (hi : IntsAre vs ns) (hl : ns.length ≤ sizeLine) (hr : Room k callerA)
    (F : ∀ base : Heap, K.In base → base.Ns mainGlobals mg → FnG P w K mg base CX k fa fd [x] sp) (hbind : ∀ (s : Shared) (u : Value), BindsTo s fd ⟨[u], []⟩ [(x, u)])
    (hsp : ∀ H : Hp, Only H → SqL K H a (ns.map V.int) → sp [.ref a] H (fun v _ => v = .bl true) fun _ _ _ => False) (hCX : ∀ H e s', CX [] H s₁ (fun _ _ _ => False) e s' → False) :
    codeAny (model P w) callerA (.call (.ref fa) ⟨[.ref a], []⟩) (fun r s' => r = .ok (.ret (.bool true)) ∧ OldK s₁.heap s'.heap ∧ s'.os = s₁.os ∧ AllBare s'.gens) s₁ := by
  have len := hi.length
  have rv : Vals (ns.map V.int) vs := vals_ints hi
  -- the abstract heap: the script, locked, if it is not of the written part
  obtain ⟨H, hO, hS, hok, hA⟩ : ∃ H : Hp, Only H ∧ SqL K H a (ns.map V.int) ∧ HOk P w H s₁.heap ∧ ∀ b, H b ≠ none → b = a ∧ K.lookup a = none := by
    cases hk : K.lookup a with
    | some o =>
      have e := (KX a o hk).symm.trans ha
      cases e
      exact ⟨fun _ => none, fun _ => .inl rfl, .inr ⟨_, vs.toArray, _, hk, rfl, rfl, rfl, by rw [List.size_toArray, len]; exact hl, by simpa using rv⟩, fun b u z => (nomatch (show (none : Option HO) = some u from z)), fun b z => absurd rfl z⟩
    | none =>
      let H : Hp := fun b => if b = a then some (.frz { cls := .type "list", data := .seq vs.toArray } (.lst (ns.map V.int))) else none
      have at_a : H a = some (.frz { cls := .type "list", data := .seq vs.toArray } (.lst (ns.map V.int))) := if_pos rfl
      have off : ∀ b, b ≠ a → H b = none := fun b n => if_neg n
      refine ⟨H, fun b => ?_, .inl (.inr ⟨_, at_a⟩), fun b u z => ?_, fun b z => ⟨Classical.byContradiction fun n => z (off b n), rfl⟩⟩
      · by_cases q : b = a
        · exact .inr ⟨_, _, q ▸ at_a⟩
        · exact .inl (off b q)
      · by_cases q : b = a
        · subst q
          cases Option.some.inj (at_a.symm.trans z)
          exact ⟨ha, by rw [List.length_map]; exact hl, vs, _, rv, ha⟩
        · rw [off b q] at z
          cases z
  have out : ∀ {b : Addr} {o : Obj} {u : HO}, s₁.heap.get? b = some o → H b = some u → o = { cls := .type "list", data := .seq vs.toArray } := fun {b o u} e q => by
    have z := (hA b (by rw [q]; exact fun y => nomatch y)).1
    rw [z, ha] at e
    exact (Option.some.inj e).symm
  have lift : ∀ {b : Addr} {m : Str → Option Value}, s₁.heap.Ns b m → (hidT s₁.heap H).Ns b m := fun {b m} ⟨o, es, ep, e, d, r⟩ => by
    refine ⟨o, es, ep, hidT_get e ?_, d, r⟩
    cases q : H b with
    | none => rfl
    | some u =>
      rw [out e q] at d
      cases d
  have hKb : K.In (hidT s₁.heap H) := fun b o e => hidT_get (KX b o e) (by
    cases q : H b with
    | none => rfl
    | some u =>
      obtain ⟨z1, z2⟩ := hA b (by rw [q]; exact fun y => nomatch y)
      rw [z1, z2] at e
      cases e)
  have e0 : Env0 P w K mg (hidT s₁.heap H) callerA [] s₁ H :=
    ⟨rfl, ⟨hKb, lift hns, ⟨mb, lift hb, hbb⟩, let ⟨mc, h1, h2⟩ := hlim; ⟨mc, lift h1, h2⟩⟩, fun b o e => of_hidT e, Nat.le_of_eq (hidT_size _ _), trivial, fun b hb => absurd (show b ∈ ([] : List Addr) from hb) (by simp), hok, .of_eq hg⟩
  refine codeAny_mono ((F _ hKb (lift hns)).run callerA rfl [] s₁ H ⟨[.ref a], []⟩ [.ref a] [.ref a] _ _ hr e0 (hbind s₁ (.ref a)) (.cons rfl .nil) (hsp H hO hS)) fun r s' h => ?_
  match r, h with
  | .error e, h => exact (hCX H e s' h).elim
  | .ok .next, h => exact h.elim
  | .ok .brk, h => exact h.elim
  | .ok .cont, h => exact h.elim
  | .ok (.ret u), ⟨v, H', os, bare, un, hok', r', q⟩ =>
    have q' : v = .bl true := q
    subst q'
    cases (show u = Value.bool true from r')
    refine ⟨rfl, OldK.of_keep fun b o e => ?_, os, bare⟩
    cases z : H b with
    | none => exact un.keep b o e z (fun y => absurd (show b ∈ ([] : List Addr) from y) (by simp)) (by simp)
    | some u =>
      rcases hO b with y | ⟨ob, xs, y⟩
      · rw [z] at y
        cases y
      · have old := (hok b _ y).1
        have new := (hok' b _ (un.frzs b ob _ y)).1
        exact new.trans (old.symm.trans e)
theorem walk_G {l : OpenLaw} {n k : Nat} {q : Program} {loose : List Str} {XP : (Str → Option Value) → Heap → Prop} {YP : World → Heap → Prop} {d : DefRec} {K : Params → Frag} {CX : World → CXT} {sp : World → Sp} {x : Str}
    (hn : l.most = some n) (hn2 : n ≤ sizeLine) (hdf : d.params.defaults = []) (hr : Room k callerA) (hY : ∀ (w : World) (h : Heap), YP w h → (K w.params).In h)
    (F : ∀ (w : World) (mg : Str → Option Value) (fa : Addr) (h : Heap), (K w.params).In h → h.Ns mainGlobals mg → mg d.name = some (.ref fa) →
      ∃ fd : FuncData, (∀ (s : Shared) (u : Value), BindsTo s fd ⟨[u], []⟩ [(x, u)]) ∧ ∀ base : Heap, (K w.params).In base → base.Ns mainGlobals mg → FnG l.prog w (K w.params) mg base (CX w) k fa fd [x] (sp w))
    (hsp : ∀ (w : World) (H : Hp) (a : Addr) (ns : List Int), ns.length ≤ n → (∀ z ∈ ns, Builtin.Int.intBits z ≤ 1048576) → Only H → SqL (K w.params) H a (ns.map V.int) → sp w [.ref a] H (fun v _ => v = .bl true) fun _ _ _ => False)
    (hCX : ∀ (w : World) (H : Hp) (s : Shared) (e : Value) (s' : Shared), CX w [] H s (fun _ _ _ => False) e s' → False) : WalkO q loose XP YP l.row.toRowW d [] (fun f vs => PySem.call f vs) := by
  refine Att.attach_callB hn hdf fun w s₀ s₁ mg mb fa o pm cd doc a vs ns G Y ho hd hcd hmg hobj hints hlen hbits hg => ?_
  obtain ⟨fd, hb, hF⟩ := F w mg fa _ (hY w _ Y) G.T.g hmg
  exact law_callG (hY w _ Y) G.T.g G.T.b G.T.builtins G.T.nolimit hg hobj hints (Nat.le_trans hlen hn2) hr hF hb (fun H hO hS => hsp w H a ns hlen hbits hO hS) fun H e s' => hCX w H s₁ e s'
end LX
end
section
set_option Elab.async false
set_option linter.all false
set_option autoImplicit false
set_option maxRecDepth 100000
set_option maxHeartbeats 1000000
namespace Lo
open PySem PySem.Spec PyProof.Rows L2 Evl

/-! ### operators that serve several kinds -/
def rAddA : R2 := fun x y H Q => (rI0 fun i j => .int (i + j)) x y H Q ∨ rAddStr x y H Q ∨ rCat x y H Q
theorem op_addA {X : Cx} : OpR X (binaryOp .Add) rAddA := OpR.or op_add (OpR.or op_addStr op_cat)
def rLeA : R2 := fun x y H Q => (rI0 fun i j => .bl (decide (i ≤ j))) x y H Q ∨ rLeStr x y H Q
theorem op_leA {X : Cx} : OpR X (compareOp .LtE) rLeA := OpR.or op_le op_leStr
def rMulA : R2 := rI CMulW fun i j => .int (i * j)
theorem op_mulA {X : Cx} : OpR X (binaryOp .Mult) rMulA := op_mulW
def rEqA (K : PySem.W.Frag) (C : Addr) (sp : Sp) : R2 := fun x y H Q => rEqD K x y H Q ∨ LX.rEqI K C sp x y H Q
def rNeA (K : PySem.W.Frag) (C : Addr) (sp : Sp) : R2 := fun x y H Q => rNeD K x y H Q ∨ LX.rNeI K C sp x y H Q
theorem op_eqA {X : Cx} {C : Addr} {sp : Sp} (hu : X.A.units + 64 < cLine) (h : OpR X (compareOp .Eq) (LX.rEqI X.K C sp)) : OpR X (compareOp .Eq) (rEqA X.K C sp) := OpR.or (op_eqD hu) h
theorem op_neA {X : Cx} {C : Addr} {sp : Sp} (hu : X.A.units + 64 < cLine) (h : OpR X (compareOp .NotEq) (LX.rNeI X.K C sp)) : OpR X (compareOp .NotEq) (rNeA X.K C sp) := OpR.or (op_neD hu) h
section
variable {T : Tb} {b : Bd} {own : List OW} {ds : List (Option SV)} {P : PSv}
theorem wr_addI {i j : Int} (p : P (.d (.int (i + j))) own) : WR T b rAddA own (.d (.int i)) (.d (.int j)) P := fun W vx vy ha rx ry Q q => .inl (wr_I0 (P := P) (g := fun i j => i + j) p W vx vy ha rx ry Q q)
theorem wr_addS {x y : PySem.Str} (l : x.length + y.length ≤ 100000) (p : P (.d (.str (x ++ y))) own) : WR T b rAddA own (.d (.str x)) (.d (.str y)) P := fun W vx vy ha rx ry Q q => .inr (.inl (wr_addStr l p W vx vy ha rx ry Q q))
theorem wr_addL {x y : SV} {xs ys : List D} (hx : Thw own x (.lst xs)) (hy : Thw own y (.lst ys)) (nx : ∀ k, x ≠ .p k) (ny : ∀ k, y ≠ .p k) (l : xs.length + ys.length ≤ 100000) (p : P (.d (.lst (xs ++ ys))) own) : WR T b rAddA own x y P := fun W vx vy ha rx ry Q q => by
  cases hx with
  | p e a => exact absurd rfl (nx _)
  | d =>
    cases hy with
    | p e a => exact absurd rfl (ny _)
    | d =>
      obtain ⟨a, vs, rfl, hs, r⟩ := rx
      obtain ⟨c, ws, rfl, hs2, r2⟩ := ry
      refine .inr (.inr ⟨a, c, vs, ws, rfl, rfl, ha.gh _ _ hs, ha.gh _ _ hs2, sz_of (by rw [r.len, r2.len]; exact l), fun t ht => ?_⟩)
      obtain ⟨ha2, l2⟩ := ha.alloc (o := .lst (vs ++ ws)) ht
      exact q _ (.d (.lst (xs ++ ys))) own _ ha2 l2 ⟨t, _, rfl, upd_same, RepL.mono l2.g (repL_app r r2)⟩ p
theorem wr_leI {i j : Int} (p : P (.d (.bl (decide (i ≤ j)))) own) : WR T b rLeA own (.d (.int i)) (.d (.int j)) P := fun W vx vy ha rx ry Q q => .inl (wr_B0 (P := P) (g := fun i j => decide (i ≤ j)) p W vx vy ha rx ry Q q)
theorem wr_leS {x y : PySem.Str} (p : P (.d (.bl (!decide (y.cps.toList < x.cps.toList)))) own) : WR T b rLeA own (.d (.str x)) (.d (.str y)) P := fun W vx vy ha rx ry Q q => .inr (wr_leStr p W vx vy ha rx ry Q q)
theorem wr_mul {i j : Int} (c : CMulW i j) (p : P (.d (.int (i * j))) own) : WR T b rMulA own (.d (.int i)) (.d (.int j)) P := wr_I (g := fun i j => i * j) c p
theorem wr_eqL {C : Addr} {sp : Sp} {x y : SV} {dx dy : D} (tx : Thw own x dx) (ty : Thw own y dy) (fx : dx.okd = true) (fy : dy.okd = true) (p : P (.d (.bl (dx.eqv dy))) own) : WR T b (rEqA T.K C sp) own x y P := fun W vx vy ha rx ry Q q => .inl (wr_eqD tx ty fx fy p W vx vy ha rx ry Q q)
theorem wr_neL {C : Addr} {sp : Sp} {x y : SV} {dx dy : D} (tx : Thw own x dx) (ty : Thw own y dy) (fx : dx.okd = true) (fy : dy.okd = true) (p : P (.d (.bl (!dx.eqv dy))) own) : WR T b (rNeA T.K C sp) own x y P := fun W vx vy ha rx ry Q q => .inl (wr_neD tx ty fx fy p W vx vy ha rx ry Q q)
/-- a value's class, for == -/
def TyO (T : Tb) (C : Addr) (y : D) : Prop := (y.isO = false ∧ PySem.W.notFirst T.K C (.type y.tyN) = true) ∨ (∃ c fs, y = .obj c fs ∧ T.cls c = C ∧ Cls T.K C ∧ PySem.W.findIn T.K (.ref C) "__class__" = some (some (.builtin "object.__class__")) ∧ PySem.W.specialIn T.K (.builtin "object.__class__") "__get__" = some (some (.builtin "getset_descriptor.__get__")) ∧ PySem.W.takesIn T.K (.builtin "object.__class__") = some true ∧ PySem.W.mroIn T.K C (.type "object") = some true)
theorem TyO.get {C : Addr} {y : D} {H : Hp} {v : V} (h : TyO T C y) (r : Rep T H y v) : ∃ t, TyX T.K H v t ∧ PySem.W.notFirst T.K C t = true := by
  rcases h with ⟨n, f⟩ | ⟨c, fs, rfl, rfl, cl, ha, hn, ht, hm⟩
  · exact ⟨_, Rep.tyx n r, f⟩
  · obtain ⟨a, dx, gs, rfl, ho, _⟩ := r
    refine ⟨_, .base (.ins ho cl ha hn ht hm), ?_⟩
    unfold PySem.W.notFirst
    simp
theorem wr_eqO {C : Addr} {F : DF} {y : D} {c : Nat} {fs : List D} (hC : T.cls c = C) (ty : TyO T C y) (f : F [.obj c fs, y] (fun d => ∃ k, d = .bl k ∧ P (.d (.bl k)) own) (fun _ => False)) (mon : ∀ {xs R R' Y Y'}, F xs R Y → (∀ d, R d → R' d) → (∀ e, Y e → Y' e) → F xs R' Y') : WR T b (rEqA T.K C (SpP T F)) own (.d (.obj c fs)) (.d y) P := fun W vx vy ha rx ry Q q => by
  obtain ⟨t, tx, nf⟩ := ty.get (Rep.mono ha.gh ry)
  have r0 := rx
  obtain ⟨a, dx, gs, rfl, ho, en, rr⟩ := rx
  refine .inr ⟨a, dx, gs, t, rfl, hC ▸ ha.gh _ _ ho, tx, nf, W.G, [.obj c fs, y], ha.gh, ⟨_, _, rfl, r0, _, _, rfl, ry, rfl⟩, mon f (fun d ⟨k, ek, p⟩ v G' H' g gh hh hg rv => ?_) fun e y => y.elim⟩
  subst ek
  obtain ⟨ha2, l2⟩ := ha.call g gh hh hg
  exact ⟨k, rv, q _ (.d (.bl k)) own ⟨G', H', W.as⟩ ha2 l2 rfl p⟩
theorem wr_neO {C : Addr} {F : DF} {y : D} {c : Nat} {fs : List D} (hC : T.cls c = C) (ty : TyO T C y) (f : F [.obj c fs, y] (fun d => ∃ k, d = .bl k ∧ P (.d (.bl (!k))) own) (fun _ => False)) (mon : ∀ {xs R R' Y Y'}, F xs R Y → (∀ d, R d → R' d) → (∀ e, Y e → Y' e) → F xs R' Y') : WR T b (rNeA T.K C (SpP T F)) own (.d (.obj c fs)) (.d y) P := fun W vx vy ha rx ry Q q => by
  obtain ⟨t, tx, nf⟩ := ty.get (Rep.mono ha.gh ry)
  have r0 := rx
  obtain ⟨a, dx, gs, rfl, ho, en, rr⟩ := rx
  refine .inr ⟨a, dx, gs, t, rfl, hC ▸ ha.gh _ _ ho, tx, nf, W.G, [.obj c fs, y], ha.gh, ⟨_, _, rfl, r0, _, _, rfl, ry, rfl⟩, mon f (fun d ⟨k, ek, p⟩ v G' H' g gh hh hg rv => ?_) fun e y => y.elim⟩
  subst ek
  obtain ⟨ha2, l2⟩ := ha.call g gh hh hg
  exact ⟨k, rv, q _ (.d (.bl (!k))) own ⟨G', H', W.as⟩ ha2 l2 rfl p⟩
/-- a < b < c -/
theorem we_chain {r r' : R2} {ta tb tc : TE} (h : WE T b ta own ds fun x o1 => WE T b tb o1 ds fun y o2 => WR T b r o2 x y fun z o3 => ∃ k, z = .d (.bl k) ∧ (k = true → WE T b tc o3 ds fun w o4 => WR T b r' o4 y w P) ∧ (k = false → P (.d (.bl false)) o3)) : WE T b (tChain r r' ta tb tc) own ds P := fun W σ ha sl Q q => by
  refine h W σ ha sl _ fun v1 s1 o1 W1 ha1 l1 r1 h1 => ?_
  refine h1 W1 σ ha1 (sl.mono l1) _ fun v2 s2 o2 W2 ha2 l2 r2 h2 => ?_
  refine h2 W2 v1 v2 ha2 (RpS.mono l2 r1) r2 _ fun v3 s3 o3 W3 ha3 l3 r3 ⟨k, e, ht, hf⟩ => ?_
  subst e
  refine ⟨k, r3, ?_⟩
  cases k with
  | true =>
    refine ht rfl W3 σ ha3 (sl.mono ((l1.trans l2).trans l3)) _ fun v4 s4 o4 W4 ha4 l4 r4 h4 => ?_
    exact h4 W4 v2 v4 ha4 (RpS.mono (l3.trans l4) r2) r4 Q fun v s o W5 ha5 l5 r5 p => q v s o W5 ha5 ((((l1.trans l2).trans l3).trans l4).trans l5) r5 p
  | false => exact q _ (.d (.bl false)) o3 W3 ha3 ((l1.trans l2).trans l3) rfl (hf rfl)
/-- truth of an own list -/
theorem wt_truO {ta : TE} {P : Bool → List OW → Prop} (h : WE T b ta own ds fun s o => ∃ k ss, s = .p k ∧ o[k]? = some (.lst ss) ∧ P (!ss.isEmpty) o) : WT T b (fun σ H Q => ta σ H fun x H' => ∃ k, TruV T.K x H' k ∧ Q k H') own ds P := fun W σ ha sl Q q => by
  refine h W σ ha sl _ fun v s o1 W1 ha1 l1 r1 ⟨k, ss, e, ho, p⟩ => ?_
  subst e
  obtain ⟨a, ea, rfl⟩ := r1
  obtain ⟨a', ea', _, _, _, ws, eh, rr⟩ := ha1.ow.get ho
  have z : a' = a := Option.some.inj (ea'.symm.trans ea)
  subst z
  refine ⟨!ss.isEmpty, .inl ⟨ws, sq_of eh, ?_⟩, q _ o1 W1 ha1 l1 p⟩
  have lw := rr.len
  cases ws with
  | nil => cases ss with
    | nil => rfl
    | cons x y => simp at lw
  | cons x y => cases ss with
    | nil => simp at lw
    | cons x y => rfl
/-- isinstance of a class of one's own -/
theorem we_isiC {ta : TE} {C : Addr} (h : WE T b ta own ds fun s o => ∃ d k, Thw o s d ∧ ((d.isO = false ∧ PySem.W.kitOne T.K (.type d.tyN) (.ref C) = some k) ∨ (∃ c fs, d = .obj c fs ∧ TyO T (T.cls c) d ∧ PySem.W.kitOne T.K (.ref (T.cls c)) (.ref C) = some k)) ∧ P (.d (.bl k)) o) : WE T b (tCB (rIsi T.K) (tCons ta (tCons (tC (.ref C)) tNil))) own ds P := fun W σ ha sl Q q => by
  refine h W σ ha sl _ fun v s o1 W1 ha1 l1 r1 ⟨d, k, t, hd, p⟩ => ?_
  have r2 := t.rep ha1 r1
  rcases hd with ⟨f, e⟩ | ⟨c, fs, rfl, ty, e⟩
  · exact ⟨v, .ref C, .type d.tyN, .ref C, k, rfl, .own C, Rep.tyx f r2, e, q _ (.d (.bl k)) o1 W1 ha1 l1 rfl p⟩
  · rcases ty with ⟨z, _⟩ | ⟨c', fs', e', hC, cl, h1, h2, h3, h4⟩
    · cases z
    · cases e'
      obtain ⟨a, dx, gs, rfl, ho, _⟩ := r2
      exact ⟨.ref a, .ref C, .ref (T.cls c), .ref C, k, rfl, .own C, .base (.ins ho cl h1 h2 h3 h4), e, q _ (.d (.bl k)) o1 W1 ha1 l1 rfl p⟩
/-- repr -/
def D.rp (d : D) : Bool := d.pure && d.py.showable && !d.py.hasDict && decide (d.py.depth ≤ 60) && decide (d.py.shown.length ≤ 100000)
def D.isR : D → Bool
  | .lst _ | .tup _ => true
  | _ => false
theorem wc_repr {s : SV} {d : D} (t : Thw own s d) (hr : d.isR = true) (h : d.rp = true) (p : P (.d (.str d.py.shown)) own) : WC T b (LX.rRepr T.K) own [s] P :=
  wc_val (z := .str d.py.shown) (vz := .str d.py.shown) (fun _ => rfl) (fun W vs ha ⟨v, r, ev, rx, er⟩ Q q => by
    subst ev
    have er' : r = [] := er
    subst er'
    simp only [D.rp, Bool.and_eq_true, Bool.not_eq_true', decide_eq_true_eq] at h
    have rr := t.rep ha rx
    refine ⟨v, d.py, rfl, Rep.dp h.1.1.1.1 rr, h.1.1.1.2, h.1.1.2, h.1.2, sz_of h.2, ?_, q⟩
    cases d with
    | lst xs => obtain ⟨a, _, e, _⟩ := rr; exact ⟨a, e⟩
    | tup xs => obtain ⟨a, _, e, _⟩ := rr; exact ⟨a, e⟩
    | non => cases hr
    | bl k => cases hr
    | int k => cases hr
    | str k => cases hr
    | obj c fs => cases hr
    | dct ks vs => cases hr) p
theorem its_ok {W : Wd} {a : Addr} {ns : List Int} (hs : SqL T.K W.G a (ns.map V.int)) : ItOk T b (Itl T.K a) W (ns.map D.int) := fun i W2 own2 l ha => by
  have h2 : SqL T.K W2.H a (ns.map V.int) := ex_l (l.g.trans ha.gh) hs
  refine ⟨fun x e => ?_, fun e => ⟨_, h2, by rw [e, List.length_map, List.length_map]; exact Nat.le_refl _⟩⟩
  rw [List.getElem?_map] at e
  cases q : ns[i]? with
  | none => rw [q] at e; cases e
  | some n =>
    rw [q] at e
    cases e
    have ev : (ns.map V.int)[i]? = some (.int n) := by rw [List.getElem?_map, q]; rfl
    refine ⟨⟨_, _, h2, ev⟩, fun w H' ⟨eh, hw⟩ => ⟨W2, eh.symm, ha, Le.refl _, ?_⟩⟩
    exact Option.some.inj ((hw _ h2).symm.trans ev)
theorem wi_scr {tl : TE} {P : List D → List OW → Prop} (h : WE T b tl own ds fun s o => ∃ ns, s = .scr ns ∧ P (ns.map D.int) o) : WI T b (iSeq T.K tl) own ds P := fun W σ ha sl R q => by
  refine h W σ ha sl _ fun v s o1 W1 ha1 l1 r1 ⟨ns, e, p⟩ => ?_
  subst e
  obtain ⟨a, rfl, hs⟩ := r1
  exact .inl ⟨a, rfl, ⟨_, ex_l ha1.gh hs⟩, q _ _ o1 W1 ha1 l1 (its_ok hs) p⟩
theorem wc_lenScr {ns : List Int} (p : P (.d (.int ns.length)) own) : WC T b (rLen T.K) own [.scr ns] P :=
  wc_val (z := .int ns.length) (vz := .int ns.length) (fun _ => rfl) (fun W vs ha ⟨v, r, ev, ⟨a, e, hs⟩, er⟩ Q q => by
    subst ev
    have er' : r = [] := er
    subst er'
    subst e
    exact ⟨.ref a, ns.length, rfl, .inl ⟨_, ex_l ha.gh hs, by rw [List.length_map]⟩, q⟩) p
end
end Lo
end
section
set_option Elab.async false
set_option linter.all false
set_option autoImplicit false
set_option maxRecDepth 100000
set_option maxHeartbeats 1000000
/-! a class made within a try; what a suite asks of a caught error with attributes -/
namespace LX
open PySem PySem.Spec PyProof.Rows L2 PySem.W PySem.Calls
section
variable {X : Cx} {CX : CXT} {k : Nat} {f C : Addr} {fd : FuncData} {ps : List Str} {sp : Sp} {dvs : List V} {ds : List Value} {E : L2.St → XK} {x : Str} {p pos : Pos} {e : Expr} {es : List Expr} {t : TA}
def tMakeS (C : Addr) (sp : Sp) (dvs : List V) (E : L2.St → XK) (t : TA) : TE := fun σ H Q => t σ H fun vs H1 => ∀ x dx, H1 x = none → H1 dx = none → dx ≠ x →
  sp (.ref x :: (vs ++ dvs)) (upd (upd H1 dx (.own x)) x (.ins C dx [])) (fun v H2 => v = .non ∧ Q (.ref x) H2) (E σ)
theorem pe_makeS (M : Mk X.K C f) (F : FnOk X.prog X.w X.K X.mg X.base CX k f fd ps sp) (hr : Room (k + 1) X.A) (hg : Gl X x) (hm : X.mg x = some (.ref C)) (hb : Binds X.K fd ps ds) (hd : Vals dvs ds) (hx : ∀ σ, PassesAt CX X σ (E σ))
    (ha : PA X (e :: es) t) (hdb : (x == ("__debug__" : Str)) = false := by decide) (he : starEach (e :: es) X.env = (false, eval e X.env) :: starEach es X.env := by rfl) (hpl : (backTo pos (starEach es X.env)).any (·.1) = false := by rfl) :
    PE X (.Call (.Name x p) (e :: es) [] pos) (tMakeS C sp dvs E t) := by
  refine ⟨fun pins s σ H Q I h => wpAny_Call_Name_kw (ld_glob I hg hm ?_ hdb)⟩
  refine callWith_K (h₀ := X.base) I.ok.mod.kin M.kp (thn (ha.run pos pins s σ H _ I h) fun us s1 hh => ?_) he hpl
  obtain ⟨vs, H1, J, r, hq0⟩ := hh
  refine ⟨J.kIn, ?_⟩
  have nz : s1.heap.objs.size ≠ s1.heap.objs.size + 1 := Nat.ne_of_lt (Nat.lt_succ_self _)
  have hq := hq0 (s1.heap.objs.size + 1) s1.heap.objs.size (J.hok.fresh (Nat.le_succ _)) (J.hok.fresh (Nat.le_refl _)) nz
  have J2 := Inv.made (C := C) J
  have rr : Vals (V.ref (s1.heap.objs.size + 1) :: (vs ++ dvs)) (Value.ref (s1.heap.objs.size + 1) :: (us ++ ds)) := .cons rfl (r.append hd)
  have hlen : (Value.ref (s1.heap.objs.size + 1) :: us ++ ds).length = ps.length := (rr.length.symm.trans (F.len _ _ _ _ hq) : _)
  refine wpAny_call (make_map (f := f) J.kIn M.makes M.init (beq_iff_eq.mp M.fn) (codeAny_mono (F.run _ X.stack _ _ ⟨Value.ref (s1.heap.objs.size + 1) :: us, []⟩ _ _ _ (E σ) (hr.make C us [])
    (J2.env0.make C us []) (hb _ (Value.ref (s1.heap.objs.size + 1) :: us) J2.kIn hlen) rr hq) fun res s' hres => ?_))
  match res, hres with
  | .error e, hz => exact hx σ pins _ _ e s' J2 hz
  | .ok (.ret u), hz =>
    obtain ⟨v, H', J3, rv, ev, q3⟩ := J2.after hz
    subst ev
    exact ⟨rv, V.ref (s1.heap.objs.size + 1), H', J3, rfl, q3⟩
  | .ok .next, hz => exact hz.elim
  | .ok .brk, hz => exact hz.elim
  | .ok .cont, hz => exact hz.elim
end
/-- isinstance(e, c), e the caught error, with a dict of its own -/
def rIsD (K : Frag) (cls : Value) (d : Option Addr) (a : Addr) : List V → Hp → VK → Prop := fun xs H Q => ∃ (D dd : Addr) (fs : List (Str × V)) (c : V) (cv : Value) (b : Bool), xs = [.ref a, c] ∧ cls = .ref D ∧ d = some dd ∧ ExcC K D ∧ H dd = some (.xd fs) ∧ (∀ u, RelV c u → u = cv) ∧ kitOne K (.ref D) cv = some b ∧ Q (.bl b) H
theorem call_isD {X : Cx} {a : Addr} {cls : Value} {d : Option Addr} {oe : Obj} {pn : List (Addr × Obj)} (hz : Zc cls d oe) (hf : ∃ vs, oe.data = .fields vs) : CallR (X.suite a ((a, oe) :: pn)) (.builtin "isinstance") (rIsD X.K cls d a) := by
  intro pins s σ H xs us Q I r h
  obtain ⟨D, dd, fs, c, cv, b, rfl, ec, ed, C, hH, hcv, hk, q⟩ := h
  subst ec
  subst ed
  cases r with
  | cons rx rr =>
    cases rr with
    | cons rt rn =>
      cases rn
      cases rx
      cases hcv _ rt
      have pin := (I.pin (a, oe) (List.mem_append.mpr (.inl List.mem_cons_self))).1
      obtain ⟨vs, hv⟩ := hf
      have hx : ObjOk X.prog X.w H s.heap dd (.xd fs) := I.hok dd _ hH
      obtain ⟨mA, hns, _⟩ := hx
      obtain ⟨od, ho, _⟩ := lookIn_ns hns
      have J : InstAt s.heap a oe D (some od) := ⟨pin, hz.1, by unfold notCls; rw [hv] <;> rfl, by rw [hz.2]; exact ho⟩
      have hc : (clsIn X.K D).isSome = true := by
        obtain ⟨cd, hc, _⟩ := any_some C.hd
        rw [hc]
        rfl
      exact kia_one (kitx_exc hc C.hg C.hk C.hs C.ha C.hn C.ht C.hm) I.kIn J hk (fun z => nomatch z) fun tk => ⟨.bl b, H, I.kept (t' := tk) fun _ _ z => z, rfl, q⟩
/-- e.f, e the caught error -/
def tXd (K : Frag) (a : Addr) (cls : Value) (d : Option Addr) (n : Str) (te : TE) : TE := fun σ H Q => te σ H fun x H1 => x = .ref a ∧ ∃ (C dd : Addr) (fs : List (Str × V)) (v : V), cls = .ref C ∧ XfC K C ∧ findIn K (.ref C) n = some none ∧ d = some dd ∧ H1 dd = some (.xd fs) ∧ fs.lookup n = some v ∧ Q v H1
theorem pe_xd {X : Cx} {a : Addr} {oe : Obj} {cls : Value} {d : Option Addr} {pn : List (Addr × Obj)} {e : Expr} {te : TE} {pos : Pos} {n : Str}
    (hz : Zc cls d oe) (hf : ∃ vs, oe.data = .fields vs) (he : PE (X.suite a ((a, oe) :: pn)) e te) (hb : attributeBase e n X.env (eval e X.env) = eval e X.env := by rfl) :
    PE (X.suite a ((a, oe) :: pn)) (.Attribute e n pos) (tXd X.K a cls d n te) := by
  refine ⟨fun pins s σ H Q I h => attr_of hb (thn (he.run pins s σ H _ I h) fun u s1 hh => ?_)⟩
  obtain ⟨x, H1, J, rx, rfl, C, dd, fs, v, ec, T, hno, ed, ea, lk, q⟩ := hh
  cases (show u = Value.ref a from rx)
  subst ec
  subst ed
  have pin := (J.pin (a, oe) (List.mem_append_left _ List.mem_cons_self)).1
  obtain ⟨vs, hd⟩ := hf
  have hx : ObjOk X.prog X.w H1 s1.heap dd (.xd fs) := J.hok dd _ ea
  obtain ⟨mA, hns, hrl⟩ := hx
  obtain ⟨od, ho, hl⟩ := lookIn_ns hns
  obtain ⟨w, hw, rw'⟩ := RelO.some_of (v := v) (o := mA n) (by rw [← lk]; exact hrl n)
  have IA : InstAt s1.heap a oe C (some od) := ⟨pin, hz.1, by unfold notCls; rw [hd] <;> rfl, by rw [hz.2]; exact ho⟩
  exact HandSPX.exc_get J.kIn IA T.ga T.gg T.exC (findObj_own T.hdC hno rfl (by rw [hl, hw])) (handed_of rw') ⟨v, H1, J.tok _, rw', q⟩
end LX
namespace Lo
open PySem PySem.Spec PyProof.Rows L2 Evl
section
variable {T : Tb} {b : Bd} {own : List OW} {ds : List (Option SV)} {P : PSv}
abbrev Mon (F : DF) : Prop := ∀ {xs R R' Y Y'}, F xs R Y → (∀ d, R d → R' d) → (∀ e, Y e → Y' e) → F xs R' Y'
/-- the way into a suite: the error's dict stands for good from now on -/
theorem HA.caught {W : Wd} (ha : HA T b W own) {dx : Addr} {H' : Hp} {fs : List (PySem.Str × V)} (hh : Ex W.H H') (nd : W.H dx = none) (hd : H' dx = some (.xd fs)) :
    HA T b ⟨upd W.G dx (.xd fs), H', W.as⟩ own ∧ Le W ⟨upd W.G dx (.xd fs), H', W.as⟩ := by
  have gd : W.G dx = none := fresh_back ha.gh nd
  refine ha.call (Ex.new gd) (fun y o q => ?_) hh fun y n1 n2 => ?_
  · by_cases z : y = dx
    · subst z
      rw [upd_same] at q
      rw [hd, q]
    · rw [upd_ne z] at q
      exact hh _ _ (ha.gh _ _ q)
  · have z : y ≠ dx := fun z => n1 (z ▸ nd)
    rw [upd_ne z]
    exact n2
def Po.back (Φ : Po) (j : Nat) : Po := ⟨fun o s => Φ.nx o (s.set j none), Φ.rt, fun o s => Φ.bk o (s.set j none), fun o s => Φ.ct o (s.set j none)⟩
/-- what a try wants of an error: its suite runs -/
def Caught (T : Tb) (b : Bd) (c : Value) (j : Nat) (ts : Addr → Value → Option Addr → TS) (own : List OW) (ds : List (Option SV)) (Φ : Po) : Er → Prop := fun e => PySem.W.exmOne T.K (.ref (T.cls e.c)) c = some true ∧
  ∀ a dx, WS T b (ts a (.ref (T.cls e.c)) (some dx)) own (ds.set j (some (.x a dx e.fs))) (Φ.back j)
theorem caught_go {W : Wd} {σ : L2.St} {D : Ends} {Φ : Po} {c : Value} {j : Nat} {ts : Addr → Value → Option Addr → TS} {Wout : WX} (ha : HA T b W own) (sl : SlL T W σ ds) (d : DOk T b W D Φ) {e : Er} (y : Caught T b c j ts own ds Φ e) {dx : Addr} {H' : Hp} (hh : Ex W.H H') (nd : W.H dx = none) (hd : H' dx = some (.xd e.fs)) :
    wAs T.K c j ts Wout D (.ref (T.cls e.c)) (some dx) σ H' := by
  obtain ⟨hm, hs⟩ := y
  refine ⟨true, hm, fun _ a na => ?_, fun z => Bool.noConfusion z⟩
  obtain ⟨h2, l2⟩ := ha.caught hh nd hd
  have rx : RpS T ⟨upd W.G dx (.xd e.fs), H', W.as⟩ (.x a dx e.fs) (.ref a) := ⟨rfl, upd_same⟩
  refine hs a dx ⟨upd W.G dx (.xd e.fs), H', W.as⟩ (σ.set j (some (.ref a))) h2 (SlL.set (fun sv q => by cases q; exact rx) j (sl.mono l2)) _ ⟨fun σ' o s W' h' l' sl' n => ?_, fun v s o W' h' l' r' p => d.rt v s o W' h' (l2.trans l') r' p, fun σ' o s W' h' l' sl' n => ?_, fun σ' o s W' h' l' sl' n => ?_⟩
  · exact d.nx _ o _ W' h' (l2.trans l') (SlL.setNone j sl') n
  · exact d.bk _ o _ W' h' (l2.trans l') (SlL.setNone j sl') n
  · exact d.ct _ o _ W' h' (l2.trans l') (SlL.setNone j sl') n
/-- try: x = f(..) except .. as n: suite -/
theorem ws_tryCall {F : DF} {dvs : List V} {dd : List D} {i j : Nat} {c : Value} {ts : Addr → Value → Option Addr → TS} {Wout : WX} {ta : TA} {Φ : Po} (mon : Mon F) (hd : ∀ G, RepL T G dd dvs)
    (h : WA T b ta own ds fun ss o => ∃ xs, AllD ss xs ∧ F (xs ++ dd) (fun d => Φ.nx o (ds.set i (some (.d d)))) (Caught T b c j ts o ds Φ)) :
    WS T b (fun D => tAsg (tCallSD (SpP T F) dvs (L2.WE (wAs T.K c j ts Wout D)) ta) (gName i) D) own ds Φ := fun W σ ha sl D d => by
  refine h W σ ha sl _ fun vs ss o1 W1 ha1 l1 r1 ⟨xs, e, f⟩ => ?_
  rw [e.eq] at r1
  refine ⟨W1.G, xs ++ dd, ha1.gh, repL_app (RpSL.ds r1) (hd _), mon f (fun y p v G' H' g gh hh hg rv => ?_) fun er y dx H' hh hn hf => ?_⟩
  · obtain ⟨ha2, l2⟩ := ha1.call g gh hh hg
    exact d.nx _ o1 _ ⟨G', H', W1.as⟩ ha2 (l1.trans l2) (SlL.set (fun sv q => by cases q; exact rv) i (sl.mono (l1.trans l2))) p
  · exact caught_go ha1 (sl.mono l1) (d.up l1) y hh hn hf
/-- try: x = C(..) except .. as n: suite -/
theorem ws_tryMake {F : DF} {k : Nat} {C : Addr} {dvs : List V} {dd : List D} {i j : Nat} {c : Value} {ts : Addr → Value → Option Addr → TS} {Wout : WX} {ta : TA} {Φ : Po} (hC : T.cls k = C) (mon : Mon F) (hd : ∀ G, RepL T G dd dvs)
    (h : WA T b ta own ds fun ss o => ∃ xs, AllD ss xs ∧ F (xs ++ dd) (fun d => (∃ fs, d = .obj k fs) ∧ Φ.nx o (ds.set i (some (.d d)))) (Caught T b c j ts o ds Φ)) :
    WS T b (fun D => tAsg (LX.tMakeS C (SpI T k F) dvs (L2.WE (wAs T.K c j ts Wout D)) ta) (gName i) D) own ds Φ := fun W σ ha sl D d => by
  subst hC
  refine h W σ ha sl _ fun vs ss o1 W1 ha1 l1 r1 ⟨xs, e, f⟩ x dx nx nd ne => ?_
  rw [e.eq] at r1
  refine make_core (F := F) (xs := xs ++ dd) (o := o1) (Q := fun x H1 => gName i x σ H1 D.nx) (E := L2.WE (wAs T.K c j ts Wout D) σ) ha1 (repL_app (RpSL.ds r1) (hd _)) mon f (fun y v W' h' l' r' rd => ?_) (fun er ddx H' hh hn hf y => ?_) (fun y rd => rd.1) nx nd ne
  · exact d.nx _ o1 _ W' h' (l1.trans l') (SlL.set (fun sv q => by cases q; exact r') i (sl.mono (l1.trans l'))) rd.2
  · exact caught_go ha1 (sl.mono l1) (d.up l1) y hh hn hf
theorem we_isD {te : TE} {K : PySem.W.Frag} {cls : Value} {dA : Option Addr} {a : Addr} {v : V} {cv : Value} (hK : K = T.K) (hv : ∀ u, RelV v u → u = cv)
    (h : WE T b te own ds fun s o => ∃ dx fs D k, s = .x a dx fs ∧ cls = .ref D ∧ dA = some dx ∧ ExcC T.K D ∧ PySem.W.kitOne T.K (.ref D) cv = some k ∧ P (.d (.bl k)) o) : WE T b (tCB (LX.rIsD K cls dA a) (tCons te (tCons (tC v) tNil))) own ds P := fun W σ ha sl Q q => by
  subst hK
  refine h W σ ha sl _ fun w s o1 W1 ha1 l1 r1 ⟨dx, fs, D, k, e, ec, ed, hC, hk, p⟩ => ?_
  subst e
  obtain ⟨rfl, hg⟩ := r1
  exact ⟨D, dx, fs, v, cv, k, rfl, ec, ed, hC, ha1.gh _ _ hg, hv, hk, q _ (.d (.bl k)) o1 W1 ha1 l1 rfl p⟩
theorem we_xd {te : TE} {K : PySem.W.Frag} {cls : Value} {dA : Option Addr} {a : Addr} {n : PySem.Str} (hK : K = T.K)
    (h : WE T b te own ds fun s o => ∃ dx fs D v d, s = .x a dx fs ∧ cls = .ref D ∧ dA = some dx ∧ XfC T.K D ∧ PySem.W.findIn T.K (.ref D) n = some none ∧ fs.lookup n = some v ∧ (∀ G, Rep T G d v) ∧ P (.d d) o) : WE T b (LX.tXd K a cls dA n te) own ds P := fun W σ ha sl Q q => by
  subst hK
  refine h W σ ha sl _ fun w s o1 W1 ha1 l1 r1 ⟨dx, fs, D, v, d, e, ec, ed, hX, hn, hl, rd, p⟩ => ?_
  subst e
  obtain ⟨rfl, hg⟩ := r1
  exact ⟨rfl, D, dx, fs, v, ec, hX, hn, ed, ha1.gh _ _ hg, hl, q v (.d d) o1 W1 ha1 l1 (rd _) p⟩
end
end Lo
end
section
set_option Elab.async false
set_option linter.all false
set_option autoImplicit false
set_option maxRecDepth 100000
set_option maxHeartbeats 1000000
/-! defs, by what they do to data -/
namespace Lo
open PySem PySem.Spec PyProof.Rows L2 Evl

/-- what a def does: for each i let by pre, called with args i, it answers some d that post tells or lets out some e that perr tells -/
def Fv {ι : Type} (args : ι → List D) (pre : ι → Prop) (post : ι → D → Prop) (perr : ι → Er → Prop) : DF := fun xs R X => ∃ i, xs = args i ∧ pre i ∧ (∀ d, post i d → R d) ∧ ∀ e, perr i e → X e
theorem Fv.mon {ι : Type} {args : ι → List D} {pre : ι → Prop} {post : ι → D → Prop} {perr : ι → Er → Prop} : Mon (Fv args pre post perr) := fun ⟨i, e, p, r, x⟩ hr hx => ⟨i, e, p, fun d h => hr d (r d h), fun e h => hx e (x e h)⟩
def noErr {ι : Type} : ι → Er → Prop := fun _ _ => False
def slots (N : List PySem.Str) (xs : List SV) : List (Option SV) := xs.map some ++ List.replicate (N.length - xs.length) none
abbrev Pv (post : D → Prop) : Po := ⟨fun _ _ => post .non, fun s _ => ∃ d, s = .d d ∧ post d, fun _ _ => False, fun _ _ => False⟩
abbrev PvH (post : D → Prop) : Po := ⟨fun o _ => o[0]? = some .hand ∧ post .non, fun s o => o[0]? = some .hand ∧ ∃ d, s = .d d ∧ post d, fun _ _ => False, fun _ _ => False⟩
abbrev PvI (T : Tb) (c : Nat) (post : D → Prop) : Po := ⟨fun o _ => ∃ fs xs, o[0]? = some (.ins c fs) ∧ fs.map (·.1) = T.fld c ∧ AllD (fs.map (·.2)) xs ∧ post (.obj c xs), fun _ _ => False, fun _ _ => False, fun _ _ => False⟩
section
variable {T : Tb} {ι : Type} {args : ι → List D} {pre : ι → Prop} {post : ι → D → Prop} {perr : ι → Er → Prop}
theorem rpSL_slots {W : Wd} {N : List PySem.Str} : ∀ {xs : List SV} {vs : List V}, RpSL T W xs vs → SlL T W (L2.start N vs) (slots N xs) := by
  have rep : ∀ n, SlL T W (List.replicate n none) (List.replicate n none) := fun n => by
    induction n with
    | zero => exact rfl
    | succ n ih => exact ⟨none, _, rfl, (fun sv (e : (none : Option SV) = some sv) => nomatch e), ih⟩
  have key : ∀ (n : Nat) {xs : List SV} {vs : List V}, RpSL T W xs vs → SlL T W (vs.map some ++ List.replicate n none) (xs.map some ++ List.replicate n none) := by
    intro n xs
    induction xs with
    | nil =>
      intro vs h
      have h' : vs = [] := h
      subst h'
      exact rep n
    | cons x xs ih =>
      intro vs ⟨v, r, e, h1, h2⟩
      subst e
      exact ⟨some x, _, rfl, fun sv e => by cases e; exact ⟨v, rfl, h1⟩, ih h2⟩
  intro xs vs h
  unfold slots L2.start
  rw [RpSL.len h]
  exact key _ h
theorem spP_len {n : Nat} (hn : ∀ i, (args i).length = n) {vs : List V} {H : Hp} {Q : VK} {E : XK} (h : SpP T (Fv args pre post perr) vs H Q E) : vs.length = n := by
  obtain ⟨G, ds, g, r, i, e, _⟩ := h
  rw [r.len, e, hn]
theorem spH_len {n : Nat} (hn : ∀ i, (args i).length + 1 = n) {vs : List V} {H : Hp} {Q : VK} {E : XK} (h : SpH T (Fv args pre post perr) vs H Q E) : vs.length = n := by
  obtain ⟨a, G, ds, ws, e, _, _, _, r, i, e2, _⟩ := h
  rw [e, List.length_cons, r.len, e2, hn]
theorem spI_len {c n : Nat} (hn : ∀ i, (args i).length + 1 = n) {vs : List V} {H : Hp} {Q : VK} {E : XK} (h : SpI T c (Fv args pre post perr) vs H Q E) : vs.length = n := by
  obtain ⟨x, dx, G, ds, ws, e, _, _, _, r, i, e2, _⟩ := h
  rw [e, List.length_cons, r.len, e2, hn]
theorem runP {N : List PySem.Str} {E : XK} {t : TS} {vs : List V} {H : Hp} {Q : VK} (h : SpP T (Fv args pre post perr) vs H Q E) (hb : ∀ b i, pre i → XOk T b E (perr i) → WS T b t [] (slots N ((args i).map SV.d)) (Pv (post i))) : t { nx := fun _ H' => Q .non H', rt := Q } (L2.start N vs) H := by
  obtain ⟨G0, ds, g, r, i, rfl, p, hr, hx⟩ := h
  refine bodyP (F := Fv args pre post perr) (E := E) (xs := args i) (vs := vs) g (rpSL_slots (W := ⟨G0, H, []⟩) (RepL.sv (W := ⟨G0, H, []⟩) r)) (WS.imp (hb _ i p ?_) (fun o s z => hr _ z) (fun s o ⟨d, e, z⟩ => ⟨d, e, hr d z⟩) (fun _ _ z => z) fun _ _ z => z)
  exact fun e dx H' k n f x => hx e x dx H' k n f
theorem runH {N : List PySem.Str} {E : XK} {t : TS} {vs : List V} {H : Hp} {Q : VK} (h : SpH T (Fv args pre post perr) vs H Q E) (hb : ∀ b i, pre i → WS T b t [.hand] (slots N (.p 0 :: (args i).map SV.d)) ⟨fun _ _ => False, (PvH (post i)).rt, fun _ _ => False, fun _ _ => False⟩) : t { nx := fun _ H' => Q .non H', rt := Q } (L2.start N vs) H := by
  obtain ⟨a, G0, ds, ws, rfl, ga, g, hd, r, i, rfl, p, hr, hx⟩ := h
  refine bodyH (F := Fv args pre post perr) (E := E) ga g hd (rpSL_slots (W := ⟨G0, H, [a]⟩) (xs := .p 0 :: (args i).map SV.d) ⟨.ref a, ws, rfl, ⟨a, rfl, rfl⟩, RepL.sv (W := ⟨G0, H, [a]⟩) r⟩) (WS.imp (hb _ i p) (fun o s z => z) (fun s o ⟨h0, d, e, z⟩ => ⟨h0, d, e, hr d z⟩) (fun _ _ z => z) fun _ _ z => z)
theorem runI {c : Nat} {N : List PySem.Str} {E : XK} {t : TS} {vs : List V} {H : Hp} {Q : VK} (h : SpI T c (Fv args pre post perr) vs H Q E) (hb : ∀ b i, pre i → XOk T b E (perr i) → WS T b t [.ins c []] (slots N (.p 0 :: (args i).map SV.d)) (PvI T c (post i))) : t { nx := fun _ H' => Q .non H', rt := Q } (L2.start N vs) H := by
  obtain ⟨x, dx, G0, ds, ws, rfl, hx0, gx, g, r, i, rfl, p, hr, hx⟩ := h
  let b : Bd := ⟨fun y => if y = x then none else H y, fun y => y ≠ x ∧ H y ≠ none ∧ G0 y = none⟩
  have bh : Ex b.B H := fun y o q => by
    by_cases z : y = x
    · subst z
      have q' : (if y = y then none else H y) = some o := q
      rw [if_pos rfl] at q'
      cases q'
    · have q' : (if y = x then none else H y) = some o := q
      rw [if_neg z] at q'
      exact q'
  have how : Ow T b ⟨G0, H, [x]⟩ x (.ins c []) := ⟨gx, if_pos rfl, fun z => z.1 rfl, dx, [], hx0, rfl, rfl⟩
  have ha : HA T b ⟨G0, H, [x]⟩ [.ins c []] := ⟨g, bh, fun y n => ⟨n.2.2, n.2.1⟩, by simp, ⟨_, _, rfl, how, rfl⟩⟩
  have sl : SlL T ⟨G0, H, [x]⟩ (L2.start N (.ref x :: ws)) (slots N (.p 0 :: (args i).map SV.d)) := rpSL_slots (W := ⟨G0, H, [x]⟩) (xs := .p 0 :: (args i).map SV.d) ⟨.ref x, ws, rfl, ⟨x, rfl, rfl⟩, RepL.sv (W := ⟨G0, H, [x]⟩) r⟩
  refine hb b i p (fun e ddx H' k n f y => ?_) ⟨G0, H, [x]⟩ _ ha sl _ ⟨fun σ' o s W' h' l sl' ⟨fs, xs, ho, hn, hal, z⟩ => ?_, fun v s o W' h' l r z => z.elim, fun _ _ _ _ _ _ _ z => z.elim, fun _ _ _ _ _ _ _ z => z.elim⟩
  · refine hx e y ddx H' (fun y o ny q => k y o ?_) ?_ f
    · show (if y = x then none else H y) = some o
      rw [if_neg ny]
      exact q
    · have n' : (if ddx = x then none else H ddx) = none := n
      by_cases z : ddx = x
      · exact .inr z
      · rw [if_neg z] at n'
        exact .inl n'
  · obtain ⟨a', ea, ga', _, _, dx', gs, eh, en, rr⟩ := h'.ow.get ho
    have ea2 : W'.as[0]? = some x := prefix_get l.a rfl
    have z' : a' = x := Option.some.inj (ea.symm.trans ea2)
    subst z'
    obtain ⟨fs', e', hk⟩ := hr _ z
    cases e'
    have rr' := RpSL.ds (ds := xs) (by rw [← hal.eq]; exact rr)
    exact hk W'.G W'.H gs dx' l.g h'.gh (fun y o ny q => h'.bh y o (by show (if y = a' then none else H y) = some o; rw [if_neg ny]; exact q)) (fun y n1 n2 => by
      by_cases z : y = a'
      · subst z
        exact ga'
      · exact (h'.nn y ⟨z, n1, n2⟩).1) ga' eh (en.trans hn) rr'
end
theorem xok0 {T : Tb} {b : Bd} {E : XK} : XOk T b E (fun _ => False) := fun _ _ _ _ _ _ x => x.elim
section
variable {T : Tb} {b : Bd} {own : List OW} {ds : List (Option SV)} {P : PSv} {ι : Type} {args : ι → List D} {pre : ι → Prop} {post : ι → D → Prop} {perr : ι → Er → Prop}
/-- a call that lets nothing out: i what it is called with -/
structure Goes (args : ι → List D) (pre : ι → Prop) (post : ι → D → Prop) (perr : ι → Er → Prop) (xs : List D) (R : D → Prop) : Prop where
  ex : ∃ i, xs = args i ∧ pre i ∧ (∀ e, ¬ perr i e) ∧ ∀ d, post i d → R d
theorem Goes.fv {xs : List D} {R : D → Prop} {X : Er → Prop} (h : Goes args pre post perr xs R) : Fv args pre post perr xs R X := by
  obtain ⟨i, e, p, n, r⟩ := h.ex
  exact ⟨i, e, p, r, fun e z => (n e z).elim⟩
theorem we_cal {dvs : List V} {dd : List D} {E : XK} {ta : TA} (hd : ∀ G, RepL T G dd dvs) (h : WA T b ta own ds fun ss o => ∃ xs, AllD ss xs ∧ Goes args pre post perr (xs ++ dd) (fun d => P (.d d) o)) : WE T b (tCall (SpP T (Fv args pre post perr)) dvs E ta) own ds P :=
  we_call xok0 hd (fun W σ ha sl Q q => h W σ ha sl Q fun vs ss o W' h' l r ⟨xs, e, g⟩ => q vs ss o W' h' l r ⟨xs, e, g.fv⟩) Fv.mon
theorem we_cal0 {E : XK} {ta : TA} (h : WA T b ta own ds fun ss o => ∃ xs, AllD ss xs ∧ Goes args pre post perr (xs ++ []) (fun d => P (.d d) o)) : WE T b (tCall (SpP T (Fv args pre post perr)) [] E ta) own ds P := we_cal (dd := []) (fun _ => rfl) h
theorem we_cal2 {E : XK} {ta : TA} (h : WA T b ta own ds fun ss o => ∃ xs, AllD ss xs ∧ Goes args pre post perr (xs ++ [.non, .non]) (fun d => P (.d d) o)) : WE T b (tCall (SpP T (Fv args pre post perr)) [.non, .non] E ta) own ds P := we_cal (dd := [.non, .non]) (fun _ => ⟨.non, _, rfl, rfl, .non, _, rfl, rfl, rfl⟩) h
/-- .. that draws -/
theorem we_calH {E : XK} {ta : TA} (h : WA T b ta own ds fun ss o => ∃ k sr xs, ss = .p k :: sr ∧ o[k]? = some .hand ∧ AllD sr xs ∧ Goes args pre post perr (xs ++ []) (fun d => P (.d d) o)) : WE T b (tCall (SpH T (Fv args pre post perr)) [] E ta) own ds P :=
  we_callH (dd := []) (fun _ => rfl) (fun W σ ha sl Q q => h W σ ha sl Q fun vs ss o W' h' l r ⟨k, sr, xs, e1, e2, e3, g⟩ => q vs ss o W' h' l r ⟨k, sr, xs, e1, e2, e3, g.fv⟩) Fv.mon
/-- a class is called -/
theorem we_mak {c : Nat} {C : Addr} {dvs : List V} {dd : List D} {E : XK} {ta : TA} (hC : T.cls c = C) (hd : ∀ G, RepL T G dd dvs) (h : WA T b ta own ds fun ss o => ∃ xs, AllD ss xs ∧ Goes args pre post perr (xs ++ dd) (fun d => (∃ fs, d = .obj c fs) ∧ P (.d d) o)) : WE T b (tMake C (SpI T c (Fv args pre post perr)) dvs E ta) own ds P :=
  we_make hC xok0 hd (fun W σ ha sl Q q => h W σ ha sl Q fun vs ss o W' h' l r ⟨xs, e, g⟩ => q vs ss o W' h' l r ⟨xs, e, g.fv⟩) Fv.mon
theorem we_prp {C : Addr} {E : XK} {ta : TE} (h : WE T b ta own ds fun s o => ∃ c fs, s = .d (.obj c fs) ∧ T.cls c = C ∧ Goes args pre post perr [.obj c fs] (fun d => P (.d d) o)) : WE T b (tProp C (SpP T (Fv args pre post perr)) [] E ta) own ds P :=
  we_prop (F := Fv args pre post perr) xok0 (h.imp fun s o ⟨c, fs, e1, e2, g⟩ => ⟨c, fs, e1, e2, g.fv⟩) Fv.mon
end
theorem OwP_nil {n : Nat} : OwP n [] := fun o m => by cases m
theorem OwP_cons {n : Nat} {o : OW} {os : List OW} (h : (∀ xs, o = .lst xs → ∀ x ∈ xs, ∀ k, x = .p k → k < n) ∧ (∀ c fs, o = .ins c fs → ∀ x ∈ fs.map (·.2), ∀ k, x = .p k → k < n) ∧ (∀ kvs, o = .dct kvs → ∀ x ∈ kvs.map (·.2), ∀ k, x = .p k → k < n)) (r : OwP n os) : OwP n (o :: os) := fun q m => by
  rcases List.mem_cons.mp m with e | m
  · rw [e]
    exact h
  · exact r q m
theorem OwP_hand {n : Nat} {os : List OW} (r : OwP n os) : OwP n (.hand :: os) := OwP_cons ⟨fun _ e => (nomatch e), fun _ _ e => (nomatch e), fun _ e => (nomatch e)⟩ r
theorem OwP_gone {n : Nat} {os : List OW} (r : OwP n os) : OwP n (.gone :: os) := OwP_cons ⟨fun _ e => (nomatch e), fun _ _ e => (nomatch e), fun _ e => (nomatch e)⟩ r
theorem OwP_ho {n : Nat} {f : Addr → HO} {os : List OW} (r : OwP n os) : OwP n (.ho f :: os) := OwP_cons ⟨fun _ e => (nomatch e), fun _ _ e => (nomatch e), fun _ e => (nomatch e)⟩ r
theorem OwP_lst {n : Nat} {xs : List D} {os : List OW} (r : OwP n os) : OwP n (.lst (xs.map SV.d) :: os) := by
  refine OwP_cons ⟨fun ys e x m k z => ?_, fun _ _ e => (by cases e), fun _ e => (by cases e)⟩ r
  cases e
  obtain ⟨d, _, e⟩ := List.mem_map.mp m
  rw [← e] at z
  cases z
/-! ### as they stand in the text -/
section
variable {P : Program} {w : World} {K : PySem.W.Frag} {mg : PySem.Str → Option Value} {base : Heap} {x qual : PySem.Str} {st : Stmt} {dvs : List V} {f : Addr} {fd : FuncData} {N ps : List PySem.Str} {k : Nat} {T : Tb}
variable {ι : Type} {args : ι → List D} {pre : ι → Prop} {post : ι → D → Prop} {perr : ι → Er → Prop}
/-- a def of the text, at f, its defaults dvs -/
abbrev DefAt (K : PySem.W.Frag) (x qual : PySem.Str) (st : Stmt) (dvs : List V) (f : Addr) (fd : FuncData) : Prop := FunD K x qual (defArgs st) (defBody st) (defScope st) dvs [] f fd
abbrev CxB (P : Program) (w : World) (K : PySem.W.Frag) (mg : PySem.Str → Option Value) (base : Heap) (N : List PySem.Str) (qual : PySem.Str) (st : Stmt) (f : Addr) (cdv : Value) (A : Around) (outer : List Env) (s : Shared) (H : Hp) (E : XK) : Cx :=
  cxOf (L2.CX P w) P w K mg base N qual (defScope st) f cdv A outer s H E
theorem okP (ss : ι → List (Option SV)) (F : DefAt K x qual st dvs f fd) (S : FnScope N ps (defScope st)) (hn : ∀ i, (args i).length = ps.length)
    (hb : ∀ (cdv : Value) (A : Around) (outer : List Env) (s : Shared) (H : Hp) (E : XK), Room k (A.deeper (envOfC qual (defScope st) s.heap.objs.size f cdv)) →
      ∃ t, PSs (CxB P w K mg base N qual st f cdv A outer s H E) (defBody st) t ∧ ∀ b i, pre i → XOk T b E (perr i) → WS T b t [] (ss i) (Pv (post i))) (hs : ∀ i, slots N ((args i).map SV.d) = ss i := by intro _; rfl) : FnOk P w K mg base (L2.CX P w) (k + 1) f fd ps (SpP T (Fv args pre post perr)) :=
  F.ok S (fun vs H Q E h => spP_len hn h) fun cdv A outer s H vs Q E hr h => by
    obtain ⟨t, ht, hw⟩ := hb cdv A outer s H E hr
    exact ⟨t, ht, runP h fun b i p x => hs i ▸ hw b i p x⟩
theorem okH (ss : ι → List (Option SV)) (F : DefAt K x qual st dvs f fd) (S : FnScope N ps (defScope st)) (hn : ∀ i, (args i).length + 1 = ps.length)
    (hb : ∀ (cdv : Value) (A : Around) (outer : List Env) (s : Shared) (H : Hp) (E : XK), Room k (A.deeper (envOfC qual (defScope st) s.heap.objs.size f cdv)) →
      ∃ t, PSs (CxB P w K mg base N qual st f cdv A outer s H E) (defBody st) t ∧ ∀ b i, pre i → WS T b t [.hand] (ss i) ⟨fun _ _ => False, (PvH (post i)).rt, fun _ _ => False, fun _ _ => False⟩) (hs : ∀ i, slots N (.p 0 :: (args i).map SV.d) = ss i := by intro _; rfl) : FnOk P w K mg base (L2.CX P w) (k + 1) f fd ps (SpH T (Fv args pre post perr)) :=
  F.ok S (fun vs H Q E h => spH_len hn h) fun cdv A outer s H vs Q E hr h => by
    obtain ⟨t, ht, hw⟩ := hb cdv A outer s H E hr
    exact ⟨t, ht, runH h fun b i p => hs i ▸ hw b i p⟩
theorem okI {c : Nat} (ss : ι → List (Option SV)) (F : DefAt K x qual st dvs f fd) (S : FnScope N ps (defScope st)) (hn : ∀ i, (args i).length + 1 = ps.length)
    (hb : ∀ (cdv : Value) (A : Around) (outer : List Env) (s : Shared) (H : Hp) (E : XK), Room k (A.deeper (envOfC qual (defScope st) s.heap.objs.size f cdv)) →
      ∃ t, PSs (CxB P w K mg base N qual st f cdv A outer s H E) (defBody st) t ∧ ∀ b i, pre i → XOk T b E (perr i) → WS T b t [.ins c []] (ss i) (PvI T c (post i))) (hs : ∀ i, slots N (.p 0 :: (args i).map SV.d) = ss i := by intro _; rfl) : FnOk P w K mg base (L2.CX P w) (k + 1) f fd ps (SpI T c (Fv args pre post perr)) :=
  F.ok S (fun vs H Q E h => spI_len hn h) fun cdv A outer s H vs Q E hr h => by
    obtain ⟨t, ht, hw⟩ := hb cdv A outer s H E hr
    exact ⟨t, ht, runI h fun b i p x => hs i ▸ hw b i p x⟩
/-- what a caller needs of a def: it keeps its promise where the last arguments are its defaults -/
def Cal (P : Program) (w : World) (K : PySem.W.Frag) (mg : PySem.Str → Option Value) (base : Heap) (k : Nat) (f : Addr) (ps : List PySem.Str) (sp : Sp) (dvs : List V) : Prop :=
  ∃ fd ds, FnOk P w K mg base (L2.CX P w) k f fd ps sp ∧ Vals dvs ds ∧ Binds K fd ps ds
structure At (K : PySem.W.Frag) (mg : PySem.Str → Option Value) (x : PySem.Str) (f : Addr) : Prop where
  mg : mg x = some (.ref f)
  kp : PySem.W.keepIn K (.ref f) = true
end
section
variable {X : Cx} {k : Nat} {f C : Addr} {ps : List PySem.Str} {sp : Sp} {dvs : List V} {E : XK} {ES : L2.St → XK} {x : PySem.Str} {p pos : Pos} {e : Expr} {es : List Expr} {t : TA} {te : TE}
theorem pe_cal {n : Nat} (A : At X.K X.mg x f) (F : Cal X.prog X.w X.K X.mg X.base k f ps sp dvs) (hr : Room n X.A) (hg : Gl X x) (hx : Passes (L2.CX X.prog X.w) X E) (ha : PA X (e :: es) t) (hk : k ≤ n := by decide)
    (hdb : (x == ("__debug__" : PySem.Str)) = false := by decide) (he : starEach (e :: es) X.env = (false, eval e X.env) :: starEach es X.env := by rfl) (hpl : (backTo pos (starEach es X.env)).any (·.1) = false := by rfl) :
    PE X (.Call (.Name x p) (e :: es) [] pos) (tCall sp dvs E t) := by
  obtain ⟨fd, ds, F, hd, hb⟩ := F
  exact pe_call F (hr.mono hk) hg A.mg A.kp hb hd hx ha hdb he hpl
theorem pe_calS {n : Nat} (A : At X.K X.mg x f) (F : Cal X.prog X.w X.K X.mg X.base k f ps sp dvs) (hr : Room n X.A) (hg : Gl X x) (hx : ∀ σ, PassesAt (L2.CX X.prog X.w) X σ (ES σ)) (ha : PA X (e :: es) t) (hk : k ≤ n := by decide)
    (hdb : (x == ("__debug__" : PySem.Str)) = false := by decide) (he : starEach (e :: es) X.env = (false, eval e X.env) :: starEach es X.env := by rfl) (hpl : (backTo pos (starEach es X.env)).any (·.1) = false := by rfl) :
    PE X (.Call (.Name x p) (e :: es) [] pos) (tCallSD sp dvs ES t) := by
  obtain ⟨fd, ds, F, hd, hb⟩ := F
  exact pe_callSD F (hr.mono hk) hg A.mg A.kp hb hd hx ha hdb he hpl
/-- a class that is called -/
structure MkAt (K : PySem.W.Frag) (mg : PySem.Str → Option Value) (x : PySem.Str) (C f : Addr) : Prop where
  mg : mg x = some (.ref C)
  mkc : Mk K C f
theorem pe_mak {n : Nat} (A : MkAt X.K X.mg x C f) (F : Cal X.prog X.w X.K X.mg X.base k f ps sp dvs) (hr : Room n X.A) (hg : Gl X x) (hx : Passes (L2.CX X.prog X.w) X E) (ha : PA X (e :: es) t) (hk : k + 1 ≤ n := by decide)
    (hdb : (x == ("__debug__" : PySem.Str)) = false := by decide) (he : starEach (e :: es) X.env = (false, eval e X.env) :: starEach es X.env := by rfl) (hpl : (backTo pos (starEach es X.env)).any (·.1) = false := by rfl) :
    PE X (.Call (.Name x p) (e :: es) [] pos) (tMake C sp dvs E t) := by
  obtain ⟨fd, ds, F, hd, hb⟩ := F
  exact pe_make A.mkc F (hr.mono hk) hg A.mg hb hd hx ha hdb he hpl
theorem pe_makS {n : Nat} (A : MkAt X.K X.mg x C f) (F : Cal X.prog X.w X.K X.mg X.base k f ps sp dvs) (hr : Room n X.A) (hg : Gl X x) (hx : ∀ σ, PassesAt (L2.CX X.prog X.w) X σ (ES σ)) (ha : PA X (e :: es) t) (hk : k + 1 ≤ n := by decide)
    (hdb : (x == ("__debug__" : PySem.Str)) = false := by decide) (he : starEach (e :: es) X.env = (false, eval e X.env) :: starEach es X.env := by rfl) (hpl : (backTo pos (starEach es X.env)).any (·.1) = false := by rfl) :
    PE X (.Call (.Name x p) (e :: es) [] pos) (LX.tMakeS C sp dvs ES t) := by
  obtain ⟨fd, ds, F, hd, hb⟩ := F
  exact LX.pe_makeS A.mkc F (hr.mono hk) hg A.mg hb hd hx ha hdb he hpl
theorem pe_prp {n : Nat} {nm : PySem.Str} {pp : Addr} (he : PE X e te) (c : Cls X.K C) (hp : PropOf X.K C nm pp f) (F : Cal X.prog X.w X.K X.mg X.base k f ps sp dvs) (hr : Room n X.A) (hx : Passes (L2.CX X.prog X.w) X.nox E) (hab : attributeBase e nm X.env (eval e X.env) = eval e X.env) (hk : k + 1 ≤ n := by decide) :
    PE X (.Attribute e nm pos) (tProp C sp dvs E te) := by
  obtain ⟨fd, ds, F, hd, hb⟩ := F
  exact pe_prop he c hp F (hr.mono hk) hb hd hx hab
theorem op_eqC {n : Nat} (c : LX.EqC X.K C f) (F : Cal X.prog X.w X.K X.mg X.base k f ps sp []) (hr : Room n X.A) (hk : k ≤ n := by decide) : OpR X (compareOp .Eq) (LX.rEqI X.K C sp) := by
  obtain ⟨fd, ds, F, hd, hb⟩ := F
  cases hd
  exact LX.op_eqI F c hb (hr.mono hk)
theorem op_neC {n : Nat} (c : LX.EqC X.K C f) (F : Cal X.prog X.w X.K X.mg X.base k f ps sp []) (hr : Room n X.A) (hk : k + 1 ≤ n := by decide) : OpR X (compareOp .NotEq) (LX.rNeI X.K C sp) := by
  obtain ⟨fd, ds, F, hd, hb⟩ := F
  cases hd
  exact LX.op_neI F c hb (hr.mono hk)
theorem pmk_err {n : Nat} (T : OexC X.K C) (iC : PySem.W.findIn X.K (.ref C) "__init__" = some (some (.ref f))) (tI : PySem.W.typeIn X.K (.ref f) = some (.type "function")) (hm : X.mg x = some (.ref C)) (F : Cal X.prog X.w X.K X.mg X.base k f ps sp dvs) (hr : Room n X.A) (hg : Gl X x) (ha : PA X (e :: es) t) (hk : k + 1 ≤ n := by decide)
    (hdb : (x == ("__debug__" : PySem.Str)) = false := by decide) (he : starEach (e :: es) X.env = (false, eval e X.env) :: starEach es X.env := by rfl) (hpl : (backTo pos (starEach es X.env)).any (·.1) = false := by rfl) :
    PMk X (.Call (.Name x p) (e :: es) [] pos) (tMkO C sp dvs t) := by
  obtain ⟨fd, ds, F, hd, hb⟩ := F
  exact pmk_oex T iC tI F (hr.mono hk) hb hd passL hg hm ha hdb he hpl
theorem pe_constI {n : Int} (hg : Gl X x) (h : ∃ t, X.mg x = some (.int n t)) (hdb : (x == ("__debug__" : PySem.Str)) = false := by decide) : PE X (.Name x pos) (tC (.int n)) := by
  obtain ⟨t, h⟩ := h
  exact pe_glob (v := .int n) hg h ⟨t, rfl⟩ hdb
end
/-! the same rules, the written part told (for a comprehension's inner parts) -/
section
variable {X : Cx} (K : PySem.W.Frag) {t : TE} {f : Value} {g : Value → Value → Sem Value}
theorem kIx (r : PySem.W.Frag → R2) (e : X.K = K) (h : IxR X (r X.K)) : IxR X (r K) := e ▸ h
theorem kOp (r : PySem.W.Frag → R2) (e : X.K = K) (h : OpR X g (r X.K)) : OpR X g (r K) := e ▸ h
theorem kCa (r : PySem.W.Frag → List V → Hp → VK → Prop) (e : X.K = K) (h : CallR X f (r X.K)) : CallR X f (r K) := e ▸ h
theorem kSl (r : PySem.W.Frag → V → Option Int → Option Int → Hp → VK → Prop) (e : X.K = K) (h : SlR X (r X.K)) : SlR X (r K) := e ▸ h
theorem kFld {ta : TE} {x : Expr} {n : PySem.Str} {pos : Pos} (e : X.K = K) (he : PE X x ta) (hb : attributeBase x n X.env (eval x X.env) = eval x X.env) : PE X (.Attribute x n pos) (tFld K ta n) := e ▸ pe_fld he hb
end
end Lo
end
section
set_option Elab.async false
set_option linter.all false
set_option autoImplicit false
set_option maxRecDepth 100000
set_option maxHeartbeats 1000000
/-! == and repr of plain data -/
namespace Lo
open PySem PySem.Spec PyProof.Rows L2
/-- signs that lay -/
def okSt (z : PySem.Str) : Bool := z.cps.all (· < 0x110000)
theorem okd_non : D.okd .non = true := by decide +kernel
theorem okd_bl (k : Bool) : D.okd (.bl k) = true := by cases k <;> decide +kernel
theorem okd_int (i : Int) : D.okd (.int i) = true := rfl
theorem okd_str {z : PySem.Str} (h : okSt z = true) : D.okd (.str z) = true := by
  show (true && ((PyData.strOk z) && decide (0 ≤ 64))) = true
  have e : PyData.strOk z = true := h
  rw [e]
  rfl
/-- a row of such data -/
theorem lay_flat {d : D} (f : d.flat = true) (h : d.okd = true) : d.pure = true ∧ d.py.canLay0 = true ∧ d.py.depth = 0 := by
  cases d <;> first
    | (cases f; done)
    | (simp only [D.okd, SeqAt.shaped, Bool.and_eq_true] at h; exact ⟨h.1, h.2.1, rfl⟩)
theorem lay_row : ∀ {xs : List D}, (∀ x ∈ xs, x.flat = true ∧ x.okd = true) → D.pureL xs = true ∧ PyData.canLayAll0 (D.pyL xs) = true ∧ PyData.depthAll (D.pyL xs) = 0
  | [], _ => ⟨rfl, rfl, rfl⟩
  | x :: xs, h => by
    obtain ⟨h1, h2, h3⟩ := lay_flat (h x (by simp)).1 (h x (by simp)).2
    obtain ⟨k1, k2, k3⟩ := lay_row (xs := xs) fun y m => h y (by simp [m])
    refine ⟨?_, ?_, ?_⟩
    · show (x.pure && D.pureL xs) = true
      rw [h1, k1]
      rfl
    · show (x.py.canLay0 && PyData.canLayAll0 (D.pyL xs)) = true
      rw [h2, k2]
      rfl
    · show max x.py.depth (PyData.depthAll (D.pyL xs)) = 0
      rw [h3, k3]
      rfl
theorem okd_tup {xs : List D} (h : ∀ x ∈ xs, x.flat = true ∧ x.okd = true) : D.okd (.tup xs) = true := by
  obtain ⟨k1, k2, k3⟩ := lay_row h
  show (D.pureL xs && (PyData.canLayAll0 (D.pyL xs) && decide (PyData.depthAll (D.pyL xs) + 1 ≤ 64))) = true
  rw [k1, k2, k3]
  rfl
theorem okd_lst {xs : List D} (h : ∀ x ∈ xs, x.flat = true ∧ x.okd = true) : D.okd (.lst xs) = true := by
  obtain ⟨k1, k2, k3⟩ := lay_row h
  show (D.pureL xs && (PyData.canLayAll0 (D.pyL xs) && decide (PyData.depthAll (D.pyL xs) + 1 ≤ 64))) = true
  rw [k1, k2, k3]
  rfl
theorem ints_row (ns : List Int) : ∀ x ∈ ns.map D.int, x.flat = true ∧ x.okd = true := fun x m => by
  obtain ⟨n, _, rfl⟩ := List.mem_map.mp m
  exact ⟨rfl, rfl⟩
/-! equal -/
theorem eqv_non : D.eqv .non .non = true := rfl
theorem eqv_int (i j : Int) : D.eqv (.int i) (.int j) = decide (i = j) := rfl
theorem eqv_str (x y : PySem.Str) : D.eqv (.str x) (.str y) = decide (x = y) := by
  show (x == y) = _
  by_cases h : x = y
  · subst h; simp
  · rw [decide_eq_false h]
    exact beq_eq_false_iff_ne.mpr h
theorem eqv_ints : ∀ (xs ys : List Int), PyData.eqvAll (D.pyL (xs.map .int)) (D.pyL (ys.map .int)) = decide (xs = ys)
  | [], [] => rfl
  | [], _ :: _ => rfl
  | _ :: _, [] => rfl
  | x :: xs, y :: ys => by
    show ((x == y) && PyData.eqvAll (D.pyL (xs.map .int)) (D.pyL (ys.map .int))) = _
    rw [eqv_ints xs ys]
    by_cases h : x = y
    · subst h
      simp
    · have e : (x == y) = false := beq_eq_false_iff_ne.mpr h
      rw [e]
      simp [h]
theorem eqv_tup (xs ys : List Int) : D.eqv (.tup (xs.map .int)) (.tup (ys.map .int)) = decide (xs = ys) := eqv_ints xs ys
theorem eqv_lst (xs ys : List Int) : D.eqv (.lst (xs.map .int)) (.lst (ys.map .int)) = decide (xs = ys) := eqv_ints xs ys
/-! repr -/
mutual
def D.rb : D → Nat
  | .non => 4
  | .bl _ => 5
  | .int _ => 1922
  | .str z => 10 * z.length + 2
  | .lst xs => D.rbL xs + 4
  | .tup xs => D.rbL xs + 4
  | .obj _ _ => 0
  | .dct _ _ => 0
def D.rbL : List D → Nat
  | [] => 0
  | d :: ds => d.rb + 2 + D.rbL ds
end
mutual
/-- what can be shown -/
def D.shw : D → Bool
  | .non => true
  | .bl _ => true
  | .int i => decide (i.natAbs.log2 < 1920)
  | .str z => okSt z
  | .lst xs => D.shwL xs
  | .tup xs => D.shwL xs
  | .obj _ _ => false
  | .dct _ _ => false
def D.shwL : List D → Bool
  | [] => true
  | d :: ds => d.shw && D.shwL ds
end
theorem textFrom_le : ∀ (ts : List PySem.Str) (k : Nat) (acc : PySem.Str), (textFrom k acc ts).length ≤ acc.length + (ts.map fun t => t.length + 2).sum
  | [], k, acc => Nat.le_refl _
  | t :: r, k, acc => by
    have ih := textFrom_le r (k + 1) (acc ++ (if k > 0 then ", " else "" : String) ++ t)
    have e : textFrom k acc (t :: r) = textFrom (k + 1) (acc ++ (if k > 0 then ", " else "" : String) ++ t) r := rfl
    rw [e]
    refine Nat.le_trans ih ?_
    have l : (acc ++ (if k > 0 then ", " else "" : String) ++ t : PySem.Str).length ≤ acc.length + 2 + t.length := by
      show ((acc.cps ++ (PySem.Str.ofString (if k > 0 then ", " else "" : String)).cps) ++ t.cps).size ≤ _
      rw [Array.size_append, Array.size_append]
      have : (PySem.Str.ofString (if k > 0 then ", " else "" : String)).cps.size ≤ 2 := by
        split <;> decide +kernel
      show acc.cps.size + _ + t.cps.size ≤ acc.cps.size + 2 + t.cps.size
      omega
    simp only [List.map_cons, List.sum_cons]
    omega
theorem listText_le (ts : List PySem.Str) : (listText ts).length ≤ (ts.map fun t => t.length + 2).sum + 4 := by
  have h := textFrom_le ts 0 "["
  have e1 : (("[" : PySem.Str)).length = 1 := by decide +kernel
  have e2 : (("]" : PySem.Str)).length = 1 := by decide +kernel
  show ((textFrom 0 "[" ts).cps ++ ("]" : PySem.Str).cps).size ≤ _
  rw [Array.size_append]
  have h' : (textFrom 0 "[" ts).cps.size ≤ 1 + (ts.map fun t => t.length + 2).sum := by rw [← e1]; exact h
  have e2' : ("]" : PySem.Str).cps.size = 1 := e2
  omega
theorem tupleText_le (ts : List PySem.Str) : (tupleText ts).length ≤ (ts.map fun t => t.length + 2).sum + 4 := by
  have j : (PySem.Str.join ", " ts).length ≤ (ts.map fun t => t.length + 2).sum := by
    by_cases h : ts = []
    · subst h
      decide +kernel
    · have := join_length_add ts h
      unfold piled at this
      omega
  have e1 : ("(" : PySem.Str).cps.size = 1 := by decide +kernel
  have e2 : (PySem.Str.ofString (if ts.length == 1 then ",)" else ")" : String)).cps.size ≤ 2 := by
    split <;> decide +kernel
  show ((("(" : PySem.Str).cps ++ (PySem.Str.join ", " ts).cps) ++ (PySem.Str.ofString (if ts.length == 1 then ",)" else ")" : String)).cps).size ≤ _
  rw [Array.size_append, Array.size_append, e1]
  have j' : (PySem.Str.join ", " ts).cps.size ≤ (ts.map fun t => t.length + 2).sum := j
  omega
mutual
theorem shown_le : ∀ {d : D}, d.shw = true → d.pure = true ∧ d.py.showable = true ∧ d.py.hasDict = false ∧ d.py.shown.length ≤ d.rb
  | .non, _ => ⟨rfl, rfl, rfl, by decide +kernel⟩
  | .bl k, _ => ⟨rfl, rfl, rfl, by cases k <;> decide +kernel⟩
  | .int i, h => ⟨rfl, h, rfl, by
    have h' : i.natAbs.log2 < 1920 := of_decide_eq_true h
    exact Nat.le_trans (int_text_len_1921 h') (by show 1921 ≤ 1922; decide)⟩
  | .str z, h => ⟨rfl, rfl, rfl, by
    refine PySem.StrLaws.reprText_len z fun c hc => ?_
    have h' : z.cps.all (· < 0x110000) = true := h
    rw [Array.all_eq_true'] at h'
    have := h' c (by simpa using hc)
    have this : c < 0x110000 := by simpa using this
    exact Nat.lt_of_lt_of_le this (by decide)⟩
  | .lst xs, h => by
    obtain ⟨h1, h2, h3, h4⟩ := shown_leL (ds := xs) h
    exact ⟨h1, h2, h3, Nat.le_trans (listText_le _) (Nat.add_le_add_right h4 4)⟩
  | .tup xs, h => by
    obtain ⟨h1, h2, h3, h4⟩ := shown_leL (ds := xs) h
    exact ⟨h1, h2, h3, Nat.le_trans (tupleText_le _) (Nat.add_le_add_right h4 4)⟩
  | .obj _ _, h => nomatch h
  | .dct _ _, h => nomatch h
theorem shown_leL : ∀ {ds : List D}, D.shwL ds = true → D.pureL ds = true ∧ PyData.showableAll (D.pyL ds) = true ∧ PyData.hasDictAll (D.pyL ds) = false ∧ ((PyData.shownAll (D.pyL ds)).map fun t => t.length + 2).sum ≤ D.rbL ds
  | [], _ => ⟨rfl, rfl, rfl, Nat.le_refl _⟩
  | d :: ds, h => by
    have h' : (d.shw && D.shwL ds) = true := h
    rw [Bool.and_eq_true] at h'
    obtain ⟨a1, a2, a3, a4⟩ := shown_le (d := d) h'.1
    obtain ⟨b1, b2, b3, b4⟩ := shown_leL (ds := ds) h'.2
    refine ⟨?_, ?_, ?_, ?_⟩
    · show (d.pure && D.pureL ds) = true
      rw [a1, b1]; rfl
    · show (d.py.showable && PyData.showableAll (D.pyL ds)) = true
      rw [a2, b2]; rfl
    · show (d.py.hasDict || PyData.hasDictAll (D.pyL ds)) = false
      rw [a3, b3]; rfl
    · show (((d.py.shown :: PyData.shownAll (D.pyL ds)).map fun t => t.length + 2)).sum ≤ d.rb + 2 + D.rbL ds
      rw [List.map_cons, List.sum_cons]
      omega
end
theorem rp_of {d : D} (h : d.shw = true) (hd : d.py.depth ≤ 60) (hb : d.rb ≤ 100000) : d.rp = true := by
  obtain ⟨h1, h2, h3, h4⟩ := shown_le h
  unfold D.rp
  rw [h1, h2, h3, decide_eq_true hd, decide_eq_true (Nat.le_trans h4 hb)]
  rfl
end Lo
end
section
set_option Elab.async false
set_option linter.all false
set_option autoImplicit false
set_option maxRecDepth 100000
set_option maxHeartbeats 1000000
/-! the hand of draws -/
namespace Lo
open PySem PySem.Spec PyProof.Rows L2 Evl
/-- what a hand holds -/
structure HandV (cells : List Int) (i r t : Int) : Prop where
  c : ∀ x ∈ cells, 0 ≤ x ∧ x.natAbs < 2 ^ bigN
  i0 : 0 ≤ i
  i1 : i ≤ cells.length
  l : cells.length ≤ 63
  r0 : 0 ≤ r
  r1 : r.natAbs < 2 ^ bigN
  t0 : 0 ≤ t
  t1 : t < 2147483629
def handL (cells : List Int) (i r t : Int) : List SV := [.scr cells, .d (.int i), .d (.int r), .d (.int t)]
section
variable {T : Tb} {b : Bd} {own : List OW} {ds : List (Option SV)} {P : PSv}
theorem HA.openHand {W : Wd} {k : Nat} (h : HA T b W own) (ho : own[k]? = some .hand) : ∃ cells i r t, HandV cells i r t ∧ HA T b W (own.set k (.lst (handL cells i r t))) := by
  obtain ⟨a, ea, ga, ba, na, c, i, r, t, cells, e, hc, hx, h1, h2, h3, h4, h5, h6, h7⟩ := h.ow.get ho
  refine ⟨cells, i, r, t, ⟨hx, h1, h2, h3, h4, h5, h6, h7⟩, h.gh, h.bh, h.nn, h.nd, ?_⟩
  refine OwL.set (Le.refl W) (o := .lst (handL cells i r t)) ?_ ea h.nd (fun _ _ _ => ⟨rfl, id⟩) h.ow
  exact ⟨ga, ba, na, _, e, .ref c, _, rfl, ⟨c, rfl, hc⟩, .int i, _, rfl, rfl, .int r, _, rfl, rfl, .int t, _, rfl, rfl, rfl⟩
theorem HA.closeHand {W : Wd} {k : Nat} {cells : List Int} {i r t : Int} (h : HA T b W own) (ho : own[k]? = some (.lst (handL cells i r t))) (v : HandV cells i r t) : HA T b W (own.set k .hand) := by
  obtain ⟨a, ea, ga, ba, na, vs, e, rr⟩ := h.ow.get ho
  obtain ⟨v0, w0, rfl, ⟨c, rfl, hc⟩, v1, w1, rfl, r1, v2, w2, rfl, r2, v3, w3, rfl, r3, rfl⟩ := rr
  have e1 : v1 = .int i := r1
  have e2 : v2 = .int r := r2
  have e3 : v3 = .int t := r3
  subst e1 e2 e3
  refine ⟨h.gh, h.bh, h.nn, h.nd, OwL.set (Le.refl W) (o := .hand) ?_ ea h.nd (fun _ _ _ => ⟨rfl, id⟩) h.ow⟩
  exact ⟨ga, ba, na, c, i, r, t, cells, e, hc, v.c, v.i0, v.i1, v.l, v.r0, v.r1, v.t0, v.t1⟩
/-- the body of a def that looks into the hand -/
theorem ws_openHand {ts : TS} {k : Nat} {Φ : Po} (ho : own[k]? = some .hand) (h : ∀ cells i r t, HandV cells i r t → WS T b ts (own.set k (.lst (handL cells i r t))) ds Φ) : WS T b ts own ds Φ := fun W σ ha sl D d => by
  obtain ⟨cells, i, r, t, v, h2⟩ := ha.openHand ho
  exact h cells i r t v W σ h2 sl D d
theorem ws_closeHand {ts : TS} {k : Nat} {Φ : Po} (h : WS T b ts own ds { Φ with rt := fun s o => ∃ cells i r t, o[k]? = some (.lst (handL cells i r t)) ∧ HandV cells i r t ∧ Φ.rt s (o.set k .hand) }) : WS T b ts own ds Φ := fun W σ ha sl D d =>
  h W σ ha sl D ⟨d.nx, fun v s o W' h' l r' ⟨cells, i, r, t, ho, hv, p⟩ => d.rt v s _ W' (h'.closeHand ho hv) l r' p, d.bk, d.ct⟩
theorem wr_ixC {cells : List Int} {i : Int} {x : Int} (e : atI cells i = some x) (p : P (.d (.int x)) own) : WR T b (rIx T.K) own (.scr cells) (.d (.int i)) P := fun W vx vy ha rx ry Q q => by
  cases RpS.int ry
  obtain ⟨a, rfl, hs⟩ := rx
  obtain ⟨j, h1, h2⟩ := atI_len (ys := cells.map V.int) (by rw [List.length_map]) e
  refine .inl ⟨a, _, i, .int x, rfl, rfl, ex_l ha.gh hs, ?_, q (.int x) (.d (.int x)) own W ha (Le.refl W) rfl p⟩
  unfold atI
  rw [h1]
  show (cells.map V.int)[j]? = _
  rw [List.getElem?_map, h2]
  rfl
theorem wr_mod {i j : Int} (c : 0 < j) (p : P (.d (.int (i % j))) own) : WR T b (rI (fun _ j => 0 < j) fun i j => .int (i % j)) own (.d (.int i)) (.d (.int j)) P := wr_I (g := fun i j => i % j) c p
theorem wr_fdiv {i j : Int} (c : 0 < j) (d : j < 2 ^ 62) (p : P (.d (.int (i / j))) own) : WR T b (rI CDivW fun i j => .int (i / j)) own (.d (.int i)) (.d (.int j)) P := wr_I (g := fun i j => i / j) ⟨c, by
  have h : j.natAbs < 2 ^ 62 := by omega
  by_cases z : j.natAbs = 0
  · rw [z]; decide
  · have := (Nat.log2_lt z).mpr h
    omega⟩ p
theorem wr_pow {i j : Int} (c : CPow i j) (p : P (.d (.int (i ^ j.toNat))) own) : WR T b (rI CPow fun i j => .int (i ^ j.toNat)) own (.d (.int i)) (.d (.int j)) P := wr_I (g := fun i j => i ^ j.toNat) c p
theorem log2_le {i : Int} {a : Nat} (h : i.natAbs < 2 ^ a) : i.natAbs.log2 ≤ a := by
  by_cases z : i.natAbs = 0
  · rw [z]; exact Nat.zero_le _
  · exact Nat.le_of_lt ((Nat.log2_lt z).mpr h)
theorem wr_mul2 {i j : Int} (a c : Nat) (hi : i.natAbs < 2 ^ a) (hj : j.natAbs < 2 ^ c) (h : a + c < 1000000) (p : P (.d (.int (i * j))) own) : WR T b rMulA own (.d (.int i)) (.d (.int j)) P :=
  wr_mul (by have := log2_le hi; have := log2_le hj; unfold CMulW; omega) p
/-! the promise of the def that makes the hand -/
def SpHd (T : Tb) : Sp := fun vs H Q E => ∃ (G0 : Hp) (x : Addr) (ns : List Int), vs = [.ref x] ∧ Ex G0 H ∧ SqL T.K G0 x (ns.map V.int) ∧ ns.length ≤ 63 ∧ (∀ n ∈ ns, n.natAbs < 2 ^ bigN) ∧
  ∀ p G' H', Ex G0 G' → Ex G' H' → Ex H H' → (∀ y, H y ≠ none → G0 y = none → G' y = none) → H p = none → G' p = none → HandAt T.K G' H' p → Q (.ref p) H'
theorem spHd_len {vs : List V} {H : Hp} {Q : VK} {E : XK} (h : SpHd T vs H Q E) : vs.length = 1 := by
  obtain ⟨G, x, ns, rfl, _⟩ := h
  rfl
theorem runHd {N : List PySem.Str} {E : XK} {t : TS} {vs : List V} {H : Hp} {Q : VK} (h : SpHd T vs H Q E)
    (hb : ∀ b ns, ns.length ≤ 63 → (∀ n ∈ ns, n.natAbs < 2 ^ bigN) → WS T b t [] (slots N [.scr ns]) ⟨fun _ _ => False, fun s o => ∃ cells tt, s = .p 1 ∧ o = [.lst (List.map SV.d (List.map D.int cells)), .lst [.p 0, .d (.int 0), .d (.int 0), .d (.int tt)]] ∧ HandV cells 0 0 tt, fun _ _ => False, fun _ _ => False⟩) :
    t { nx := fun _ H' => Q .non H', rt := Q } (L2.start N vs) H := by
  obtain ⟨G0, x, ns, rfl, g, hs, hl, hn, hq⟩ := h
  have ha : HA T ⟨H, fun x => H x ≠ none ∧ G0 x = none⟩ ⟨G0, H, []⟩ [] := ⟨g, Ex.refl _, fun x n => ⟨n.2, n.1⟩, List.nodup_nil, rfl⟩
  refine hb _ ns hl hn ⟨G0, H, []⟩ _ ha (rpSL_slots (W := ⟨G0, H, []⟩) (xs := [.scr ns]) ⟨.ref x, [], rfl, ⟨x, rfl, hs⟩, rfl⟩) _ ⟨fun σ' o s W' h' l sl' p => p.elim, fun v s o W' h' l r ⟨cells, tt, e1, e2, hv⟩ => ?_, fun _ _ _ _ _ _ _ p => p.elim, fun _ _ _ _ _ _ _ p => p.elim⟩
  subst e1 e2
  obtain ⟨p, ep, rfl⟩ := r
  obtain ⟨c, ec, _, _, _, ws0, eh0, _⟩ := h'.ow.get (k := 0) rfl
  have np : p ≠ c := fun z => by
    subst z
    have h0 := (List.getElem?_eq_some_iff.mp ec)
    have h1 := (List.getElem?_eq_some_iff.mp ep)
    have := (List.getElem_inj h'.nd).mp (h0.2.trans h1.2.symm)
    cases this
  obtain ⟨ws, eh, h2, l2, rep⟩ := h'.freeze (k := 0) (ds := cells.map D.int) rfl ec
  obtain ⟨p', ep', gp, bp, _, vs, ev, rv⟩ := h'.ow.get (k := 1) rfl
  have z : p' = p := Option.some.inj (ep'.symm.trans ep)
  subst z
  obtain ⟨v0, w0, rfl, ⟨c', ec', rfl⟩, v1, w1, rfl, r1, v2, w2, rfl, r2, v3, w3, rfl, r3, rfl⟩ := rv
  have zc : c' = c := Option.some.inj (ec'.symm.trans ec)
  subst zc
  have e1 : v1 = .int 0 := r1
  have e2 : v2 = .int 0 := r2
  have e3 : v3 = .int tt := r3
  subst e1 e2 e3
  obtain ⟨cc, us, ecc, hsq, hrl⟩ := rep
  cases ecc
  have eu := RepL.ints hrl
  subst eu
  refine hq p' (upd W'.G c' (.lst ws)) W'.H (l.g.trans l2.g) h2.gh h'.bh (fun y n1 n2 => (h2.nn y ⟨n1, n2⟩).1) bp ((upd_ne np).trans gp) ⟨c', 0, 0, tt, cells, ev, sq_of hsq, hv.c, hv.i0, hv.i1, hv.l, hv.r0, hv.r1, hv.t0, hv.t1⟩
/-- the hand is made -/
theorem we_hand {E : XK} {i : Nat} (ho : own = []) (h : ∃ ns, ds[i]? = some (some (.scr ns)) ∧ ns.length ≤ 63 ∧ (∀ n ∈ ns, n.natAbs < 2 ^ bigN)) (p : P (.p 0) [.hand]) : WE T b (tCall (SpHd T) [] E (tCons (tVar i) tNil)) own ds P := fun W σ ha sl Q q => by
  subst ho
  obtain ⟨ns, hi, hl, hn⟩ := h
  obtain ⟨v, ev, x, rfl, hs⟩ := sl.get hi
  refine ⟨_, ev, W.G, x, ns, rfl, ha.gh, hs, hl, hn, fun p' G' H' g gh hh hg np gp hd => ?_⟩
  obtain ⟨ha2, l2⟩ := ha.call g gh hh hg
  have eas : W.as = [] := List.eq_nil_of_length_eq_zero (by rw [ha.ow.len]; rfl)
  have l3 : Le W ⟨G', H', [p']⟩ := ⟨g, by rw [eas]; exact List.nil_prefix⟩
  have h3 : HA T b ⟨G', H', [p']⟩ [.hand] := ⟨gh, ha2.bh, ha2.nn, by simp, ⟨.hand, [], rfl, ⟨gp, fresh_back ha.bh np, fun n => (ha.nn p' n).2 np, hd⟩, rfl⟩⟩
  exact q _ (.p 0) [.hand] ⟨G', H', [p']⟩ h3 l3 ⟨p', rfl, rfl⟩ p
end
section
variable {P : Program} {w : World} {K : PySem.W.Frag} {mg : PySem.Str → Option Value} {base : Heap} {x qual : PySem.Str} {st : Stmt} {dvs : List V} {f : Addr} {fd : FuncData} {N ps : List PySem.Str} {k : Nat} {T : Tb}
theorem okHd (ss : List Int → List (Option SV)) (F : DefAt K x qual st dvs f fd) (S : FnScope N ps (defScope st)) (hn : ps.length = 1)
    (hb : ∀ (cdv : Value) (A : Around) (outer : List Env) (s : Shared) (H : Hp) (E : XK), Room k (A.deeper (envOfC qual (defScope st) s.heap.objs.size f cdv)) →
      ∃ t, PSs (CxB P w K mg base N qual st f cdv A outer s H E) (defBody st) t ∧ ∀ b ns, ns.length ≤ 63 → (∀ n ∈ ns, n.natAbs < 2 ^ bigN) → WS T b t [] (ss ns) ⟨fun _ _ => False, fun s o => ∃ cells tt, s = .p 1 ∧ o = [.lst (List.map SV.d (List.map D.int cells)), .lst [.p 0, .d (.int 0), .d (.int 0), .d (.int tt)]] ∧ HandV cells 0 0 tt, fun _ _ => False, fun _ _ => False⟩)
    (hs : ∀ ns, slots N [.scr ns] = ss ns := by intro _; rfl) : FnOk P w K mg base (L2.CX P w) (k + 1) f fd ps (SpHd T) :=
  F.ok S (fun vs H Q E h => (spHd_len h).trans hn.symm) fun cdv A outer s H vs Q E hr h => by
    obtain ⟨t, ht, hw⟩ := hb cdv A outer s H E hr
    exact ⟨t, ht, runHd h fun b ns h1 h2 => hs ns ▸ hw b ns h1 h2⟩
end
end Lo
end
section
set_option Elab.async false
set_option linter.all false
set_option autoImplicit false
set_option maxRecDepth 100000
set_option maxHeartbeats 1000000
namespace Lo
open PySem PySem.Spec PyProof.Rows L2 Evl
section
variable {T : Tb} {b : Bd} {own : List OW} {ds : List (Option SV)} {P : PSv}
/-- an own list of data becomes a datum (it is own no more) -/
theorem we_frz {te : TE} (h : WE T b te own ds fun s o => ∃ k xs, s = .p k ∧ o[k]? = some (.lst (xs.map SV.d)) ∧ P (.d (.lst xs)) (o.set k .gone)) : WE T b te own ds P := fun W σ ha sl Q q => by
  refine h W σ ha sl _ fun v s o1 W1 ha1 l1 r1 ⟨k, xs, e, ho, p⟩ => ?_
  subst e
  obtain ⟨a, ea, rfl⟩ := r1
  obtain ⟨vs, eh, ha2, l2, r⟩ := ha1.freeze ho ea
  exact q _ (.d (.lst xs)) _ ⟨upd W1.G a (.lst vs), W1.H, W1.as⟩ ha2 (l1.trans l2) r p
/-- an own list that is handed back -/
theorem ws_frzR {ts : TS} {Φ : Po} (h : WS T b ts own ds { Φ with rt := fun s o => (∃ k xs, s = .p k ∧ o[k]? = some (.lst (xs.map SV.d)) ∧ Φ.rt (.d (.lst xs)) (o.set k .gone)) ∨ Φ.rt s o }) : WS T b ts own ds Φ := fun W σ ha sl D d => by
  refine h W σ ha sl D ⟨d.nx, fun v s o W' h' l r' p => ?_, d.bk, d.ct⟩
  rcases p with ⟨k, xs, rfl, ho, p⟩ | p
  · obtain ⟨a, ea, rfl⟩ := r'
    obtain ⟨vs, eh, ha2, l2, r⟩ := h'.freeze ho ea
    exact d.rt _ (.d (.lst xs)) _ ⟨upd W'.G a (.lst vs), W'.H, W'.as⟩ ha2 (l.trans l2) r p
  · exact d.rt v s o W' h' l r' p
end
section
variable {T : Tb} {b : Bd} {own : List OW} {ds : List (Option SV)} {P : PSv}
/-- [f for x in xs if p], both functions of the items -/
theorem we_lcff {wi : TI} {g : TG} {js : List Nat} {tt : TT} {te : TE} {vs : List Nat} (hj : ∀ j ∈ js, j ∈ vs) (p : D → Bool) (f : D → D)
    (h : WI T b wi own ds fun items o => own.length ≤ o.length ∧ OwP o.length o ∧ items.length ≤ 100000 ∧ (∀ x acc, x ∈ items →
        WG T b g js x (o ++ [.lst acc]) (wipeD ds vs) fun o2 s2 => WT T b tt o2 s2 fun k o3 => k = p x ∧ (k = true → WE T b te o3 s2 fun s o4 => s = .d (f x) ∧ o4 = o ++ [.lst acc]) ∧ (k = false → o3 = o ++ [.lst acc])) ∧ P (.d (.lst ((items.filter p).map f))) o) : WE T b (tLc wi g tt te vs) own ds P := by
  refine we_lc hj (fun items i acc => acc = ((items.take i).filter p).map f) ?_
  intro W σ ha sl R q
  refine h W σ ha sl R fun J items o' W' ha' l' it ⟨h1, h2, h3, h4, h5⟩ => q J items o' W' ha' l' it ⟨h1, h2, by simp, h3, fun i x acc hx ea hl => ?_, fun acc ea hl => by rw [ea]; simpa using h5⟩
  intro W2 σ2 v ha2 sl2 r2 Q2 q2
  refine h4 x (acc.map SV.d) (List.mem_of_getElem? hx) W2 σ2 v ha2 sl2 r2 Q2 fun σ' own' ds' W'' a1 a2 a3 a4 a5 hb => q2 σ' own' ds' W'' a1 a2 a3 a4 a5 ?_
  intro W3 σ3 ha3 sl3 Q3 q3
  refine hb W3 σ3 ha3 sl3 Q3 fun k o3 W4 ha4 l4 ⟨ek, ht, hf⟩ => q3 k o3 W4 ha4 l4 ⟨fun hk => (ht hk).imp fun s o ⟨e1, e2⟩ => ⟨f x, e1, e2, ?_⟩, fun hk => ⟨hf hk, ?_⟩⟩
  · rw [ea, List.take_add_one, hx, List.filter_append, List.map_append]
    have : p x = true := ek.symm.trans hk
    simp [this]
  · rw [ea, List.take_add_one, hx, List.filter_append, List.map_append]
    have : p x = false := ek.symm.trans hk
    simp [this]
end
/-- a draw of so many -/
theorem takeG {N : Int} {G : D → Prop} (h : 0 < N ∧ N < 2 ^ 30) (g : ∀ k : Int, 0 ≤ k → k < N → G (.int k)) : (0 < N ∧ N < 2 ^ 30) ∧ (∀ e : Er, ¬ noErr N e) ∧ ∀ d, (∃ k : Int, d = .int k ∧ 0 ≤ k ∧ k < N) → G d :=
  ⟨h, fun _ z => z, fun d ⟨k, e, h0, h1⟩ => e ▸ g k h0 h1⟩
theorem perm_map {α β : Type} {f : α → β} {ys : List β} {xs : List α} (h : ys.Perm (xs.map f)) : ∃ zs : List α, ys = zs.map f ∧ zs.Perm xs := by
  generalize e : xs.map f = l at h
  induction h generalizing xs with
  | nil => exact ⟨[], rfl, by cases xs <;> simp_all⟩
  | cons x h ih =>
    cases xs with
    | nil => cases e
    | cons y r =>
      simp only [List.map_cons, List.cons.injEq] at e
      obtain ⟨zs, e1, e2⟩ := ih e.2
      exact ⟨y :: zs, by rw [e1, ← e.1]; rfl, e2.cons y⟩
  | swap x y l =>
    match xs, e with
    | u :: v :: r, e =>
      simp only [List.map_cons, List.cons.injEq] at e
      obtain ⟨e1, e2, e3⟩ := e
      exact ⟨v :: u :: r, by rw [List.map_cons, List.map_cons, e1, e2, e3], .swap u v r⟩
    | [], e => cases e
    | [_], e => simp at e
  | trans h1 h2 ih1 ih2 =>
    obtain ⟨zs, e1, e2⟩ := ih2 e
    obtain ⟨us, e3, e4⟩ := ih1 e1.symm
    exact ⟨us, e3, e4.trans e2⟩
theorem ix_get {α : Type} {xs : List α} {k : Int} (h0 : 0 ≤ k) (h1 : k < (xs.length : Int)) : ∃ x ∈ xs, atI xs k = some x := by
  obtain ⟨j, rfl⟩ : ∃ j : Nat, k = (j : Int) := ⟨k.toNat, by omega⟩
  have hj : j < xs.length := by omega
  exact ⟨xs[j], List.getElem_mem hj, atI_nat (List.getElem?_eq_getElem hj)⟩
theorem atI_map {α β : Type} {f : α → β} {xs : List α} {k : Int} {x : α} (h : atI xs k = some x) : atI (xs.map f) k = some (f x) := by
  unfold atI at h ⊢
  rw [List.length_map]
  cases e : ixN xs.length k with
  | none => rw [e] at h; cases h
  | some j =>
    rw [e] at h
    show (xs.map f)[j]? = _
    have h' : xs[j]? = some x := h
    rw [List.getElem?_map, h']
    rfl
theorem sort_same : ∀ {xs ys : List Int}, xs.Pairwise (· ≤ ·) → ys.Pairwise (· ≤ ·) → xs.Perm ys → xs = ys
  | [], ys, _, _, h => (List.Perm.nil_eq h)
  | x :: xs, [], _, _, h => by have := h.length_eq; simp at this
  | x :: xs, y :: ys, h1, h2, h => by
    have e : x = y := by
      have m1 : x ∈ y :: ys := h.subset List.mem_cons_self
      have m2 : y ∈ x :: xs := h.symm.subset List.mem_cons_self
      rcases List.mem_cons.mp m1 with e | m1
      · exact e
      rcases List.mem_cons.mp m2 with e | m2
      · exact e.symm
      have a1 := (List.pairwise_cons.mp h2).1 x m1
      have a2 := (List.pairwise_cons.mp h1).1 y m2
      omega
    subst e
    rw [sort_same (List.pairwise_cons.mp h1).2 (List.pairwise_cons.mp h2).2 (List.Perm.cons_inv h)]
theorem erase_map {α β : Type} {f : α → β} : ∀ (xs : List α) (j : Nat), (xs.map f).eraseIdx j = (xs.eraseIdx j).map f
  | [], _ => rfl
  | _ :: _, 0 => rfl
  | x :: r, j + 1 => by
    show f x :: (r.map f).eraseIdx j = f x :: (r.eraseIdx j).map f
    rw [erase_map r j]
theorem erase_perm {α : Type} : ∀ (xs : List α) (j : Nat) (h : j < xs.length), (xs[j] :: xs.eraseIdx j).Perm xs
  | [], _, h => nomatch h
  | _ :: _, 0, _ => .refl _
  | x :: r, j + 1, h => by
    have hj : j < r.length := Nat.lt_of_succ_lt_succ h
    exact (List.Perm.swap x r[j] _).trans ((erase_perm r j hj).cons x)
theorem joinL_one : ∀ cs : List Nat, TL.joinL [] (cs.map fun c => [c]) = cs
  | [] => rfl
  | [c] => rfl
  | c :: d :: r => by
    have ih := joinL_one (d :: r)
    simp only [List.map_cons] at ih ⊢
    first
      | (show [c] ++ ([] ++ TL.joinL [] ([d] :: r.map fun c => [c])) = _; rw [ih]; rfl)
      | (show [c] ++ [] ++ TL.joinL [] ([d] :: r.map fun c => [c]) = _; rw [ih]; rfl)
      | (unfold TL.joinL; simp [ih])
end Lo
end
section
set_option Elab.async false
set_option linter.all false
set_option autoImplicit false
set_option maxRecDepth 100000
set_option maxHeartbeats 1000000
/-! the law's own def -/
namespace Lo
open PySem PySem.Spec PyProof.Rows L2 Evl
def SpLaw (K : PySem.W.Frag) : Sp := fun vs H Q E => ∃ (x : Addr) (ns : List Int), vs = [.ref x] ∧ SqL K H x (ns.map V.int) ∧ ns.length ≤ 63 ∧ (∀ n ∈ ns, n.natAbs < 2 ^ bigN) ∧ ∀ H', Q (.bl true) H'
theorem spLaw_len {K : PySem.W.Frag} {vs : List V} {H : Hp} {Q : VK} {E : XK} (h : SpLaw K vs H Q E) : vs.length = 1 := by
  obtain ⟨x, ns, rfl, _⟩ := h
  rfl
abbrev PvLaw : Po := ⟨fun _ _ => False, fun s _ => s = .d (.bl true), fun _ _ => False, fun _ _ => False⟩
section
variable {P : Program} {w : World} {K : PySem.W.Frag} {mg : PySem.Str → Option Value} {base : Heap} {x qual : PySem.Str} {st : Stmt} {dvs : List V} {f : Addr} {fd : FuncData} {N ps : List PySem.Str} {k : Nat} {T : Tb}
theorem okLaw (ss : List Int → List (Option SV)) (F : DefAt K x qual st dvs f fd) (S : FnScope N ps (defScope st)) (hn : ps.length = 1)
    (hb : ∀ (cdv : Value) (A : Around) (outer : List Env) (s : Shared) (H : Hp) (E : XK), Room k (A.deeper (envOfC qual (defScope st) s.heap.objs.size f cdv)) → (A.deeper (envOfC qual (defScope st) s.heap.objs.size f cdv)).guards = some [] →
      ∃ t, PSs (CxB P w K mg base N qual st f cdv A outer s H E) (defBody st) t ∧ ∀ b ns, ns.length ≤ 63 → (∀ n ∈ ns, n.natAbs < 2 ^ bigN) → WS T b t [] (ss ns) PvLaw)
    (hs : ∀ ns, slots N [.scr ns] = ss ns := by intro _; rfl) : LX.FnG P w K mg base (L2.CX P w) (k + 1) f fd ps (SpLaw T.K) := by
  obtain ⟨oc, od, dV, kV, doc, pm, an, cdv, ct, osl, rfl, lk, hcd, _, _⟩ := F.ex
  refine LX.fnG_of lk hcd S (fun vs H Q E h => (spLaw_len h).trans hn.symm) fun A hg outer s H vs Q E hr h => ?_
  obtain ⟨t, ht, hw⟩ := hb cdv A outer s H E hr hg
  obtain ⟨x, ns, rfl, hS, hl, hb, hq⟩ := h
  refine ⟨t, ht, ?_⟩
  have ha : HA T ⟨H, fun _ => False⟩ ⟨H, H, []⟩ [] := ⟨Ex.refl _, Ex.refl _, fun _ z => z.elim, List.nodup_nil, rfl⟩
  refine hw ⟨H, fun _ => False⟩ ns hl hb ⟨H, H, []⟩ _ ha (hs ns ▸ rpSL_slots (W := ⟨H, H, []⟩) (xs := [.scr ns]) ⟨.ref x, [], rfl, ⟨x, rfl, hS⟩, rfl⟩) _ ⟨fun σ' o s W' h' l sl' p => p.elim, fun v s o W' h' l r e => ?_, fun _ _ _ _ _ _ _ p => p.elim, fun _ _ _ _ _ _ _ p => p.elim⟩
  subst e
  have r' : v = .bl true := r
  subst r'
  exact hq _
end
theorem wr_neStr {T : Tb} {b : Bd} {own : List OW} {Q : PSv} {x y : PySem.Str} (q : Q (.d (.bl (!decide (x = y)))) own) : WR T b rNe own (.d (.str x)) (.d (.str y)) Q := fun W vx vy ha rx ry R k => by
  cases RpS.str rx
  cases RpS.str ry
  refine ⟨rfl, ?_⟩
  have e : decide (V.str x = V.str y) = decide (x = y) := by
    by_cases h : x = y
    · subst h
      simp
    · rw [decide_eq_false h, decide_eq_false fun z => h (by cases z; rfl)]
  rw [e]
  exact k _ (.d (.bl _)) own W ha (Le.refl W) rfl q
theorem eqv_bl (x y : Bool) : D.eqv (.bl x) (.bl y) = (x == y) := rfl
theorem AllD.ofEq {ss : List SV} {xs : List D} (e : ss = xs.map SV.d) : AllD ss xs := e ▸ AllD.map xs
open PySem.W PySem.Calls in
/-- the law's statement, from its def's promise -/
theorem walk_L {l : OpenLaw} {k : Nat} {q : Program} {loose : List PySem.Str} {XP : (PySem.Str → Option Value) → Heap → Prop} {YP : World → Heap → Prop} {d : DefRec} {K : Params → PySem.W.Frag} {x : PySem.Str}
    (hn : l.most = some 63) (hdf : d.params.defaults = []) (hr : Room k callerA) (hY : ∀ (w : World) (h : Heap), YP w h → (K w.params).In h)
    (F : ∀ (w : World) (mg : PySem.Str → Option Value) (fa : Addr) (h : Heap), (K w.params).In h → h.Ns mainGlobals mg → mg d.name = some (.ref fa) →
      ∃ fd : FuncData, (∀ (s : Shared) (u : Value), BindsTo s fd ⟨[u], []⟩ [(x, u)]) ∧ ∀ base : Heap, (K w.params).In base → base.Ns mainGlobals mg → LX.FnG l.prog w (K w.params) mg base (L2.CX l.prog w) k fa fd [x] (SpLaw (K w.params))) :
    WalkO q loose XP YP l.row.toRowW d [] (fun f vs => PySem.call f vs) := by
  refine LX.walk_G (n := 63) (CX := fun w => L2.CX l.prog w) (sp := fun w => SpLaw (K w.params)) hn (by decide) hdf hr hY F (fun w H a ns hl hb _ hS => ?_) fun w H s e s' h => ?_
  · refine ⟨a, ns, rfl, hS, hl, fun n m => ?_, fun _ => rfl⟩
    have h := hb n m
    unfold Builtin.Int.intBits at h
    by_cases z : n = 0
    · subst z
      exact Nat.pow_pos (by decide)
    · rw [if_neg (by simpa using z)] at h
      have h2 : n.natAbs.log2 < bigN := Nat.lt_of_lt_of_le (Nat.lt_of_succ_le h) (by decide)
      exact (Nat.log2_lt (by omega)).mp h2
  · obtain ⟨a, B, H', cls, d, _, _, _, _, _, _, _, z⟩ := h
    exact z
theorem SlF.drops (n : Nat) : ∀ xs : List (Option SV), SlF n xs (List.replicate xs.length none)
  | [] => .nil
  | _ :: r => .drop (SlF.drops n r)
end Lo
end
section
set_option Elab.async false
set_option linter.all false
set_option autoImplicit false
set_option maxRecDepth 100000
set_option maxHeartbeats 1000000
/-! own objects, one within another, that stand for good from now on -/
namespace Lo
open PySem PySem.Spec PyProof.Rows L2 Evl
/-- f tells of some own objects what datum they are -/
def relS (f : Nat → Option D) : SV → SV
  | .p k => match f k with
    | some d => .d d
    | none => .p k
  | s => s
def relO (f : Nat → Option D) (k : Nat) (o : OW) : OW := match f k with
  | some _ => .gone
  | none => match o with
    | .lst xs => .lst (xs.map (relS f))
    | .ins c fs => .ins c (fs.map fun p => (p.1, relS f p.2))
    | .dct kvs => .dct (kvs.map fun p => (p.1, relS f p.2))
    | o => o
def relOs (f : Nat → Option D) : Nat → List OW → List OW
  | _, [] => []
  | k, o :: os => relO f k o :: relOs f (k + 1) os
def TwV (f : Nat → Option D) (s : SV) (y : D) : Prop := match s with
  | .d x => x = y
  | .p k => f k = some y
  | _ => False
def TwL (f : Nat → Option D) : List SV → List D → Prop
  | [], ys => ys = []
  | s :: ss, ys => ∃ y r, ys = y :: r ∧ TwV f s y ∧ TwL f ss r
def TwO (f : Nat → Option D) (own : List OW) (k : Nat) (d : D) : Prop := match d with
  | .lst xs => ∃ ss, own[k]? = some (.lst ss) ∧ TwL f ss xs
  | .dct ks vs => ∃ kvs, own[k]? = some (.dct kvs) ∧ kvs.map (·.1) = ks ∧ TwL f (kvs.map (·.2)) vs
  | _ => False
section
variable {T : Tb} {b : Bd} {W : Wd} {own : List OW} {f : Nat → Option D}
open Classical in
noncomputable def frzG (f : Nat → Option D) (W : Wd) : Hp := fun a => if (∃ k d, W.as[k]? = some a ∧ f k = some d) then W.H a else W.G a
theorem frzG_in {a : Addr} {k : Nat} {d : D} (ha : W.as[k]? = some a) (hf : f k = some d) : frzG f W a = W.H a := if_pos ⟨k, d, ha, hf⟩
theorem frzG_out {a : Addr} (h : ∀ k d, W.as[k]? = some a → f k = some d → False) : frzG f W a = W.G a := if_neg fun ⟨k, d, h1, h2⟩ => h k d h1 h2
theorem TwO.at (h : HA T b W own) {k : Nat} {d : D} (t : TwO f own k d) : ∃ a, W.as[k]? = some a ∧ W.G a = none ∧ b.B a = none ∧ ¬ b.N a ∧ W.H a ≠ none := by
  cases d with
  | lst xs =>
    obtain ⟨ss, e, _⟩ := t
    obtain ⟨a, ea, g, bb, n, vs, eh, _⟩ := h.ow.get e
    exact ⟨a, ea, g, bb, n, fun z => by rw [eh] at z; cases z⟩
  | dct ks vs =>
    obtain ⟨ss, e, _⟩ := t
    obtain ⟨a, ea, g, bb, n, vs, eh, _⟩ := h.ow.get e
    exact ⟨a, ea, g, bb, n, fun z => by rw [eh] at z; cases z⟩
  | _ => exact t.elim
theorem frz_ex (h : HA T b W own) (hf : ∀ k d, f k = some d → TwO f own k d) : Ex W.G (frzG f W) := fun a o q => by
  rw [frzG_out]
  · exact q
  · intro k d h1 h2
    obtain ⟨a', e, g, _⟩ := (hf k d h2).at h
    cases h1.symm.trans e
    rw [g] at q
    cases q
mutual
theorem frz_rep (h : HA T b W own) (hf : ∀ k d, f k = some d → TwO f own k d) : ∀ {d : D} {k : Nat} {a : Addr}, f k = some d → W.as[k]? = some a → Rep T (frzG f W) d (.ref a)
  | .lst xs, k, a, e, ea => by
    obtain ⟨ss, eo, t⟩ := (show ∃ ss, own[k]? = some (.lst ss) ∧ TwL f ss xs from hf k _ e)
    obtain ⟨a', ea', _, _, _, vs, eh, r⟩ := h.ow.get eo
    cases ea.symm.trans ea'
    exact ⟨a, vs, rfl, (frzG_in ea e).trans eh, frz_repL h hf t r⟩
  | .dct ks ys, k, a, e, ea => by
    obtain ⟨kvs, eo, ek, t⟩ := (show ∃ kvs, own[k]? = some (.dct kvs) ∧ kvs.map (·.1) = ks ∧ TwL f (kvs.map (·.2)) ys from hf k _ e)
    obtain ⟨a', ea', _, _, _, gs, eh, en, r⟩ := h.ow.get eo
    cases ea.symm.trans ea'
    exact ⟨a, gs, rfl, (frzG_in ea e).trans eh, en.trans ek, frz_repL h hf t r⟩
  | .non, k, a, e, ea => (show False from hf k _ e).elim
  | .bl _, k, a, e, ea => (show False from hf k _ e).elim
  | .int _, k, a, e, ea => (show False from hf k _ e).elim
  | .str _, k, a, e, ea => (show False from hf k _ e).elim
  | .tup _, k, a, e, ea => (show False from hf k _ e).elim
  | .obj _ _, k, a, e, ea => (show False from hf k _ e).elim
theorem frz_repL (h : HA T b W own) (hf : ∀ k d, f k = some d → TwO f own k d) : ∀ {ys : List D} {ss : List SV} {vs : List V}, TwL f ss ys → RpSL T W ss vs → RepL T (frzG f W) ys vs
  | [], [], vs, _, r => r
  | [], _ :: _, vs, ⟨_, _, e, _⟩, r => nomatch e
  | y :: ys, [], vs, e, r => nomatch (show y :: ys = [] from e)
  | y :: ys, s :: ss, vs, ⟨y', r', e, t1, t2⟩, ⟨v, w, ev, r1, r2⟩ => by
    simp only [List.cons.injEq] at e
    obtain ⟨e1, e2⟩ := e
    subst e1 e2
    refine ⟨v, w, ev, ?_, frz_repL h hf t2 r2⟩
    cases s with
    | d x =>
      have t1' : x = y := t1
      rw [← t1']
      exact Rep.mono (frz_ex h hf) r1
    | p k =>
      obtain ⟨a, ea, rfl⟩ := r1
      exact frz_rep h hf (d := y) t1 ea
    | x _ _ _ => exact t1.elim
    | scr _ => exact t1.elim
    | x0 _ => exact t1.elim
end
theorem rel_S (h : HA T b W own) (hf : ∀ k d, f k = some d → TwO f own k d) {s : SV} {v : V} (r : RpS T W s v) : RpS T ⟨frzG f W, W.H, W.as⟩ (relS f s) v := by
  have l : Le W ⟨frzG f W, W.H, W.as⟩ := ⟨frz_ex h hf, List.prefix_refl _⟩
  cases s with
  | p k =>
    cases e : f k with
    | none =>
      have er : relS f (.p k) = .p k := by
        show (match f k with | some d => SV.d d | none => SV.p k) = _
        rw [e]
      rw [er]
      exact RpS.mono l r
    | some d =>
      have er : relS f (.p k) = .d d := by
        show (match f k with | some d => SV.d d | none => SV.p k) = _
        rw [e]
      rw [er]
      obtain ⟨a, ea, rfl⟩ := r
      exact frz_rep h hf e ea
  | d x => exact RpS.mono l r
  | x _ _ _ => exact RpS.mono l r
  | scr _ => exact RpS.mono l r
  | x0 _ => exact RpS.mono l r
theorem rel_SL (h : HA T b W own) (hf : ∀ k d, f k = some d → TwO f own k d) : ∀ {ss : List SV} {vs : List V}, RpSL T W ss vs → RpSL T ⟨frzG f W, W.H, W.as⟩ (ss.map (relS f)) vs
  | [], _, r => r
  | _ :: _, _, ⟨v, w, e, r1, r2⟩ => ⟨v, w, e, rel_S h hf r1, rel_SL h hf r2⟩
theorem rel_Sl (h : HA T b W own) (hf : ∀ k d, f k = some d → TwO f own k d) : ∀ {σ : L2.St} {ds : List (Option SV)}, SlL T W σ ds → SlL T ⟨frzG f W, W.H, W.as⟩ σ (ds.map (Option.map (relS f)))
  | [], ds, r => by
    have r' : ds = [] := r
    subst r'
    exact rfl
  | x :: xs, _, ⟨s, r, rfl, h1, h2⟩ => ⟨s.map (relS f), _, rfl, fun sv e => by
    cases s with
    | none => cases e
    | some s0 =>
      cases e
      obtain ⟨v, ev, rv⟩ := h1 s0 rfl
      exact ⟨v, ev, rel_S h hf rv⟩, rel_Sl h hf h2⟩
theorem rel_Ow (h : HA T b W own) (hf : ∀ k d, f k = some d → TwO f own k d) : ∀ {as : List Addr} {os : List OW} (n : Nat), (∀ i a, as[i]? = some a → W.as[n + i]? = some a) → OwL T b W as os → OwL T b ⟨frzG f W, W.H, W.as⟩ as (relOs f n os)
  | [], os, n, _, r => by
    have r' : os = [] := r
    subst r'
    exact rfl
  | a :: as, _, n, ha, ⟨o, r, rfl, h1, h2⟩ => by
    have e0 : W.as[n]? = some a := ha 0 a rfl
    refine ⟨relO f n o, relOs f (n + 1) r, rfl, ?_, rel_Ow h hf (n + 1) (fun i c e => by have := ha (i + 1) c (by simpa using e); rw [← this]; congr 1; omega) h2⟩
    cases e : f n with
    | some d =>
      have hn : relO f n o = .gone := by unfold relO; rw [e]
      rw [hn]
      obtain ⟨a', ea', _, _, _, q⟩ := (hf n d e).at h
      cases e0.symm.trans ea'
      exact q
    | none =>
      have out : frzG f W a = W.G a := frzG_out fun k d h1 h2 => by
        have hk := List.getElem?_eq_some_iff.mp h1
        have hn := List.getElem?_eq_some_iff.mp e0
        have := (List.getElem_inj h.nd).mp (hk.2.trans hn.2.symm)
        subst this
        rw [e] at h2
        cases h2
      cases o with
      | lst xs =>
        have hn : relO f n (.lst xs) = .lst (xs.map (relS f)) := by unfold relO; rw [e]
        rw [hn]
        obtain ⟨g, b1, b2, vs, eh, rr⟩ := h1
        exact ⟨out.trans g, b1, b2, vs, eh, rel_SL h hf rr⟩
      | hand =>
        have hn : relO f n .hand = .hand := by unfold relO; rw [e]
        rw [hn]
        obtain ⟨g, b1, b2, x⟩ := h1
        exact ⟨out.trans g, b1, b2, x.mono (frz_ex h hf) rfl⟩
      | gone =>
        have hn : relO f n .gone = .gone := by unfold relO; rw [e]
        rw [hn]
        exact h1
      | ins c fs =>
        have hn : relO f n (.ins c fs) = .ins c (fs.map fun p => (p.1, relS f p.2)) := by unfold relO; rw [e]
        rw [hn]
        obtain ⟨g, b1, b2, dx, gs, eh, en, rr⟩ := h1
        refine ⟨out.trans g, b1, b2, dx, gs, eh, by rw [List.map_map]; exact en, ?_⟩
        have := rel_SL h hf rr
        rw [List.map_map] at this ⊢
        exact this
      | dct kvs =>
        have hn : relO f n (.dct kvs) = .dct (kvs.map fun p => (p.1, relS f p.2)) := by unfold relO; rw [e]
        rw [hn]
        obtain ⟨g, b1, b2, gs, eh, en, rr⟩ := h1
        refine ⟨out.trans g, b1, b2, gs, eh, by rw [List.map_map]; exact en, ?_⟩
        have := rel_SL h hf rr
        rw [List.map_map] at this ⊢
        exact this
      | ho q =>
        have hn : relO f n (.ho q) = .ho q := by unfold relO; rw [e]
        rw [hn]
        obtain ⟨g, b1, b2, x⟩ := h1
        exact ⟨out.trans g, b1, b2, x⟩
theorem HA.freezeF (h : HA T b W own) (hf : ∀ k d, f k = some d → TwO f own k d) : HA T b ⟨frzG f W, W.H, W.as⟩ (relOs f 0 own) ∧ Le W ⟨frzG f W, W.H, W.as⟩ := by
  refine ⟨⟨fun a o q => ?_, h.bh, fun x n => ?_, h.nd, rel_Ow h hf 0 (fun i a e => by simpa using e) h.ow⟩, ⟨frz_ex h hf, List.prefix_refl _⟩⟩
  · have q' : frzG f W a = some o := q
    unfold frzG at q'
    split at q'
    · exact q'
    · exact h.gh a o q'
  · refine ⟨?_, (h.nn x n).2⟩
    show frzG f W x = none
    rw [frzG_out]
    · exact (h.nn x n).1
    · intro k d h1 h2
      obtain ⟨a, ea, _, _, nn, _⟩ := (hf k d h2).at h
      cases h1.symm.trans ea
      exact nn n
/-- from here on the own objects that f tells of stand for good -/
theorem ws_frz {ds : List (Option SV)} {t : TS} {Φ : Po} (f : Nat → Option D) (hf : ∀ k d, f k = some d → TwO f own k d) (h : WS T b t (relOs f 0 own) (ds.map (Option.map (relS f))) Φ) : WS T b t own ds Φ := fun W σ ha sl D d => by
  obtain ⟨h2, l2⟩ := ha.freezeF hf
  exact h _ σ h2 (rel_Sl ha hf sl) D (d.up l2)
end
end Lo
end
section
set_option Elab.async false
set_option linter.all false
set_option autoImplicit false
set_option maxRecDepth 100000
set_option maxHeartbeats 2000000
/-! rules that serve a list or a tuple -/
namespace LX
open PySem PySem.Spec PyProof.Rows L2 PySem.W PySem.Calls
section
variable {X : Cx}
/-- xs += ys, both lists -/
def ipLst : TIp := fun x y H Q => ∃ (l b : Addr) (xs zs : List V), x = .ref l ∧ y = .ref b ∧ H l = some (.lst xs) ∧ H b = some (.lst zs) ∧ xs.length + zs.length ≤ sizeLine ∧ Q (.ref l) (upd H l (.lst (xs ++ zs)))
theorem ip_lst : PIp X .Add ipLst := by
  intro pins s σ H x y v u Q I r1 r2 h
  obtain ⟨l, b, xs, zs, rfl, rfl, hH, hB, hz, q⟩ := h
  cases r1
  cases r2
  obtain ⟨z, its, n, r, hl, e⟩ := I.lstM hH
  obtain ⟨z2, its2, n2, r2, hl2, e2⟩ := I.lstM hB
  have t1 : s.TypeIs (.ref l) "list" := ⟨_, e, rfl⟩
  have t2 : s.TypeIs (.ref b) "list" := ⟨_, e2, rfl⟩
  have look : typeLookup (.type "list") (dunderI "add") = pure (some (.builtin "list.__iadd__")) := F.slot_list_iadd.lookup
  have sq : isSeqSlot (some (.builtin "list.__iadd__")) = true := by decide +kernel
  have noFill : fillsInplaceSlot (.type "list") "add" (Operator.Add == .Add) = pure false := by
    unfold fillsInplaceSlot
    show (typeLookup (.type "list") (dunderI "add") >>= fun fi => pure (fi.isSome && !isSeqSlot fi)) = pure false
    rw [look]
    show (pure (true && !isSeqSlot (some (.builtin "list.__iadd__"))) : Sem Bool) = pure false
    rw [sq]
    rfl
  have sl : seqSlot? (.type "list") (dunderI "add") = pure (some (.builtin "list.__iadd__")) := by
    unfold seqSlot?
    rw [look]
    simp only [pure_bind, sq, Bool.not_true, Bool.false_eq_true, if_false]
  unfold inplaceOp
  refine wpAny_holding ?_
  refine wpAny_bind (wpAny_typeOf t1 (wpAny_bind (wpAny_of_eq noFill ?_)))
  show wpAny _ _ (if false = true then _ else _) _ _ _
  rw [if_neg Bool.false_ne_true]
  refine wpAny_bind (binaryOp1_none (nm := "add") t1 t2 noFill_list_add ?_)
  refine wpAny_bind (wpAny_of_eq sl ?_)
  refine wpAny_bind (wpAny_rule ?_)
  have hsz : its.toArray.size + its2.toArray.size ≤ sizeLine := by rw [List.size_toArray, List.size_toArray]; omega
  have short : ¬ (!its.toArray.isEmpty && Builtin.List.listTooLong (its.toArray.size + its2.toArray.size)) = true := by
    rw [notLongL hsz, Bool.and_false]
    exact Bool.false_ne_true
  refine call_meets F.slot_list_iadd t1 F.entry_list_iadd (F.args_list_iadd_2 _ _)
    (AutoSeq1.list___iadd___list_list_0 l its.toArray n b its2.toArray n2 short (by rw [List.size_toArray]; omega) (by omega)) ⟨e, e2, ?_⟩
  refine ⟨.ref l, _, I.lset (its' := its ++ its2) hH e (by simp) (r.append r2) ?_, rfl, q⟩
  rw [List.length_append]
  omega
/-- a target that unpacks a tuple or a list -/
def gSeq (K : Frag) (n : Nat) (t : TGs) : TG := fun v σ H Q => ∃ a xs, v = .ref a ∧ (SqT K H a xs ∨ SqL K H a xs) ∧ xs.length = n ∧ t xs σ H Q
theorem pg_seq {es : List Expr} {k : Nat} {t : TGs} {n : Nat} {pos : Pos} (hc : X.calm = true) (h : PGs X es t)
    (hn : (assignEach es X.env).length = n := by rfl) (hst : (assignEach es X.env).findIdx? (·.1) = none := by rfl) : PG X (.Tuple es k pos) (gSeq X.K n t) := by
  refine ⟨fun pins s σ H v u Q I r ⟨a, xs, e1, hq, hl, hw⟩ => ?_⟩
  rcases hq with hq | hq
  · exact (pg_tup (pos := pos) (k := k) hc h hn hst).run pins s σ H v u Q I r ⟨a, xs, e1, hq, hl, hw⟩
  · exact (pg_lst (pos := pos) (k := k) hc h hn hst).run pins s σ H v u Q I r ⟨a, xs, e1, hq, hl, hw⟩
theorem extT (l : Addr) (items : Array Value) (n : Nat) (b : Addr) (more : Array Value) (m : Nat) (od : Option Addr) (osl : Array (Option Value)) (h0 : ¬ (!items.isEmpty && Builtin.List.listTooLong (items.size + more.size)) = true) (h1 : items.size ≤ sizeLine) (h2 : items.size + more.size ≤ sizeLine + 1) :
    Meets (Builtin.«list.extend» ⟨[.ref l, .ref b], []⟩) (fun _ R s => s.heap.get? l = some { cls := .type "list", data := .seq items n } ∧ s.heap.get? b = some ⟨.type "tuple", od, .seq more m, osl⟩ ∧
      R (.ok (.ret Value.none)) { s with heap := s.heap.update l (Obj.mapSeq fun x => x ++ more), toks := s.toks }) :=
  .of_wp fun prog w A R s h => by
    obtain ⟨hp, g, d, tk, os⟩ := s
    obtain ⟨e1, e2, h⟩ := h
    have f1 := AutoSeq1.idx_int
    have f2 := AutoSeq1.sub_tuple_tuple
    have f3 := AutoSeq1.sub_list_list
    have f4 := AutoSeq1.sub_tuple_list
    have f5 := AutoSeq1.sub_list_tuple
    have hz : (items ++ more).size ≤ sizeLine + 1 := by rw [Array.size_append]; exact h2
    wp_walk using (wpAny_updateSeq e1 rfl (hz := h1) (_hz' := hz)), AutoSeq1.wpAny_loadPart' e1, AutoSeq1.wpAny_loadPart' e2
    exact ⟨_, rfl, h⟩
/-- xs.extend(a list or a tuple) -/
def rExt (K : Frag) : V → List V → Hp → VK → Prop := fun x vs H Q => ∃ (l b : Addr) (xs zs : List V), x = .ref l ∧ vs = [.ref b] ∧ H l = some (.lst xs) ∧ (H b = some (.lst zs) ∨ SqT K H b zs) ∧ xs.length + zs.length ≤ sizeLine ∧ Q .non (upd H l (.lst (xs ++ zs)))
theorem mt_ext : MtM X "list.extend" (rExt X.K) := by
  intro pins s σ H x vs v us Q I rx rv h
  obtain ⟨l, b, xs, zs, rfl, rfl, hH, hB, hz, q⟩ := h
  rcases hB with hB | hB
  · exact mt_extend pins s σ H _ _ v us Q I rx rv ⟨l, b, xs, zs, rfl, rfl, hH, hB, hz, q⟩
  cases rx
  obtain ⟨u, rfl, ru⟩ := rv.one
  cases ru
  obtain ⟨z, its, n, r, hl, e⟩ := I.lstM hH
  obtain ⟨its2, r2, ⟨o, eo, co, n2, so⟩, z2⟩ := I.tuple hB
  have r2l := r2.length
  have hsz : its.toArray.size + its2.toArray.size ≤ sizeLine := by rw [List.size_toArray, List.size_toArray]; omega
  have short : ¬ (!its.toArray.isEmpty && Builtin.List.listTooLong (its.toArray.size + its2.toArray.size)) = true := by
    rw [notLongL hsz, Bool.and_false]
    exact Bool.false_ne_true
  obtain ⟨oc, od, oda, osl⟩ := o
  subst co so
  refine call_meets F.slot_list_extend ⟨_, e, rfl⟩ F.entry_list_extend (F.args_list_extend_2 _ _)
    (extT l its.toArray n b its2.toArray n2 od osl short (by rw [List.size_toArray]; omega) (by omega)) ⟨e, eo, ?_⟩
  refine ⟨.non, _, I.lset (its' := its ++ its2) hH e (by simp) (r.append r2) ?_, rfl, q⟩
  rw [List.length_append]
  omega
end
end LX
end
section
set_option Elab.async false
set_option linter.all false
set_option autoImplicit false
set_option maxRecDepth 100000
set_option maxHeartbeats 2000000
/-! enumerate of a list or a tuple -/
namespace LX
open PySem PySem.Spec PyProof.Rows L2 PySem.W PySem.Calls
def tupIt (l : Addr) : Obj := { cls := .type "tuple_iterator", data := .fields #[.ref l, .int 0 0] }
def enumAt (a : Addr) : Obj := { cls := .type "enumerate", data := .fields #[.none, .bool false, .ref a, rawInt 0, .none, .none] }
theorem enum_newT (l : Addr) (items : Array Value) (n : Nat) (dct : Option Addr) (sl : Array (Option Value)) :
    Meets (Builtin.«enumerate.__new__» ⟨[.type "enumerate", .ref l], []⟩) (fun _ R s => s.heap.get? l = some ⟨.type "tuple", dct, .seq items n, sl⟩ ∧
      R (.ok (.ret (.ref (s.heap.push (tupIt l)).objs.size))) { s with heap := (s.heap.push (tupIt l)).push (enumAt s.heap.objs.size) }) :=
  .of_wp fun prog w A R s ⟨hl, h⟩ => by
    obtain ⟨hp, g, d, tk, os⟩ := s
    have hsub := sub_enumerate
    have hT : Heap.IsTuple (Shared.heap ⟨hp, g, d, tk, os⟩) l items := ⟨_, hl, rfl, n, rfl⟩
    wp_walk using AutoSeq1.wpAny_loadPart' hl
    refine wpAny_stack_any fun st => (wpAny_pure ?_)
    split
    · rename_i c _ _ _ _ _
      cases (c == Value.type "enumerate") <;> (wp_walk using AutoSeq1.wpAny_loadPart' hl, wpAny_pyIter_tuple hT) <;> exact ⟨_, rfl, h⟩
    · wp_walk using AutoSeq1.wpAny_loadPart' hl, wpAny_pyIter_tuple hT
      exact ⟨_, rfl, h⟩
section
variable {prog : Program} {w : World} {A : Around} {E : Value → Shared → Prop} {s : Shared}
theorem call_enumT {l : Addr} {items : Array Value} {Q : Value → Shared → Prop} (hL : IsTup s.heap l items)
    (h : ∀ h', IsEnum h' (s.heap.objs.size + 1) s.heap.objs.size 0 .none → h'.IsTupleIter s.heap.objs.size l 0 → h'.objs.size = s.heap.objs.size + 2 →
      (∀ b o, s.heap.get? b = some o → h'.get? b = some o) → Q (.ref (s.heap.objs.size + 1)) { s with heap := h' }) :
    wpAny (model prog w) A (call (.type "enumerate") [.ref l]) Q E s := by
  obtain ⟨⟨c, dct, dt, sl⟩, hl, hc, n, hd⟩ := hL
  have hc' : c = .type "tuple" := hc
  have hd' : dt = .seq items n := hd
  subst hc' hd'
  refine callType_new F.called_enumerate (by decide) (F.typeCall_enumerate_1 _) (F.newCall_enumerate_1 _) (fun obj => F.args_object_init_2 obj _) F.entry_enumerate_new (enum_newT l items n dct sl) ⟨hl, ?_⟩
  have hz : (s.heap.push (tupIt l)).objs.size = s.heap.objs.size + 1 := Heap.size_push ..
  show _ ∧ _
  rw [hz]
  have he : IsEnum ((s.heap.push (tupIt l)).push (enumAt s.heap.objs.size)) (s.heap.objs.size + 1) s.heap.objs.size 0 .none := by
    have q := Heap.get?_push_size (s.heap.push (tupIt l)) (o := enumAt s.heap.objs.size) rfl
    rw [hz] at q
    exact q
  refine ⟨⟨_, he, rfl⟩, h _ he ⟨_, Heap.get?_push_of_some _ (Heap.get?_push_size _ rfl), rfl, rfl⟩ (by rw [Heap.size_push, hz]) fun b o x => Heap.get?_push_of_some _ (Heap.get?_push_of_some _ x)⟩
end
/-- the tuple at a, each item in a new pair -/
def Itu (K : Frag) (a : Addr) : It :=
  ⟨fun i H => ∃ (xs : List V) (x : V), SqT K H a xs ∧ xs[i]? = some x, fun i H v H' => ∃ T x, v = .ref T ∧ H T = none ∧ H' = upd H T (.tup [.int (i : Nat), x]) ∧ ∀ xs, SqT K H a xs → xs[i]? = some x, fun i H => ∃ xs : List V, SqT K H a xs ∧ xs.length = i⟩
theorem turn_enumT {P : Program} {w : World} {K : Frag} {elts : List Expr} {kk : Nat} {tpos : Pos} (a e it : Addr) :
    Turn P w K (.Tuple elts kk tpos) (Itu K a) [e, it] e (fun i h => (∃ old, IsEnum h e it ((i : Nat) : Int) old) ∧ h.IsTupleIter it a i ∧ e ≠ it ∧ a ≠ it ∧ e ≠ a) where
  mem := by simp
  obj := fun i h st b hb => by
    obtain ⟨⟨old, he⟩, ⟨o, ho, hc, hd⟩, _⟩ := st
    have e' : b = e ∨ b = it := by simpa using hb
    rcases e' with z | z
    · (rw [z]; exact ⟨_, he, fun v q => nomatch q⟩)
    · (rw [z]; exact ⟨o, ho, fun v q => by rw [hd] at q; cases q⟩)
  keep := fun i h h' st k => let ⟨⟨old, he⟩, hi, hne⟩ := st; ⟨⟨old, k e (by simp) _ he⟩, hi.at fun o q => k it (by simp) o q, hne⟩
  item := by
    intro X hP hw hK hc i pins s σ H E I hf ⟨⟨old, he⟩, hit, hne, hai, hea⟩ ⟨xs, x, hq, hx⟩
    subst hP hw hK
    obtain ⟨its, rv, p, hz⟩ := I.tuple hq
    obtain ⟨u, hu, ru⟩ := rv.get hx
    have hel : e < s.heap.objs.size := Heap.lt_size he
    have hil : it < s.heap.objs.size := by obtain ⟨_, q, _⟩ := hit; exact Heap.lt_size q
    have hlt : i < its.toArray.size := by
      have := (List.getElem?_eq_some_iff.mp hu).1
      simpa using this
    refine wpAny_pyNext_enum_itemD (Draws.tuple (A := X.A.in1) (I.ok.hd hc) it a hai its.toArray) he ⟨hit, p⟩ hlt hne (by simp [hne, hea]) fun y h' tk hy ho hst hT hsz hk => ?_
    have ey : y = u := by
      have hy' : its.toArray[i]? = some y := hy
      rw [List.getElem?_toArray, hu] at hy'
      exact (Option.some.inj hy').symm
    subst ey
    refine ⟨_, rfl, wpAny_letOwnedTupleGo_enum (s := { s with heap := h', toks := tk + 1 }) ho fun h'' he' sb => ?_⟩
    have hT2 : h''.get? s.heap.objs.size = some { cls := .type "tuple", data := .seq #[.int i tk, y] } := (sb.2 _ (Nat.ne_of_gt hel)).trans hT
    have new : ObjOk X.prog X.w (upd H s.heap.objs.size (.tup [.int (i : Nat), x])) h'' s.heap.objs.size (.tup [.int (i : Nat), x]) :=
      ⟨by show 2 ≤ sizeLine; decide, [.int i tk, y], .cons ⟨_, rfl⟩ (.cons ru .nil), ⟨_, hT2, rfl, _, rfl⟩⟩
    have I1 : Inv X pins σ (upd H s.heap.objs.size (.tup [.int (i : Nat), x])) { s with heap := h'', toks := tk + 1 } :=
      I.turnedNew (ch := [e, it]) (fun b ob hb q => (sb.2 b (fun z => hb (by simp [z]))).trans (hk b ob (fun z => hb (by simp [z])) (fun z => hb (by simp [z])) q)) hf (Nat.le_refl _) new
    refine ⟨.ref s.heap.objs.size, _, I1, rfl, ⟨_, x, rfl, I.hok.fresh (Nat.le_refl _), rfl, fun ys hy => by rw [I.tuple_inj hy hq]; exact hx⟩, ⟨⟨y, ?_⟩, hst.1.at fun o q => (sb.2 it (Ne.symm hne)).trans q, hne, hai, hea⟩, fun b hb => ?_⟩
    · have e1 : ((i + 1 : Nat) : Int) = (i : Int) + 1 := by omega
      rw [e1]
      exact he'
    · have e' : b = e ∨ b = it := by simpa using hb
      have hb' : b < s.heap.objs.size := by rcases e' with z | z <;> rw [z] <;> assumption
      rw [upd_ne (Nat.ne_of_lt hb')]
      exact (hf b hb).1
  done := by
    intro X hP hw hK hc i pins s σ H E I hf ⟨⟨old, he⟩, hit, hne, hai, hea⟩ ⟨xs, hq, hx⟩
    subst hP hw hK
    obtain ⟨its, rv, p, hz⟩ := I.tuple hq
    obtain ⟨f0, f1, f2, f3, f4, f5⟩ := hf it (by simp)
    have hl : its.toArray.size = i := by rw [List.size_toArray, ← rv.length]; exact hx
    refine wpAny_pyNext_enum_endD (Draws.tuple (A := X.A.in1) (I.ok.hd hc) it a hai its.toArray) he (hl.symm ▸ ⟨hit, p⟩) fun h' eb => ⟨rfl, I.turned (t' := s.toks) (fun b o hb q => eb b o hb q) f0 f1 f3 f4 f5⟩
  self := fun A i s Q E st h => let ⟨⟨_, he⟩, _⟩ := st; wpAny_pyIter_enum he h
/-- enumerate of a list or a tuple -/
def iEnA (K : Frag) (ta : TA) : TI := fun σ H R => ta σ H fun vs H1 => ∃ a xs, vs = [.ref a] ∧ ((SqL K H1 a xs ∧ R (Ite K a) H1) ∨ (SqT K H1 a xs ∧ R (Itu K a) H1))
theorem pi_enA {X : Cx} {e : Expr} {ta : TA} {p pos tpos : Pos} {elts : List Expr} {kk : Nat} (hg : Gl X "enumerate") (hm : X.mg "enumerate" = none) (ha : PA X [e] ta) (hs : starEach [e] X.env = [(false, eval e X.env)] := by rfl) :
    PI X (.Tuple elts kk tpos) (.Call (.Name "enumerate" p) [e] [] pos) (iEnA X.K ta) := by
  refine ⟨fun pins s σ H R I h => ?_⟩
  refine Call_ (ld_blt I hg hm boot_enumerate (PyProof.Rows.callWith_type1 (thn (ha.run pos pins s σ H _ I h) fun us s1 ⟨vs, H1, I1, r1, q1⟩ => ?_) hs rfl))
  obtain ⟨a, xs, ex, hq⟩ := q1
  subst ex
  cases r1 with
  | cons r rr =>
    cases rr
    cases r
    have two : ∀ b, b = s1.heap.objs.size + 1 ∨ b = s1.heap.objs.size → s1.heap.objs.size ≤ b := fun b z => by rcases z with z | z <;> rw [z] <;> omega
    rcases hq with ⟨hq, q⟩ | ⟨hq, q⟩
    · obtain ⟨its, rv, p', hz⟩ := I1.list hq
      refine call_enumerate_list p'.isList fun h' he hit hsz hk => wpAny_pyIter_enum he ?_
      have I2 : Inv X pins σ H1 { s1 with heap := h' } := I1.kept (t' := s1.toks) hk
      refine ⟨s1.heap.objs.size + 1, [s1.heap.objs.size + 1, s1.heap.objs.size], _, _, H1, rfl, I2, turn_enum a (s1.heap.objs.size + 1) s1.heap.objs.size, ⟨⟨.none, he⟩, hit, Nat.succ_ne_self _⟩, fun b hb => ?_, q⟩
      have hle := two b (by simpa using hb)
      exact I1.fpOk hle (I1.hok.fresh hle)
    · obtain ⟨its, rv, p', hz⟩ := I1.tuple hq
      have hl : a < s1.heap.objs.size := by obtain ⟨o, ho, _⟩ := p'; exact Heap.lt_size ho
      refine call_enumT p' fun h' he hit hsz hk => wpAny_pyIter_enum he ?_
      have I2 : Inv X pins σ H1 { s1 with heap := h' } := I1.kept (t' := s1.toks) hk
      refine ⟨s1.heap.objs.size + 1, [s1.heap.objs.size + 1, s1.heap.objs.size], _, _, H1, rfl, I2, turn_enumT a (s1.heap.objs.size + 1) s1.heap.objs.size, ⟨⟨.none, he⟩, hit, Nat.succ_ne_self _, Nat.ne_of_lt hl, fun z => by rw [← z] at hl; exact absurd hl (Nat.not_lt.mpr (Nat.le_succ _))⟩, fun b hb => ?_, q⟩
      have hle := two b (by simpa using hb)
      exact I1.fpOk hle (I1.hok.fresh hle)
end LX
end
section
set_option Elab.async false
set_option linter.all false
set_option autoImplicit false
set_option maxRecDepth 100000
set_option maxHeartbeats 1000000
/-! dicts, sets, and what serves a list or a tuple, on data -/
namespace Lo
open PySem PySem.Spec PyProof.Rows L2 Evl
section
variable {T : Tb} {b : Bd} {own : List OW} {ds : List (Option SV)} {P : PSv}
/-- a new own object -/
theorem HA.allocHO {W : Wd} (h : HA T b W own) {p : Addr} {o : OW} {u : HO} (hp : W.H p = none)
    (ho : ∀ W', Le W W' → W'.H p = some u → W'.G p = none → b.B p = none → ¬ b.N p → Ow T b W' p o) :
    HA T b ⟨W.G, upd W.H p u, W.as ++ [p]⟩ (own ++ [o]) ∧ Le W ⟨W.G, upd W.H p u, W.as ++ [p]⟩ := by
  have gp : W.G p = none := fresh_back h.gh hp
  have bp : b.B p = none := fresh_back h.bh hp
  have l : Le W ⟨W.G, upd W.H p u, W.as ++ [p]⟩ := ⟨Ex.refl _, List.prefix_append _ _⟩
  refine ⟨⟨h.gh.trans (Ex.new hp), h.bh.trans (Ex.new hp), fun x n => ?_, nodup_snoc h.nd fun m => h.ow.there p m hp, OwL.snoc (ho _ l upd_same gp bp fun n => (h.nn p n).2 hp) (OwL.step (W := W) l (fun a m => ?_) h.ow)⟩, l⟩
  · obtain ⟨n1, n2⟩ := h.nn x n
    exact ⟨n1, fun q => n2 ((upd_ne (fun (z : x = p) => n2 (z ▸ hp))).symm.trans q)⟩
  · exact ⟨upd_ne (fun (z : a = p) => h.ow.there a m (z ▸ hp)), id⟩
/-- an own object is changed -/
theorem HA.setHO {W : Wd} (h : HA T b W own) {k : Nat} {a : Addr} {o' : OW} {u' : HO} (ha : W.as[k]? = some a) (g : W.G a = none) (bb : b.B a = none) (nb : ¬ b.N a)
    (how : ∀ W', Le W W' → W'.H a = some u' → W'.G a = none → Ow T b W' a o') : HA T b ⟨W.G, upd W.H a u', W.as⟩ (own.set k o') ∧ Le W ⟨W.G, upd W.H a u', W.as⟩ := by
  have l : Le W ⟨W.G, upd W.H a u', W.as⟩ := ⟨Ex.refl _, List.prefix_refl _⟩
  have ne : ∀ {H : Hp} {x : Addr} {o : HO}, H a = none → H x = some o → x ≠ a := fun {H x o} q w z => by
    subst z
    rw [q] at w
    cases w
  refine ⟨⟨fun x o q => (upd_ne (ne g q)).trans (h.gh x o q), fun x o q => (upd_ne (ne bb q)).trans (h.bh x o q), fun x n => ?_, h.nd, OwL.set l (how _ l upd_same g) ha h.nd (fun c _ z => ⟨upd_ne z, id⟩) h.ow⟩, l⟩
  exact ⟨(h.nn x n).1, fun q => (h.nn x n).2 ((upd_ne (fun (z : x = a) => nb (z ▸ n))).symm.trans q)⟩

/-! ### unpacked, a tuple or a list -/
theorem wg_seq2 {K : PySem.W.Frag} (hK : T.K = K) {j k : Nat} {u x y : D} (hu : u = .tup [x, y] ∨ u = .lst [x, y]) {P : List OW → List (Option SV) → Prop} (p : P own ((ds.set j (some (.d x))).set k (some (.d y)))) : WG T b (LX.gSeq K 2 (gCons (gName j) (gCons (gName k) gNil))) [j, k] u own ds P := fun W σ v ha sl r Q q => by
  subst hK
  have fin : ∀ a v1 v2, Rep T W.G x v1 → Rep T W.G y v2 → (SqT T.K W.H a [v1, v2] ∨ SqL T.K W.H a [v1, v2]) → LX.gSeq T.K 2 (gCons (gName j) (gCons (gName k) gNil)) (.ref a) σ W.H Q := fun a v1 v2 h1 h2 hs => by
    refine ⟨a, _, rfl, hs, rfl, v1, [v2], rfl, v2, [], rfl, rfl, ?_⟩
    refine q _ own _ W ha (Le.refl W) (SlL.set (fun sv e => by cases e; exact h2) k (SlL.set (fun sv e => by cases e; exact h1) j sl)) (by simp) (fun i hi => ?_) p
    have n1 : j ≠ i := fun z => hi (by simp [z])
    have n2 : k ≠ i := fun z => hi (by simp [z])
    rw [List.getElem?_set_ne n2, List.getElem?_set_ne n1]
  rcases hu with rfl | rfl
  · obtain ⟨a, vs, rfl, hs, v1, r1, rfl, h1, v2, r2, rfl, h2, rfl⟩ := r
    exact fin a v1 v2 h1 h2 (.inl (ex_t ha.gh hs))
  · obtain ⟨a, vs, rfl, hs, v1, r1, rfl, h1, v2, r2, rfl, h2, rfl⟩ := r
    exact fin a v1 v2 h1 h2 (.inr (sq_of (ha.gh _ _ hs)))
/-! ### enumerate -/
def enumD : Nat → List D → List D
  | _, [] => []
  | i, x :: r => .tup [.int i, x] :: enumD (i + 1) r
theorem enumD_len : ∀ (i : Nat) (xs : List D), (enumD i xs).length = xs.length
  | _, [] => rfl
  | i, x :: r => by simp [enumD, enumD_len (i + 1) r]
theorem enumD_get : ∀ {i j : Nat} {xs : List D} {y : D}, (enumD i xs)[j]? = some y → ∃ x, xs[j]? = some x ∧ y = .tup [.int ((i + j : Nat) : Int), x]
  | _, _, [], _, h => by simp [enumD] at h
  | i, 0, x :: r, y, h => by
    have h' : D.tup [.int i, x] = y := by simpa [enumD] using h
    exact ⟨x, rfl, h'.symm⟩
  | i, j + 1, x :: r, y, h => by
    obtain ⟨z, h1, h2⟩ := enumD_get (i := i + 1) (j := j) (xs := r) (y := y) (by simpa [enumD] using h)
    exact ⟨z, by simpa using h1, by rw [h2, show i + 1 + j = i + (j + 1) by omega]⟩
theorem enum_tur {W2 : Wd} {own2 : List OW} (ha : HA T b W2 own2) {x : D} {v v0 : V} {Tt : Addr} {i : Nat} {H' : Hp} (hv : v = .ref Tt) (hT : W2.H Tt = none) (hH : H' = upd W2.H Tt (.tup [.int (i : Nat), v0])) (r : Rep T W2.G x v0) :
    ∃ W3, W3.H = H' ∧ HA T b W3 own2 ∧ Le W2 W3 ∧ Rep T W3.G (.tup [.int ((i : Nat) : Int), x]) v := by
  subst hv hH
  obtain ⟨h3, l3⟩ := ha.alloc (o := .tup [.int (i : Nat), v0]) hT
  exact ⟨_, rfl, h3, l3, Tt, _, rfl, st_of upd_same, .int (i : Nat), [v0], rfl, rfl, v0, [], rfl, Rep.mono l3.g r, rfl⟩
theorem wi_enum {ta : TA} {P : List D → List OW → Prop} (h : WA T b ta own ds fun ss o => ∃ u xs, ss = [.d u] ∧ (u = .lst xs ∨ u = .tup xs) ∧ P (enumD 0 xs) o) : WI T b (LX.iEnA T.K ta) own ds P := fun W σ ha sl R q => by
  refine h W σ ha sl _ fun vs ss o1 W1 ha1 l1 r1 ⟨u, xs, e, hu, p⟩ => ?_
  subst e
  obtain ⟨v, r, rfl, hv, rfl⟩ := r1
  rcases hu with rfl | rfl
  · obtain ⟨a, ws, rfl, hs, rr⟩ := hv
    refine ⟨a, ws, rfl, .inl ⟨sq_of (ha1.gh _ _ hs), q _ _ o1 W1 ha1 l1 (fun i W2 own2 l ha2 => ?_) p⟩⟩
    have h2 : SqL T.K W2.H a ws := sq_of ((l.g.trans ha2.gh) _ _ hs)
    refine ⟨fun y e => ?_, fun e => ⟨ws, h2, by rw [rr.len, e, enumD_len]; exact Nat.le_refl _⟩⟩
    obtain ⟨x, ex, rfl⟩ := enumD_get e
    obtain ⟨v0, ev, rv⟩ := rr.get ex
    refine ⟨⟨ws, v0, h2, ev⟩, fun w H' ⟨Tt, v1, hw, hT, hH, hk⟩ => ?_⟩
    cases (hk ws h2).symm.trans ev
    rw [Nat.zero_add]
    exact enum_tur ha2 hw hT hH (Rep.mono l.g rv)
  · obtain ⟨a, ws, rfl, hs, rr⟩ := hv
    refine ⟨a, ws, rfl, .inr ⟨ex_t ha1.gh hs, q _ _ o1 W1 ha1 l1 (fun i W2 own2 l ha2 => ?_) p⟩⟩
    have h2 : SqT T.K W2.H a ws := ex_t (l.g.trans ha2.gh) hs
    refine ⟨fun y e => ?_, fun e => ⟨ws, h2, by rw [rr.len, e, enumD_len]⟩⟩
    obtain ⟨x, ex, rfl⟩ := enumD_get e
    obtain ⟨v0, ev, rv⟩ := rr.get ex
    refine ⟨⟨ws, v0, h2, ev⟩, fun w H' ⟨Tt, v1, hw, hT, hH, hk⟩ => ?_⟩
    cases (hk ws h2).symm.trans ev
    rw [Nat.zero_add]
    exact enum_tur ha2 hw hT hH (Rep.mono l.g rv)
/-! ### extend, += -/
theorem RpSL.app {W : Wd} : ∀ {ss tt : List SV} {vs ws : List V}, RpSL T W ss vs → RpSL T W tt ws → RpSL T W (ss ++ tt) (vs ++ ws)
  | [], _, _, _, h1, h2 => by
    have h1' : _ = [] := h1
    subst h1'
    exact h2
  | _ :: _, _, _, _, ⟨v, r, e, h1, h2⟩, h3 => by
    subst e
    exact ⟨v, r ++ _, rfl, h1, RpSL.app h2 h3⟩
theorem wm_ext {k : Nat} {ss : List SV} {u : D} {ys : List D} (ho : own[k]? = some (.lst ss)) (hu : u = .lst ys ∨ u = .tup ys) (hl : ss.length + ys.length ≤ 100000) (p : P (.d .non) (own.set k (.lst (ss ++ ys.map SV.d)))) : WM T b (LX.rExt T.K) own k [.d u] P := fun W a vs ha ea ⟨v, r, ev, rx, er⟩ Q q => by
  subst ev
  have er' : r = [] := er
  subst er'
  obtain ⟨a', ea', _, _, _, ws, eh, rr⟩ := ha.ow.get ho
  have z : a' = a := Option.some.inj (ea'.symm.trans ea)
  subst z
  rcases hu with rfl | rfl
  · obtain ⟨c, zs, rfl, hs, rz⟩ := rx
    obtain ⟨ha2, l2⟩ := ha.setOwn ho ea (RpSL.app rr (RepL.sv rz))
    exact ⟨a', c, ws, zs, rfl, rfl, eh, .inl (ha.gh _ _ hs), sz_of (by rw [rr.len, rz.len]; exact hl), q _ (.d .non) _ _ ha2 l2 rfl p⟩
  · obtain ⟨c, zs, rfl, hs, rz⟩ := rx
    obtain ⟨ha2, l2⟩ := ha.setOwn ho ea (RpSL.app rr (RepL.sv rz))
    exact ⟨a', c, ws, zs, rfl, rfl, eh, .inr (ex_t ha.gh hs), sz_of (by rw [rr.len, rz.len]; exact hl), q _ (.d .non) _ _ ha2 l2 rfl p⟩
/-- xs += e -/
theorem ws_aug {Φ : Po} {i k : Nat} {te : TE} (hi : ds[i]? = some (some (.p k))) (h : WE T b te own ds fun s o => ∃ ys ss, s = .d (.lst ys) ∧ o[k]? = some (.lst ss) ∧ ss.length + ys.length ≤ 100000 ∧ Φ.nx (o.set k (.lst (ss ++ ys.map SV.d))) (ds.set i (some (.p k)))) : WS T b (tAug i te LX.ipLst) own ds Φ := fun W σ ha sl D d => by
  obtain ⟨x, ex, a, ea, rfl⟩ := sl.get hi
  refine ⟨_, ex, h W σ ha sl _ fun y s o1 W1 ha1 l1 r1 ⟨ys, ss, e, ho, hl, p⟩ => ?_⟩
  subst e
  obtain ⟨c, zs, rfl, hs, rz⟩ := r1
  have ea1 := prefix_get l1.a ea
  obtain ⟨a', ea', _, _, _, ws, eh, rr⟩ := ha1.ow.get ho
  have z : a' = a := Option.some.inj (ea'.symm.trans ea1)
  subst z
  obtain ⟨ha2, l2⟩ := ha1.setOwn ho ea1 (RpSL.app rr (RepL.sv rz))
  refine ⟨a', c, ws, zs, rfl, rfl, eh, ha1.gh _ _ hs, sz_of (by rw [rr.len, rz.len]; exact hl), ?_⟩
  exact d.nx _ _ _ _ ha2 (l1.trans l2) (SlL.set (fun sv e => by cases e; exact ⟨a', prefix_get l2.a ea1, rfl⟩) i (sl.mono (l1.trans l2))) p
end
end Lo
end
section
set_option Elab.async false
set_option linter.all false
set_option autoImplicit false
set_option maxRecDepth 100000
set_option maxHeartbeats 1000000
/-! dicts and sets, on data -/
namespace Lo
open PySem PySem.Spec PyProof.Rows L2 Evl
def valS {β : Type} (kvs : List (L2.Key × β)) (k : L2.Key) : Option β := (kvs.find? fun kv => decide (kv.1 = k)).map (·.2)
def putS {β : Type} (kvs : List (L2.Key × β)) (k : L2.Key) (v : β) : List (L2.Key × β) :=
  if (kvs.any fun kv => decide (kv.1 = k)) = true then kvs.map (fun kv => if kv.1 = k then (kv.1, v) else kv) else kvs ++ [(k, v)]
/-- the key a datum is -/
def D.key : D → Option L2.Key
  | .int i => some (.inl i)
  | .str z => some (.inr z)
  | _ => none
theorem key_rep {T : Tb} {W : Wd} {d : D} {k : L2.Key} {v : V} (e : d.key = some k) (r : RpS T W (.d d) v) : v = kV k := by
  cases d with
  | int i =>
    cases e
    exact r
  | str z =>
    cases e
    exact r
  | _ => cases e
section
variable {T : Tb} {b : Bd} {own : List OW} {ds : List (Option SV)} {P : PSv}
theorem val_rel {W : Wd} {k : L2.Key} : ∀ {kvs : List (L2.Key × SV)} {gs : List (L2.Key × V)}, gs.map (·.1) = kvs.map (·.1) → RpSL T W (kvs.map (·.2)) (gs.map (·.2)) →
    (valS kvs k = none ∧ valV gs k = none) ∨ ∃ s v, valS kvs k = some s ∧ valV gs k = some v ∧ RpS T W s v
  | [], [], _, _ => .inl ⟨rfl, rfl⟩
  | [], _ :: _, e, _ => by simp at e
  | _ :: _, [], e, _ => by simp at e
  | (n, s) :: kvs, (m, v) :: gs, e, ⟨w, r, ew, h1, h2⟩ => by
    simp only [List.map_cons, List.cons.injEq] at e ew
    obtain ⟨e1, e2⟩ := e
    obtain ⟨ew1, ew2⟩ := ew
    subst e1 ew1
    by_cases q : m = k
    · refine .inr ⟨s, v, ?_, ?_, h1⟩
      · simp [valS, List.find?_cons, q]
      · simp [valV, List.find?_cons, q]
    · have a1 : valS ((m, s) :: kvs) k = valS kvs k := by simp [valS, List.find?_cons, q]
      have a2 : valV ((m, v) :: gs) k = valV gs k := by simp [valV, List.find?_cons, q]
      rw [a1, a2]
      exact val_rel e2 (ew2 ▸ h2)
theorem put_any {β γ : Type} {k : L2.Key} : ∀ {xs : List (L2.Key × β)} {ys : List (L2.Key × γ)}, xs.map (·.1) = ys.map (·.1) → (xs.any fun kv => decide (kv.1 = k)) = (ys.any fun kv => decide (kv.1 = k))
  | [], [], _ => rfl
  | [], _ :: _, e => by simp at e
  | _ :: _, [], e => by simp at e
  | (n, s) :: kvs, (m, v) :: gs, e => by
    simp only [List.map_cons, List.cons.injEq] at e
    obtain ⟨e1, e2⟩ := e
    subst e1
    simp only [List.any_cons]
    rw [put_any e2]
theorem put_keys {β γ : Type} {k : L2.Key} {x : β} {y : γ} {xs : List (L2.Key × β)} {ys : List (L2.Key × γ)} (e : xs.map (·.1) = ys.map (·.1)) :
    ((if (xs.any fun kv => decide (kv.1 = k)) = true then xs.map (fun kv => if kv.1 = k then (kv.1, x) else kv) else xs ++ [(k, x)]).map (·.1)) =
    ((if (ys.any fun kv => decide (kv.1 = k)) = true then ys.map (fun kv => if kv.1 = k then (kv.1, y) else kv) else ys ++ [(k, y)]).map (·.1)) := by
  have same : ∀ {δ : Type} (z : δ) (l : List (L2.Key × δ)), (l.map (fun kv => if kv.1 = k then (kv.1, z) else kv)).map (·.1) = l.map (·.1) := fun z l => by
    rw [List.map_map]
    refine List.map_congr_left fun kv _ => ?_
    show (if kv.1 = k then (kv.1, z) else kv).1 = kv.1
    split <;> rfl
  rw [put_any e]
  split
  · rw [same, same, e]
  · rw [List.map_append, List.map_append, e]
    rfl
theorem put_vals {W : Wd} {k : L2.Key} {s : SV} {v : V} (hs : RpS T W s v) : ∀ {kvs : List (L2.Key × SV)} {gs : List (L2.Key × V)}, gs.map (·.1) = kvs.map (·.1) → RpSL T W (kvs.map (·.2)) (gs.map (·.2)) →
    RpSL T W ((kvs.map (fun kv => if kv.1 = k then (kv.1, s) else kv)).map (·.2)) ((gs.map (fun kv => if kv.1 = k then (kv.1, v) else kv)).map (·.2))
  | [], [], _, _ => rfl
  | [], _ :: _, e, _ => by simp at e
  | _ :: _, [], e, _ => by simp at e
  | (n, s0) :: kvs, (m, v0) :: gs, e, ⟨w, r, ew, h1, h2⟩ => by
    simp only [List.map_cons, List.cons.injEq] at e ew
    obtain ⟨e1, e2⟩ := e
    obtain ⟨ew1, ew2⟩ := ew
    subst e1 ew1
    have ih := put_vals (k := k) hs e2 (ew2 ▸ h2)
    by_cases q : m = k
    · exact ⟨v, _, by simp [q], by simp [q]; exact hs, ih⟩
    · exact ⟨v0, _, by simp [q], by simp [q]; exact h1, ih⟩
theorem put_rel {W : Wd} {k : L2.Key} {s : SV} {v : V} (hs : RpS T W s v) {kvs : List (L2.Key × SV)} {gs : List (L2.Key × V)} (e : gs.map (·.1) = kvs.map (·.1)) (r : RpSL T W (kvs.map (·.2)) (gs.map (·.2))) :
    (putK gs k v).map (·.1) = (putS kvs k s).map (·.1) ∧ RpSL T W ((putS kvs k s).map (·.2)) ((putK gs k v).map (·.2)) := by
  refine ⟨put_keys e, ?_⟩
  unfold putS putK
  rw [put_any e]
  split
  · exact put_vals hs e r
  · rw [List.map_append, List.map_append]
    exact RpSL.snoc hs r
/-- {} -/
theorem we_dnew (p : P (.p own.length) (own ++ [.dct []])) : WE T b tDNewK own ds P := fun W σ ha sl Q q c hc => by
  obtain ⟨ha2, l2⟩ := ha.allocHO (o := .dct []) (u := .dK []) hc fun W' l e g bb n => ⟨g, bb, n, [], e, rfl, rfl⟩
  refine q _ (.p own.length) _ _ ha2 l2 ⟨c, ?_, rfl⟩ p
  rw [← ha.ow.len]
  simp
/-- d.setdefault(y, z) -/
theorem we_setd {td ty tx : TE} (h : WE T b td own ds fun s o => ∃ k kvs0, s = .p k ∧ o[k]? = some (.dct kvs0) ∧ WE T b ty o ds fun y o1 => ∃ dy key, y = .d dy ∧ dy.key = some key ∧ WE T b tx o1 ds fun z o2 => ∃ kvs, o2[k]? = some (.dct kvs) ∧ kvs.length < 100000 ∧
    (∀ s, valS kvs key = some s → P s o2) ∧ (valS kvs key = none → P z (o2.set k (.dct (putS kvs key z))))) : WE T b (tDSetd td ty tx) own ds P := fun W σ ha sl Q q => by
  refine h W σ ha sl _ fun v1 s1 o1 W1 ha1 l1 r1 ⟨k, kvs0, e1, ho1, h1⟩ => ?_
  subst e1
  obtain ⟨a, ea, rfl⟩ := r1
  obtain ⟨a', ea', _, _, _, gs0, eh0, _⟩ := ha1.ow.get ho1
  cases ea.symm.trans ea'
  refine ⟨a, rfl, .inl ⟨gs0, .inl eh0⟩, h1 W1 σ ha1 (sl.mono l1) _ fun v2 s2 o2 W2 ha2 l2 r2 ⟨dy, key, e2, ek, h2⟩ => ?_⟩
  subst e2
  refine h2 W2 σ ha2 (sl.mono (l1.trans l2)) _ fun v3 s3 o3 W3 ha3 l3 r3 ⟨kvs, ho3, hl, hyes, hno⟩ => ?_
  have ea3 := prefix_get (l2.trans l3).a ea
  obtain ⟨a', ea', g, bb, nb, gs, eh, en, rr⟩ := ha3.ow.get ho3
  cases ea3.symm.trans ea'
  have lg : gs.length = kvs.length := by simpa using congrArg List.length en
  have hz : gs.length < 100000 := lg ▸ hl
  refine ⟨gs, key, eh, key_rep ek (RpS.mono l3 r2), sz_lt hz, fun v hv => ?_, fun hv => ?_⟩
  · rcases val_rel (k := key) en rr with ⟨_, n2⟩ | ⟨s, v', e1, e2, r⟩
    · rw [hv] at n2
      cases n2
    · rw [hv] at e2
      cases e2
      exact q v s o3 W3 ha3 ((l1.trans l2).trans l3) r (hyes s e1)
  · rcases val_rel (k := key) en rr with ⟨n1, _⟩ | ⟨s, v', e1, e2, r⟩
    · obtain ⟨p1, p2⟩ := put_rel (k := key) r3 en rr
      obtain ⟨ha4, l4⟩ := ha3.setHO (o' := .dct (putS kvs key s3)) (u' := .dK (putK gs key v3)) ea3 g bb nb fun W' l e gg => ⟨gg, bb, nb, _, e, p1, RpSL.mono l p2⟩
      exact q v3 s3 _ _ ha4 (((l1.trans l2).trans l3).trans l4) (RpS.mono l4 r3) (hno n1)
    · rw [hv] at e2
      cases e2
end
end Lo
end
section
set_option Elab.async false
set_option linter.all false
set_option autoImplicit false
set_option maxRecDepth 100000
set_option maxHeartbeats 1000000
/-! dicts that stand for good; sets -/
namespace Lo
open PySem PySem.Spec PyProof.Rows L2 Evl
def valD : List L2.Key → List D → L2.Key → Option D
  | n :: ks, x :: vs, k => if n = k then some x else valD ks vs k
  | _, _, _ => none
theorem valD_rel {T : Tb} {H : Hp} {k : L2.Key} : ∀ {ks : List L2.Key} {vs : List D} {gs : List (L2.Key × V)}, gs.map (·.1) = ks → RepL T H vs (gs.map (·.2)) →
    (valD ks vs k = none ∧ valV gs k = none) ∨ ∃ d v, valD ks vs k = some d ∧ valV gs k = some v ∧ Rep T H d v
  | [], _, [], _, _ => .inl ⟨rfl, rfl⟩
  | [], _, _ :: _, e, _ => by simp at e
  | _ :: _, _, [], e, _ => by simp at e
  | n :: ks, [], (m, v) :: gs, e, r => nomatch (show v :: gs.map (·.2) = [] from r)
  | n :: ks, x :: vs, (m, v) :: gs, e, ⟨w, r, ew, h1, h2⟩ => by
    simp only [List.map_cons, List.cons.injEq] at e ew
    obtain ⟨e1, e2⟩ := e
    obtain ⟨ew1, ew2⟩ := ew
    subst e1 ew1
    by_cases q : m = k
    · exact .inr ⟨x, v, if_pos q, by simp [valV, List.find?_cons, q], h1⟩
    · have a1 : valD (m :: ks) (x :: vs) k = valD ks vs k := if_neg q
      have a2 : valV ((m, v) :: gs) k = valV gs k := by simp [valV, List.find?_cons, q]
      rw [a1, a2]
      exact valD_rel e2 (ew2 ▸ h2)
section
variable {T : Tb} {b : Bd} {own : List OW} {ds : List (Option SV)} {P : PSv}
/-- d[k] -/
theorem we_dget {td ty : TE} (h : WE T b td own ds fun s o => ∃ ks vs, s = .d (.dct ks vs) ∧ WE T b ty o ds fun y o1 => ∃ dy key d, y = .d dy ∧ dy.key = some key ∧ valD ks vs key = some d ∧ P (.d d) o1) : WE T b (tDGet td ty) own ds P := fun W σ ha sl Q q => by
  refine h W σ ha sl _ fun v1 s1 o1 W1 ha1 l1 r1 ⟨ks, vs, e1, h1⟩ => ?_
  subst e1
  refine h1 W1 σ ha1 (sl.mono l1) _ fun v2 s2 o2 W2 ha2 l2 r2 ⟨dy, key, d, e2, ek, ev, p⟩ => ?_
  subst e2
  obtain ⟨a, gs, rfl, hs, en, rr⟩ := Rep.mono l2.g r1
  rcases valD_rel (k := key) en rr with ⟨n1, _⟩ | ⟨d', v, e3, e4, r⟩
  · rw [ev] at n1
    cases n1
  · cases ev.symm.trans e3
    refine ⟨a, v, rfl, ?_, q v (.d d) o2 W2 ha2 (l1.trans l2) r p⟩
    rw [key_rep ek r2, ← e4]
    exact DGet.k (ha2.gh _ _ hs)
/-- d.get(k, x) -/
theorem we_dget2 {td ty tx : TE} (h : WE T b td own ds fun s o => ∃ ks vs, s = .d (.dct ks vs) ∧ WE T b ty o ds fun y o1 => ∃ dy key, y = .d dy ∧ dy.key = some key ∧ WE T b tx o1 ds fun z o2 => P (match valD ks vs key with | some d => .d d | none => z) o2) : WE T b (tDGet2 td ty tx) own ds P := fun W σ ha sl Q q => by
  refine h W σ ha sl _ fun v1 s1 o1 W1 ha1 l1 r1 ⟨ks, vs, e1, h1⟩ => ?_
  subst e1
  obtain ⟨a, gs, rfl, hs, en, rr⟩ := r1
  refine ⟨a, rfl, .inl ⟨gs, .inl (ha1.gh _ _ hs)⟩, h1 W1 σ ha1 (sl.mono l1) _ fun v2 s2 o2 W2 ha2 l2 r2 ⟨dy, key, e2, ek, h2⟩ => ?_⟩
  subst e2
  refine h2 W2 σ ha2 (sl.mono (l1.trans l2)) _ fun v3 s3 o3 W3 ha3 l3 r3 p => ?_
  have hs3 := ha3.gh _ _ ((l2.trans l3).g _ _ hs)
  have hk := key_rep ek (RpS.mono l3 r2)
  rcases valD_rel (k := key) en (RepL.mono (l2.trans l3).g rr) with ⟨n1, n2⟩ | ⟨d, v, e3, e4, r⟩
  · refine ⟨none, ?_, ?_⟩
    · rw [hk, ← n2]
      exact DGet.k hs3
    · rw [n1] at p
      exact q v3 s3 o3 W3 ha3 ((l1.trans l2).trans l3) r3 p
  · refine ⟨some v, ?_, ?_⟩
    · rw [hk, ← e4]
      exact DGet.k hs3
    · rw [e3] at p
      exact q v (.d d) o3 W3 ha3 ((l1.trans l2).trans l3) r p
/-- sorted(d), its keys ints -/
def rSortDI : List V → Hp → VK → Prop := fun xs H Q => ∃ (a : Addr) (kvs : List (L2.Key × V)) (ks : List Int), xs = [.ref a] ∧ Rd H a (.dK kvs) ∧ kvs.map (·.1) = ks.map Sum.inl ∧ ks.length < 64 ∧
    ∀ (ys : List Int) (p : Addr), ys.Perm ks → ys.Pairwise (· ≤ ·) → H p = none → Q (.ref p) (upd H p (.lst (ys.map V.int)))
theorem call_sortDI {X : Cx} (hc : X.calm = true) : CallR X (.builtin "sorted") rSortDI := call_sortedDI hc
theorem wc_sortDI {ks : List Int} {vs : List D} (h64 : ks.length < 64) (p : ∀ ys : List Int, ys.Perm ks → ys.Pairwise (· ≤ ·) → P (.d (.lst (ys.map D.int))) own) : WC T b rSortDI own [.d (.dct (ks.map Sum.inl) vs)] P := fun W us ha ⟨v, r, ev, rx, er⟩ Q q => by
  subst ev
  have er' : r = [] := er
  subst er'
  obtain ⟨a, gs, rfl, hs, en, rr⟩ := rx
  refine ⟨a, gs, ks, rfl, .inl (ha.gh _ _ hs), en, h64, fun ys l pe pw hl => ?_⟩
  obtain ⟨ha2, l2⟩ := ha.alloc (o := .lst (ys.map V.int)) hl
  exact q _ (.d (.lst (ys.map D.int))) own _ ha2 l2 ⟨l, _, rfl, upd_same, RepL.ofInts ys⟩ (p ys pe pw)
/-! ### sets of ints -/
abbrev oSet (w : World) (S : Int → Bool) (n : Nat) : OW := .ho fun a => SetO w a S n
theorem wc_set0 {w : World} (p : P (.p own.length) (own ++ [oSet w (fun _ => false) 0])) : WC T b (rSet0 w) own [] P := fun W us ha rx Q q => by
  have er : us = [] := rx
  subst er
  refine ⟨rfl, fun c hc => ?_⟩
  obtain ⟨ha2, l2⟩ := ha.allocHO (o := oSet w (fun _ => false) 0) (u := SetO w c (fun _ => false) 0) hc fun W' l e g bb n => ⟨g, bb, n, e⟩
  refine q _ (.p own.length) _ _ ha2 l2 ⟨c, ?_, rfl⟩ p
  rw [← ha.ow.len]
  simp
theorem we_sadd {w : World} {to : TE} {ta : TA} (h : WE T b to own ds fun s o => ∃ k S n, s = .p k ∧ o[k]? = some (oSet w S n) ∧ WA T b ta o ds fun xs o2 => ∃ i, xs = [.d (.int i)] ∧ ∃ S n, o2[k]? = some (oSet w S n) ∧ n + 1 < scanBound ∧ P (.d .non) (o2.set k (oSet w (fun j => S j || decide (j = i)) (if S i = true then n else n + 1)))) : WE T b (tSAdd w to ta) own ds P := fun W σ ha sl Q q => by
  refine h W σ ha sl _ fun v1 s1 o1 W1 ha1 l1 r1 ⟨k, S, n, e1, ho, h1⟩ => ?_
  subst e1
  obtain ⟨a, ea, rfl⟩ := r1
  obtain ⟨a', ea', g, bb, nb, eh⟩ := ha1.ow.get ho
  cases ea.symm.trans ea'
  refine ⟨⟨a, S, n, rfl, eh⟩, h1 W1 σ ha1 (sl.mono l1) _ fun vs ss o2 W2 ha2 l2 r2 ⟨i, e2, S2, n2, ho2, hn, p⟩ => ?_⟩
  subst e2
  obtain ⟨v, r, rfl, hv, rfl⟩ := r2
  cases RpS.int hv
  have ea2 := prefix_get l2.a ea
  obtain ⟨a', ea', g2, bb2, nb2, eh2⟩ := ha2.ow.get ho2
  cases ea2.symm.trans ea'
  obtain ⟨ha3, l3⟩ := ha2.setHO (o' := oSet w (fun j => S2 j || decide (j = i)) (if S2 i = true then n2 else n2 + 1)) (u' := SetO w a (fun j => S2 j || decide (j = i)) (if S2 i = true then n2 else n2 + 1)) ea2 g2 bb2 nb2 fun W' l e gg => ⟨gg, bb2, nb2, e⟩
  exact ⟨a, i, S2, n2, rfl, rfl, eh2, hn, q _ (.d .non) _ _ ha3 ((l1.trans l2).trans l3) rfl p⟩
theorem wr_snotin {w : World} {i : Int} {k : Nat} {S : Int → Bool} {n : Nat} (ho : own[k]? = some (oSet w S n)) (p : P (.d (.bl (!S i))) own) : WR T b (rSNotIn w) own (.d (.int i)) (.p k) P := fun W vx vy ha rx ry Q q => by
  cases RpS.int rx
  obtain ⟨a, ea, rfl⟩ := ry
  obtain ⟨a', ea', g, bb, nb, eh⟩ := ha.ow.get ho
  cases ea.symm.trans ea'
  exact ⟨i, a, S, n, rfl, rfl, eh, q _ (.d (.bl (!S i))) own W ha (Le.refl W) rfl p⟩
theorem wc_sortedSet {w : World} {k : Nat} {S : Int → Bool} {n : Nat} (ho : own[k]? = some (oSet w S n)) (hn : n < 64) (p : ∀ ns : List Int, ns.Pairwise (· < ·) → (∀ j, j ∈ ns ↔ S j = true) → ns.length = n → P (.d (.lst (ns.map D.int))) own) : WC T b (rSortedSet w) own [.p k] P := fun W us ha ⟨v, r, ev, rx, er⟩ Q q => by
  subst ev
  have er' : r = [] := er
  subst er'
  obtain ⟨a, ea, rfl⟩ := rx
  obtain ⟨a', ea', g, bb, nb, eh⟩ := ha.ow.get ho
  cases ea.symm.trans ea'
  refine ⟨a, S, n, rfl, eh, hn, fun ns l pw hm hl hp => ?_⟩
  obtain ⟨ha2, l2⟩ := ha.alloc (o := .lst (ns.map V.int)) hp
  exact q _ (.d (.lst (ns.map D.int))) own _ ha2 l2 ⟨l, _, rfl, upd_same, RepL.ofInts ns⟩ (p ns pw hm hl)
end
end Lo
end
section
set_option Elab.async false
set_option linter.all false
set_option autoImplicit false
set_option maxRecDepth 100000
set_option maxHeartbeats 1000000
/-! sorted(set(rows of ints)) -/
namespace Lo
open PySem PySem.Spec PyProof.Rows L2 Evl
abbrev rowD (ns : List Int) : D := .tup (ns.map D.int)
section
variable {T : Tb} {b : Bd} {own : List OW} {ds : List (Option SV)} {P : PSv}
theorem rows_rep {G : Hp} : ∀ {rows : List (List Int)} {vs : List V}, RepL T G (rows.map rowD) vs → ∃ ks : List (Addr × List Int), vs = ks.map (fun p => V.ref p.1) ∧ ks.map (·.2) = rows ∧ ∀ p ∈ ks, SqT T.K G p.1 (p.2.map V.int)
  | [], _, r => ⟨[], r, rfl, fun _ h => nomatch h⟩
  | ns :: rows, _, ⟨v, w, e, ⟨a, us, ev, hs, hr⟩, h2⟩ => by
    obtain ⟨ks, e1, e2, h3⟩ := rows_rep h2
    have eu := RepL.ints hr
    subst eu
    refine ⟨(a, ns) :: ks, by rw [e, ev, e1]; rfl, by rw [List.map_cons, e2], fun p m => ?_⟩
    rcases List.mem_cons.mp m with rfl | m
    · exact hs
    · exact h3 p m
theorem rep_rows {G : Hp} : ∀ {ks : List (Addr × List Int)}, (∀ p ∈ ks, SqT T.K G p.1 (p.2.map V.int)) → RepL T G ((ks.map (·.2)).map rowD) (ks.map fun p => V.ref p.1)
  | [], _ => rfl
  | p :: ks, h => ⟨.ref p.1, _, rfl, ⟨p.1, _, rfl, h p (by simp), RepL.ofInts p.2⟩, rep_rows fun q m => h q (by simp [m])⟩
theorem we_ssetT {K : PySem.W.Frag} {pr : Program} {w : World} (hK : T.K = K) {ta : TA} {B : Int} {d : Nat}
    (h : WA T b ta own ds fun ss o => ∃ rows : List (List Int), ss = [.d (.lst (rows.map rowD))] ∧ 1 ≤ d ∧ (∀ r ∈ rows, r.length = d ∧ TS.Bd B r) ∧ rows.length < 64 ∧
      ∀ rows' : List (List Int), (∀ r, r ∈ rows' ↔ r ∈ rows) → rows'.Nodup → rows'.Pairwise (fun x y => TS.code B x ≤ TS.code B y) → ∀ f : Addr → HO, P (.d (.lst (rows'.map rowD))) (o ++ [.ho f])) :
    WE T b (tCB (rSortedT K pr w) (tCons (tCB (rSetOfT K pr w) ta) tNil)) own ds P := fun W σ ha sl Q q => by
  subst hK
  refine h W σ ha sl _ fun vs ss o1 W1 ha1 l1 r1 ⟨rows, e, hd, hr, h64, p⟩ => ?_
  subst e
  obtain ⟨v, r, rfl, ⟨a, us, rfl, hs, hrr⟩, rfl⟩ := r1
  obtain ⟨ks, rfl, rfl, hks⟩ := rows_rep hrr
  refine ⟨a, ks, rfl, sq_of (ha1.gh _ _ hs), fun p m => ex_t ha1.gh (hks p m), by simpa using h64, fun c L hc hL hL2 => ?_⟩
  obtain ⟨ha2, l2⟩ := ha1.allocHO (o := .ho fun a => SetTO pr w a L) (u := SetTO pr w c L) hc fun W' l e g bb n => ⟨g, bb, n, e⟩
  refine ⟨c, L, d, B, rfl, upd_same, fun p m => ex_t ha2.gh (hks p (hL p m)), hd, fun p m => hr p.2 (List.mem_map.mpr ⟨p, hL p m, rfl⟩), fun L' t hp hn _ hw ht => ?_⟩
  obtain ⟨ha3, l3⟩ := ha2.alloc (o := .lst (L'.map fun q => V.ref q.1)) ht
  have hin : ∀ q ∈ L', SqT T.K W1.G q.1 (q.2.map V.int) := fun q m => hks q (hL q (hp.subset m))
  refine q _ (.d (.lst ((L'.map (·.2)).map rowD))) _ _ ha3 ((l1.trans l2).trans l3) ⟨t, _, rfl, upd_same, RepL.mono l3.g (rep_rows hin)⟩ (p (L'.map (·.2)) (fun r => ?_) hn (List.pairwise_map.mpr hw) _)
  constructor
  · intro m
    obtain ⟨q, hq, rfl⟩ := List.mem_map.mp m
    exact List.mem_map.mpr ⟨q, hL q (hp.subset hq), rfl⟩
  · intro m
    obtain ⟨q, hq, rfl⟩ := List.mem_map.mp m
    obtain ⟨q', h1, h2⟩ := List.mem_map.mp (hL2 q hq)
    exact List.mem_map.mpr ⟨q', hp.symm.subset h1, h2⟩
end
end Lo
end
section
set_option Elab.async false
set_option linter.all false
set_option autoImplicit false
set_option maxRecDepth 100000
set_option maxHeartbeats 1000000
/-! what looseorder.names says, of data -/
namespace Lo
open PySem PySem.Spec PyProof.Rows L2 Evl
def oi : Option Int → D | none => .non | some i => .int i
def items : D → Option (List D) | .lst xs => some xs | .tup xs => some xs | _ => none
def isWhole (t : D) (lo hi : Option Int) : Bool := match t with
  | .int n => (match lo with | none => true | some l => decide (l ≤ n)) && (match hi with | none => true | some h => decide (n ≤ h))
  | _ => false
def isAmong (t w : D) : Bool := isWhole t none none && t.inF ((items w).getD [])
def isRow (t : D) (lo hi : Int) : Bool := match items t with | some xs => decide (lo ≤ (xs.length : Int)) && decide ((xs.length : Int) ≤ hi) | none => false
def lett (z : PySem.Str) : Bool := z.cps.toList.all fun c => decide (97 ≤ c) && decide (c ≤ 122)
def isName (t : D) (most : Int) : Bool := match t with | .str z => decide (1 ≤ (z.length : Int)) && (decide ((z.length : Int) ≤ most) && lett z) | _ => false
def isPart (t : D) : Bool := match t with | .str z => decide ((z.length : Int) ≤ 3) && lett z | _ => false
def isEnding (t : D) : Bool := isRow t 1 4 && ((items t).getD []).all isPart
def isNumber (t : D) : Bool := match t with | .str z => decide (z = "one") || decide (z = "many") | _ => false
theorem lt_sign {x y : Nat} : decide ([x] < [y]) = decide (x < y) := by
  refine decide_eq_decide.mpr ⟨fun h => ?_, fun h => .rel h⟩
  cases h with
  | rel h => exact h
  | cons h => cases h
def letF (d : D) : Bool := match d with | .str y => (!decide (y.cps.toList < ("a" : PySem.Str).cps.toList)) && (!decide (("z" : PySem.Str).cps.toList < y.cps.toList)) | _ => false
theorem letF_one (c : Nat) : letF (.str ⟨#[c]⟩) = (decide (97 ≤ c) && decide (c ≤ 122)) := by
  have e1 : ("a" : PySem.Str).cps.toList = [97] := by decide +kernel
  have e2 : ("z" : PySem.Str).cps.toList = [122] := by decide +kernel
  show ((!decide ([c] < ("a" : PySem.Str).cps.toList)) && (!decide (("z" : PySem.Str).cps.toList < [c]))) = _
  rw [e1, e2, lt_sign, lt_sign]
  by_cases h1 : 97 ≤ c <;> by_cases h2 : c ≤ 122 <;> simp [h1, h2] <;> omega
theorem lett_all (z : PySem.Str) : (z.cps.toList.map fun c => letF (.str ⟨#[c]⟩)).all id = lett z := by
  unfold lett
  rw [List.all_map]
  exact congrArg (fun f => z.cps.toList.all f) (funext fun c => letF_one c)
theorem bl_post {b1 b2 : Bool} (h : b1 = b2) : D.bl b1 = D.bl b2 := by rw [h]
def okStr (t : D) : Prop := t.isO = false ∧ ∀ z, t = .str z → z.length ≤ 100000
def okSeq (w : D) : Prop := ∃ xs, items w = some xs ∧ xs.all D.flat = true
/-- things that may be asked whether they are a row of names, numbers .. -/
def okRow (t : D) : Prop := t.isO = false ∧ ∀ xs, items t = some xs → xs.length ≤ 100000 ∧ ∀ x ∈ xs, okStr x
theorem items_of {t : D} {xs : List D} (h : items t = some xs) : t = .lst xs ∨ t = .tup xs := by
  cases t <;> simp [items] at h <;> simp [h]
section
variable {T : Tb} {b : Bd} {own : List OW} {ds : List (Option SV)} {P : PSv}
/-- a constant of the written part -/
theorem we_cR {v : V} {d : D} (h : ∀ H, Rep T H d v) (p : P (.d d) own) : WE T b (tC v) own ds P := fun W σ ha sl Q q => q v (.d d) own W ha (Le.refl W) (h _) p
end
theorem u1 {n : Nat} {c : Nat} (h : n + 64 < c) : n + 1 < c := by omega
end Lo
end
section
set_option Elab.async false
set_option linter.all false
set_option autoImplicit false
set_option maxRecDepth 100000
set_option maxHeartbeats 1000000
/-! rules of a tongue and what they lead to -/
namespace Lo
open PySem PySem.Spec PyProof.Rows L2 Evl
/-- y is reached from x by one step or more -/
inductive Rch (E : Int → Int → Prop) : Int → Int → Prop
  | one {x y : Int} : E x y → Rch E x y
  | more {x y z : Int} : Rch E x y → E y z → Rch E x z
theorem Rch.mono {E F : Int → Int → Prop} (h : ∀ x y, E x y → F x y) {x y : Int} (r : Rch E x y) : Rch F x y := by
  induction r with
  | one e => exact .one (h _ _ e)
  | more _ e ih => exact .more ih (h _ _ e)
def lexlt (p q : Int × Int) : Prop := p.1 < q.1 ∨ (p.1 = q.1 ∧ p.2 < q.2)
def look : List (Int × List Int) → Int → Option (List Int)
  | [], _ => none
  | e :: m, r => if e.1 = r then some e.2 else look m r
def EdM (m : List (Int × List Int)) (x y : Int) : Prop := ∃ ys, look m x = some ys ∧ y ∈ ys
abbrev keysD (m : List (Int × List Int)) : List L2.Key := (m.map (·.1)).map Sum.inl
abbrev valsD (m : List (Int × List Int)) : List D := m.map fun e => .lst (e.2.map .int)
theorem valD_look (r : Int) : ∀ m : List (Int × List Int), valD (keysD m) (valsD m) (.inl r) = (look m r).map fun ys => .lst (ys.map .int)
  | [] => rfl
  | e :: m => by
    show (if (Sum.inl e.1 : L2.Key) = .inl r then some (D.lst (e.2.map .int)) else valD (keysD m) (valsD m) (.inl r)) = _
    rw [valD_look r m]
    by_cases h : e.1 = r
    · rw [if_pos (by rw [h]), show look (e :: m) r = some e.2 from if_pos h]
      rfl
    · rw [if_neg (fun z => h (Sum.inl.inj z)), show look (e :: m) r = look m r from if_neg h]
theorem nodup_len : ∀ {xs ys : List Int}, xs.Nodup → (∀ x ∈ xs, x ∈ ys) → xs.length ≤ ys.length
  | [], _, _, _ => Nat.zero_le _
  | x :: xs, ys, n, h => by
    have n' := List.nodup_cons.mp n
    have hx := h x (by simp)
    have ih := nodup_len (xs := xs) (ys := ys.erase x) n'.2 fun y hy => by
      have ne : y ≠ x := fun z => n'.1 (z ▸ hy)
      exact (List.mem_erase_of_ne ne).mpr (h y (by simp [hy]))
    rw [List.length_erase_of_mem hx] at ih
    have : 0 < ys.length := List.length_pos_of_mem hx
    simp only [List.length_cons]
    omega
/-- what is still to come, by the keys that are not found -/
def mass (S : Int → Bool) : List (Int × List Int) → Nat
  | [] => 0
  | e :: m => (if S e.1 = true then 0 else e.2.length) + mass S m
theorem look_none : ∀ {m : List (Int × List Int)} {r : Int}, (∀ e ∈ m, e.1 ≠ r) → look m r = none
  | [], _, _ => rfl
  | e :: m, r, h => by
    unfold look
    rw [if_neg (h e (by simp)), look_none fun e' h' => h e' (by simp [h'])]
theorem mass_same {S : Int → Bool} {r : Int} : ∀ {m : List (Int × List Int)}, (∀ e ∈ m, e.1 ≠ r) → mass (fun j => S j || decide (j = r)) m = mass S m
  | [], _ => rfl
  | e :: m, h => by
    have ne := h e (by simp)
    unfold mass
    rw [mass_same fun e' h' => h e' (by simp [h']), decide_eq_false ne, Bool.or_false]
theorem mass_drop {S : Int → Bool} {r : Int} (hr : S r = false) : ∀ {m : List (Int × List Int)}, (m.map (·.1)).Nodup → mass (fun j => S j || decide (j = r)) m + ((look m r).getD []).length = mass S m
  | [], _ => rfl
  | e :: m, n => by
    have n' := List.nodup_cons.mp n
    by_cases h : e.1 = r
    · have hk : ∀ e' ∈ m, e'.1 ≠ r := fun e' h' z => n'.1 (List.mem_map.mpr ⟨e', h', z.trans h.symm⟩)
      have e1 : mass (fun j => S j || decide (j = r)) (e :: m) = 0 + mass S m := by
        show (if (S e.1 || decide (e.1 = r)) = true then 0 else e.2.length) + mass (fun j => S j || decide (j = r)) m = _
        rw [if_pos (by rw [h]; simp), mass_same hk]
      have e2 : mass S (e :: m) = e.2.length + mass S m := by
        show (if S e.1 = true then 0 else e.2.length) + mass S m = _
        rw [if_neg (by rw [h, hr]; simp)]
      have e3 : look (e :: m) r = some e.2 := if_pos h
      rw [e1, e2, e3]
      show 0 + mass S m + e.2.length = _
      omega
    · have e3 : look (e :: m) r = look m r := if_neg h
      have ih := mass_drop hr (m := m) n'.2
      show (if (S e.1 || decide (e.1 = r)) = true then 0 else e.2.length) + mass (fun j => S j || decide (j = r)) m + _ = (if S e.1 = true then 0 else e.2.length) + mass S m
      rw [e3, decide_eq_false h, Bool.or_false]
      omega
/-- what holds between two turns of the search from s -/
structure Srch (E : Int → Int → Prop) (s : Int) (S : Int → Bool) (n : Nat) (fs wt : List Int) : Prop where
  iff : ∀ j, S j = true ↔ j ∈ fs
  nd : fs.Nodup
  len : fs.length = n
  rf : ∀ j ∈ fs, Rch E s j
  rw_ : ∀ j ∈ wt, Rch E s j
  c0 : ∀ j, E s j → j ∈ fs ∨ j ∈ wt
  c1 : ∀ x ∈ fs, ∀ j, E x j → j ∈ fs ∨ j ∈ wt
theorem Srch.done {E : Int → Int → Prop} {s : Int} {S : Int → Bool} {n : Nat} {fs : List Int} (h : Srch E s S n fs []) (j : Int) : S j = true ↔ Rch E s j := by
  rw [h.iff]
  refine ⟨h.rf j, fun r => ?_⟩
  induction r with
  | one e => rcases h.c0 _ e with z | z <;> first | exact z | cases z
  | more _ e ih => rcases h.c1 _ ih _ e with z | z <;> first | exact z | cases z
theorem Srch.skip {E : Int → Int → Prop} {s r : Int} {S : Int → Bool} {n : Nat} {fs wt : List Int} (h : Srch E s S n fs (wt ++ [r])) (hr : S r = true) : Srch E s S n fs wt := by
  have hf := (h.iff r).mp hr
  have fix : ∀ j, (j ∈ fs ∨ j ∈ wt ++ [r]) → j ∈ fs ∨ j ∈ wt := fun j z => by
    rcases z with z | z
    · exact .inl z
    · rcases List.mem_append.mp z with z | z
      · exact .inr z
      · rw [List.mem_singleton.mp z]
        exact .inl hf
  exact ⟨h.iff, h.nd, h.len, h.rf, fun j m => h.rw_ j (List.mem_append_left _ m), fun j e => fix j (h.c0 j e), fun x hx j e => fix j (h.c1 x hx j e)⟩
theorem Srch.take {E : Int → Int → Prop} {s r : Int} {S : Int → Bool} {n : Nat} {fs wt more : List Int} (h : Srch E s S n fs (wt ++ [r])) (hr : S r = false) (hm : ∀ j, E r j ↔ j ∈ more) :
    Srch E s (fun j => S j || decide (j = r)) (n + 1) (r :: fs) (wt ++ more) := by
  have rr : Rch E s r := h.rw_ r (by simp)
  have nf : r ∉ fs := fun z => by
    have := (h.iff r).mpr z
    rw [hr] at this
    cases this
  have fix : ∀ j, (j ∈ fs ∨ j ∈ wt ++ [r]) → j ∈ r :: fs ∨ j ∈ wt ++ more := fun j z => by
    rcases z with z | z
    · exact .inl (by simp [z])
    · rcases List.mem_append.mp z with z | z
      · exact .inr (by simp [z])
      · rw [List.mem_singleton.mp z]
        exact .inl (by simp)
  refine ⟨fun j => ?_, List.nodup_cons.mpr ⟨nf, h.nd⟩, by simp [h.len], fun j m => ?_, fun j m => ?_, fun j e => fix j (h.c0 j e), fun x hx j e => ?_⟩
  · rw [Bool.or_eq_true, h.iff, decide_eq_true_eq, List.mem_cons]
    exact Or.comm
  · rcases List.mem_cons.mp m with rfl | m
    · exact rr
    · exact h.rf j m
  · rcases List.mem_append.mp m with m | m
    · exact h.rw_ j (by simp [m])
    · exact .more rr ((hm j).mpr m)
  · rcases List.mem_cons.mp hx with rfl | hx
    · exact .inr (by simp [(hm j).mp e])
    · exact fix j (h.c1 x hx j e)
end Lo
end
section
set_option Elab.async false
set_option linter.all false
set_option autoImplicit false
set_option maxRecDepth 100000
set_option maxHeartbeats 1000000
/-! a dict of own lists, while it is filled -/
namespace Lo
open PySem PySem.Spec PyProof.Rows L2 Evl
abbrev Ent := Int × Nat × List Int
abbrev intS (ns : List Int) : List SV := List.map SV.d (List.map D.int ns)
abbrev pl (m : List Ent) : List (Int × List Int) := m.map fun e => (e.1, e.2.2)
abbrev kvsN (m : List Ent) : List (L2.Key × SV) := m.map fun e => (.inl e.1, .p e.2.1)
structure Nest (own : List OW) (m : List Ent) : Prop where
  d : own[0]? = some (.dct (kvsN m))
  at_ : ∀ e ∈ m, own[e.2.1]? = some (.lst (intS e.2.2))
  pos : ∀ e ∈ m, e.2.1 ≠ 0
  inj : (m.map (·.2.1)).Nodup
  keys : (m.map (·.1)).Nodup
  rest : ∀ k o, own[k]? = some o → k ≠ 0 → ∃ ns, o = .lst (intS ns)
theorem Nest.lt {own : List OW} {m : List Ent} (h : Nest own m) {e : Ent} (he : e ∈ m) : e.2.1 < own.length := (List.getElem?_eq_some_iff.mp (h.at_ e he)).1
theorem Nest.owp {own : List OW} {m : List Ent} (h : Nest own m) : OwP own.length own := fun o ho => by
  obtain ⟨k, hk⟩ := List.mem_iff_getElem?.mp ho
  by_cases z : k = 0
  · subst z
    cases hk.symm.trans h.d
    refine ⟨fun _ e => (nomatch e), fun _ _ e => (nomatch e), fun kvs e x hx j hj => ?_⟩
    cases e
    rw [List.map_map] at hx
    obtain ⟨e, he, rfl⟩ := List.mem_map.mp hx
    cases hj
    exact h.lt he
  · obtain ⟨ns, rfl⟩ := h.rest k o hk z
    refine ⟨fun xs e x hx j hj => ?_, fun _ _ e => (nomatch e), fun _ e => (nomatch e)⟩
    cases e
    obtain ⟨d, _, e2⟩ := List.mem_map.mp hx
    rw [← e2] at hj
    cases hj
/-- one couple more -/
def ups (x y : Int) (p : Nat) : List Ent → List Ent
  | [] => [(x, p, [y])]
  | e :: m => if e.1 = x then (e.1, e.2.1, e.2.2 ++ [y]) :: m else e :: ups x y p m
theorem ups_look {x y : Int} {p : Nat} (r : Int) : ∀ m : List Ent, look (pl (ups x y p m)) r = if r = x then some ((look (pl m) x).getD [] ++ [y]) else look (pl m) r
  | [] => by
    show (if x = r then some [y] else none) = if r = x then some [y] else none
    by_cases h : r = x
    · rw [if_pos h, if_pos h.symm]
    · rw [if_neg h, if_neg fun z => h z.symm]
  | e :: m => by
    have l0 : ∀ r, look (pl (e :: m)) r = if e.1 = r then some e.2.2 else look (pl m) r := fun r => rfl
    by_cases h : e.1 = x
    · have e1 : ups x y p (e :: m) = (e.1, e.2.1, e.2.2 ++ [y]) :: m := if_pos h
      rw [e1, l0, l0, if_pos h]
      show (if e.1 = r then some (e.2.2 ++ [y]) else look (pl m) r) = _
      by_cases hr : r = x
      · rw [if_pos hr, if_pos (h.trans hr.symm)]
        rfl
      · rw [if_neg hr, if_neg fun z => hr (z.symm.trans h), if_neg fun z => hr (z.symm.trans h)]
    · have e1 : ups x y p (e :: m) = e :: ups x y p m := if_neg h
      rw [e1, l0, l0, if_neg h]
      show (if e.1 = r then some e.2.2 else look (pl (ups x y p m)) r) = _
      rw [ups_look r m]
      by_cases hr : r = x
      · rw [if_pos hr, if_pos hr, if_neg fun z => h (z.trans hr)]
      · rw [if_neg hr, if_neg hr]
theorem ups_len {x y : Int} {p : Nat} : ∀ m : List Ent, ((pl (ups x y p m)).flatMap (·.2)).length = ((pl m).flatMap (·.2)).length + 1
  | [] => rfl
  | e :: m => by
    by_cases h : e.1 = x
    · have e1 : ups x y p (e :: m) = (e.1, e.2.1, e.2.2 ++ [y]) :: m := if_pos h
      rw [e1]
      show ((e.2.2 ++ [y]) ++ (pl m).flatMap (·.2)).length = (e.2.2 ++ (pl m).flatMap (·.2)).length + 1
      simp only [List.length_append, List.length_singleton]
      omega
    · have e1 : ups x y p (e :: m) = e :: ups x y p m := if_neg h
      rw [e1]
      show (e.2.2 ++ (pl (ups x y p m)).flatMap (·.2)).length = (e.2.2 ++ (pl m).flatMap (·.2)).length + 1
      rw [List.length_append, List.length_append, ups_len m]
      omega
theorem ups_new {x y : Int} {p : Nat} : ∀ {m : List Ent}, (∀ e ∈ m, e.1 ≠ x) → ups x y p m = m ++ [(x, p, [y])]
  | [], _ => rfl
  | e :: m, h => by
    show (if e.1 = x then _ else e :: ups x y p m) = _
    rw [if_neg (h e (by simp)), ups_new fun e' h' => h e' (by simp [h'])]
    rfl
theorem ups_old {x y : Int} {p q : Nat} {l : List Int} : ∀ {m : List Ent}, (m.map (·.1)).Nodup → (x, q, l) ∈ m → ∃ m1 m2, m = m1 ++ (x, q, l) :: m2 ∧ ups x y p m = m1 ++ (x, q, l ++ [y]) :: m2
  | e :: m, n, h => by
    have n' := List.nodup_cons.mp n
    by_cases hx : e.1 = x
    · have : e = (x, q, l) := by
        rcases List.mem_cons.mp h with z | z
        · exact z.symm
        · exact absurd (List.mem_map.mpr ⟨_, z, hx.symm⟩) n'.1
      subst this
      exact ⟨[], m, rfl, if_pos rfl⟩
    · have hm : (x, q, l) ∈ m := by
        rcases List.mem_cons.mp h with z | z
        · exact absurd (z ▸ rfl) hx
        · exact z
      obtain ⟨m1, m2, e1, e2⟩ := ups_old n'.2 hm
      refine ⟨e :: m1, m2, by rw [e1]; rfl, ?_⟩
      show (if e.1 = x then _ else e :: ups x y p m) = _
      rw [if_neg hx, e2]
      rfl
  | [], _, h => nomatch h
theorem val_kvs {x : Int} : ∀ {m : List Ent}, (∃ q l, (x, q, l) ∈ m ∧ valS (kvsN m) (.inl x) = some (.p q)) ∨ ((∀ e ∈ m, e.1 ≠ x) ∧ valS (kvsN m) (.inl x) = none)
  | [] => .inr ⟨(fun _ h => nomatch h), rfl⟩
  | e :: m => by
    by_cases h : e.1 = x
    · refine Or.inl (Exists.intro e.2.1 (Exists.intro e.2.2 (And.intro ?_ ?_)))
      · rw [← h]
        exact List.mem_cons_self ..
      · simp [valS, List.find?_cons, h]
    · have e1 : valS (kvsN (e :: m)) (.inl x) = valS (kvsN m) (.inl x) := by
        simp [valS, List.find?_cons, h]
      rw [e1]
      rcases val_kvs (x := x) (m := m) with ⟨q, l, h1, h2⟩ | ⟨h1, h2⟩
      · exact Or.inl (Exists.intro q (Exists.intro l (And.intro (List.mem_cons_of_mem _ h1) h2)))
      · refine .inr ⟨fun e' he => ?_, h2⟩
        rcases List.mem_cons.mp he with z | z
        · exact z ▸ h
        · exact h1 e' z
theorem put_kvs {x : Int} {s : SV} {m : List Ent} (h : ∀ e ∈ m, e.1 ≠ x) : putS (kvsN m) (.inl x) s = kvsN m ++ [(.inl x, s)] := by
  unfold putS
  rw [if_neg]
  intro z
  rw [List.any_eq_true] at z
  obtain ⟨kv, hm, e⟩ := z
  obtain ⟨e0, he, rfl⟩ := List.mem_map.mp hm
  exact h e0 he (Sum.inl.inj (of_decide_eq_true e))
/-- a list more, that nothing points to -/
theorem Nest.more {own : List OW} {m : List Ent} (h : Nest own m) : Nest (own ++ [OW.lst (intS [])]) m := by
  have l0 : 0 < own.length := (List.getElem?_eq_some_iff.mp h.d).1
  refine ⟨by rw [List.getElem?_append_left l0]; exact h.d, fun e he => by rw [List.getElem?_append_left (h.lt he)]; exact h.at_ e he, h.pos, h.inj, h.keys, fun k o hk hz => ?_⟩
  by_cases hl : k < own.length
  · rw [List.getElem?_append_left hl] at hk
    exact h.rest k o hk hz
  · have : k = own.length := by
      have := (List.getElem?_eq_some_iff.mp hk).1
      rw [List.length_append, List.length_singleton] at this
      omega
    subst this
    rw [List.getElem?_concat_length] at hk
    exact ⟨[], (Option.some.inj hk).symm⟩
theorem Nest.old {own : List OW} {m : List Ent} (h : Nest own m) {x y : Int} {p q : Nat} {l : List Int} (hm : (x, q, l) ∈ m) : Nest (own.set q (.lst (intS (l ++ [y])))) (ups x y p m) := by
  obtain ⟨m1, m2, e1, e2⟩ := ups_old (y := y) (p := p) h.keys hm
  have hq0 := h.pos _ hm
  have hql := h.lt hm
  have same : ∀ {β : Type} (f : Ent → β), (∀ l', f (x, q, l') = f (x, q, l)) → (ups x y p m).map f = m.map f := fun f hf => by
    rw [e2, e1, List.map_append, List.map_append, List.map_cons, List.map_cons, hf (l ++ [y])]
  have mem : ∀ e, e ∈ ups x y p m → e = (x, q, l ++ [y]) ∨ (e ∈ m ∧ e.2.1 ≠ q) := fun e he => by
    rw [e2] at he
    have hin := h.inj
    rw [e1, List.map_append, List.map_cons] at hin
    have ap := List.nodup_append.mp hin
    rcases List.mem_append.mp he with he | he
    · exact .inr ⟨by rw [e1]; simp [he], fun z => ap.2.2 e.2.1 (List.mem_map.mpr ⟨e, he, rfl⟩) q (by simp) z⟩
    · rcases List.mem_cons.mp he with he | he
      · exact .inl he
      · refine .inr ⟨by rw [e1]; simp [he], fun z => ?_⟩
        exact (List.nodup_cons.mp ap.2.1).1 (List.mem_map.mpr ⟨e, he, z⟩)
  refine ⟨?_, fun e he => ?_, fun e he => ?_, by rw [same _ fun _ => rfl]; exact h.inj, by rw [same _ fun _ => rfl]; exact h.keys, fun k o hk hz => ?_⟩
  · rw [List.getElem?_set_ne hq0, show kvsN (ups x y p m) = kvsN m from same _ fun _ => rfl]
    exact h.d
  · rcases mem e he with rfl | ⟨h1, h2⟩
    · rw [List.getElem?_set_self hql]
    · rw [List.getElem?_set_ne fun z => h2 z.symm]
      exact h.at_ e h1
  · rcases mem e he with rfl | ⟨h1, h2⟩
    · exact hq0
    · exact h.pos e h1
  · by_cases z : k = q
    · subst z
      rw [List.getElem?_set_self hql] at hk
      exact ⟨_, (Option.some.inj hk).symm⟩
    · rw [List.getElem?_set_ne fun w => z w.symm] at hk
      exact h.rest k o hk hz
theorem Nest.new {own : List OW} {m : List Ent} (h : Nest own m) {x y : Int} (hx : ∀ e ∈ m, e.1 ≠ x) :
    Nest (((own ++ [OW.lst (intS [])]).set 0 (.dct (putS (kvsN m) (.inl x) (.p own.length)))).set own.length (.lst (intS [y]))) (ups x y own.length m) := by
  have l0 : 0 < own.length := (List.getElem?_eq_some_iff.mp h.d).1
  rw [put_kvs hx, ups_new hx]
  have at1 : ∀ k, k ≠ 0 → k ≠ own.length → (((own ++ [OW.lst (intS [])]).set 0 (.dct (kvsN m ++ [(.inl x, .p own.length)]))).set own.length (.lst (intS [y])))[k]? = own[k]? := fun k h1 h2 => by
    rw [List.getElem?_set_ne fun z => h2 z.symm, List.getElem?_set_ne fun z => h1 z.symm]
    by_cases hl : k < own.length
    · rw [List.getElem?_append_left hl]
    · rw [List.getElem?_eq_none (by rw [List.length_append, List.length_singleton]; omega), List.getElem?_eq_none (by omega)]
  have atN : (((own ++ [OW.lst (intS [])]).set 0 (.dct (kvsN m ++ [(.inl x, .p own.length)]))).set own.length (.lst (intS [y])))[own.length]? = some (.lst (intS [y])) := by
    rw [List.getElem?_set_self (by rw [List.length_set, List.length_append, List.length_singleton]; omega)]
  refine ⟨?_, fun e he => ?_, fun e he => ?_, ?_, ?_, fun k o hk hz => ?_⟩
  · rw [List.getElem?_set_ne (by omega), List.getElem?_set_self (by rw [List.length_append]; omega)]
    show some (OW.dct (kvsN m ++ [(.inl x, .p own.length)])) = some (OW.dct (kvsN (m ++ [(x, own.length, [y])])))
    rw [show kvsN (m ++ [(x, own.length, [y])]) = kvsN m ++ [(.inl x, .p own.length)] from List.map_append ..]
  · rcases List.mem_append.mp he with he | he
    · rw [at1 _ (h.pos e he) (Nat.ne_of_lt (h.lt he))]
      exact h.at_ e he
    · rw [List.mem_singleton.mp he]
      exact atN
  · rcases List.mem_append.mp he with he | he
    · exact h.pos e he
    · rw [List.mem_singleton.mp he]
      exact Nat.ne_of_gt l0
  · rw [List.map_append]
    refine List.nodup_append.mpr ⟨h.inj, by simp, fun k hk c hc => ?_⟩
    obtain ⟨e, he, rfl⟩ := List.mem_map.mp hk
    rw [List.mem_singleton.mp hc]
    exact Nat.ne_of_lt (h.lt he)
  · rw [List.map_append]
    refine List.nodup_append.mpr ⟨h.keys, by simp, fun k hk c hc => ?_⟩
    obtain ⟨e, he, rfl⟩ := List.mem_map.mp hk
    rw [List.mem_singleton.mp hc]
    exact hx e he
  · by_cases z : k = own.length
    · subst z
      rw [atN] at hk
      exact ⟨_, (Option.some.inj hk).symm⟩
    · rw [at1 k hz z] at hk
      exact h.rest k o hk hz
/-- what they are, once they stand for good -/
def frzN (m : List Ent) (k : Nat) : Option D := if k = 0 then some (.dct (keysD (pl m)) (valsD (pl m))) else (m.find? fun e => decide (e.2.1 = k)).map fun e => .lst (e.2.2.map .int)
theorem frzN_at {m : List Ent} (pos : ∀ e ∈ m, e.2.1 ≠ 0) (inj : (m.map (·.2.1)).Nodup) {e : Ent} (he : e ∈ m) : frzN m e.2.1 = some (.lst (e.2.2.map .int)) := by
  unfold frzN
  rw [if_neg (pos e he)]
  have : m.find? (fun f => decide (f.2.1 = e.2.1)) = some e := by
    clear pos
    induction m with
    | nil => cases he
    | cons f m ih =>
      rw [List.find?_cons]
      have n' := List.nodup_cons.mp inj
      rcases List.mem_cons.mp he with rfl | he
      · simp
      · have : f.2.1 ≠ e.2.1 := fun z => n'.1 (List.mem_map.mpr ⟨e, he, z.symm⟩)
        rw [decide_eq_false this]
        exact ih n'.2 he
  rw [this]
  rfl
theorem Nest.frz {own : List OW} {m : List Ent} (h : Nest own m) : ∀ k d, frzN m k = some d → TwO (frzN m) own k d := fun k d e => by
  have tw : ∀ ns : List Int, TwL (frzN m) (intS ns) (ns.map .int) := fun ns => by
    induction ns with
    | nil => exact rfl
    | cons n ns ih => exact ⟨.int n, _, rfl, rfl, ih⟩
  by_cases hk : k = 0
  · subst hk
    cases (show some (D.dct (keysD (pl m)) (valsD (pl m))) = some d from e)
    refine ⟨kvsN m, h.d, by simp [keysD, pl, kvsN, List.map_map, Function.comp_def], ?_⟩
    have key : ∀ l : List Ent, (∀ e ∈ l, e ∈ m) → TwL (frzN m) ((kvsN l).map (·.2)) (valsD (pl l)) := fun l => by
      induction l with
      | nil => exact fun _ => rfl
      | cons f l ih => exact fun hl => ⟨.lst (f.2.2.map .int), _, rfl, frzN_at h.pos h.inj (hl f (by simp)), ih fun e he => hl e (by simp [he])⟩
    exact key m fun _ z => z
  · unfold frzN at e
    rw [if_neg hk] at e
    cases hf : m.find? (fun f => decide (f.2.1 = k)) with
    | none => rw [hf] at e; cases e
    | some f =>
      rw [hf] at e
      cases (show some (D.lst (f.2.2.map .int)) = some d from e)
      have hm := List.mem_of_find?_eq_some hf
      have hk2 : f.2.1 = k := of_decide_eq_true (List.find?_some (p := fun f : Ent => decide (f.2.1 = k)) hf)
      exact ⟨_, hk2 ▸ h.at_ f hm, tw f.2.2⟩
theorem relOs_at (f : Nat → Option D) : ∀ (os : List OW) (n k : Nat), (relOs f n os)[k]? = os[k]?.map (relO f (n + k))
  | [], n, k => rfl
  | o :: os, n, 0 => rfl
  | o :: os, n, k + 1 => by
    show (relOs f (n + 1) os)[k]? = os[k]?.map _
    rw [relOs_at f os (n + 1) k, Nat.add_assoc, Nat.add_comm 1 k]
theorem Nest.gone {own : List OW} {m : List Ent} (h : Nest own m) (n : Nat) : OwP n (relOs (frzN m) 0 own) := fun o ho => by
  obtain ⟨k, hk⟩ := List.mem_iff_getElem?.mp ho
  rw [relOs_at, Nat.zero_add] at hk
  have g0 : ∀ {o : OW}, o = .gone → (∀ xs, o = .lst xs → ∀ x ∈ xs, ∀ k, x = .p k → k < n) ∧ (∀ c fs, o = .ins c fs → ∀ x ∈ fs.map (·.2), ∀ k, x = .p k → k < n) ∧ (∀ kvs, o = .dct kvs → ∀ x ∈ kvs.map (·.2), ∀ k, x = .p k → k < n) := fun e => by
    subst e
    exact ⟨fun _ e => (nomatch e), fun _ _ e => (nomatch e), fun _ e => (nomatch e)⟩
  cases ho : own[k]? with
  | none => rw [ho] at hk; cases hk
  | some o0 =>
    rw [ho] at hk
    have hk : relO (frzN m) k o0 = o := Option.some.inj hk
    by_cases z : k = 0
    · subst z
      exact g0 hk.symm
    · obtain ⟨ns, rfl⟩ := h.rest k o0 ho z
      unfold relO at hk
      split at hk
      · exact g0 hk.symm
      · subst hk
        refine ⟨fun xs e x hx j hj => ?_, fun _ _ e => (nomatch e), fun _ e => (nomatch e)⟩
        cases e
        rw [List.map_map, List.map_map] at hx
        obtain ⟨q, _, e2⟩ := List.mem_map.mp hx
        rw [← e2] at hj
        cases hj
theorem ups_lenm {x y : Int} {p : Nat} : ∀ m : List Ent, (ups x y p m).length ≤ m.length + 1
  | [] => Nat.le_refl _
  | e :: m => by
    unfold ups
    split
    · simp
    · have := @ups_lenm x y p m
      simp
      omega
theorem ups_edge {x y : Int} {p : Nat} {m : List Ent} (a b : Int) : EdM (pl (ups x y p m)) a b ↔ EdM (pl m) a b ∨ (a = x ∧ b = y) := by
  unfold EdM
  rw [ups_look]
  by_cases h : a = x
  · subst h
    rw [if_pos rfl]
    cases look (pl m) a with
    | none => simp
    | some l => simp
  · rw [if_neg h]
    simp [h]
theorem ent_len {m : List Ent} {e : Ent} (h : e ∈ m) : e.2.2.length ≤ ((pl m).flatMap (·.2)).length := by
  induction m with
  | nil => cases h
  | cons f m ih =>
    show _ ≤ (f.2.2 ++ (pl m).flatMap (·.2)).length
    rw [List.length_append]
    rcases List.mem_cons.mp h with rfl | h
    · omega
    · have := ih h
      omega
theorem look_key {m : List (Int × List Int)} {r : Int} (h : r ∈ m.map (·.1)) : ∃ l, look m r = some l := by
  induction m with
  | nil => cases h
  | cons f m ih =>
    unfold look
    split
    · exact ⟨_, rfl⟩
    · rename_i hne
      refine ih ?_
      rcases List.mem_cons.mp h with z | z
      · exact absurd z.symm hne
      · exact z
theorem look_inm {m : List (Int × List Int)} {r : Int} {l : List Int} (h : look m r = some l) : r ∈ m.map (·.1) := by
  induction m with
  | nil => cases h
  | cons f m ih =>
    unfold look at h
    split at h
    · rename_i e
      simp [e]
    · exact List.mem_cons_of_mem _ (ih h)
theorem look_sub {m : List (Int × List Int)} {r : Int} {l : List Int} (h : look m r = some l) : ∀ y ∈ l, y ∈ m.flatMap (·.2) := by
  intro y hy
  induction m with
  | nil => cases h
  | cons e m ih =>
    rw [List.flatMap_cons, List.mem_append]
    unfold look at h
    split at h
    · cases h
      exact .inl hy
    · exact .inr (ih h)
theorem Rch.inU {m : List (Int × List Int)} {x y : Int} (h : Rch (EdM m) x y) : y ∈ m.flatMap (·.2) := by
  cases h with
  | one e => obtain ⟨l, h1, h2⟩ := e; exact look_sub h1 _ h2
  | more _ e => obtain ⟨l, h1, h2⟩ := e; exact look_sub h1 _ h2
theorem Rch.key {m : List (Int × List Int)} {x y : Int} (h : Rch (EdM m) x y) : x ∈ m.map (·.1) := by
  induction h with
  | one e => obtain ⟨l, h1, h2⟩ := e; exact look_inm h1
  | more _ _ ih => exact ih
end Lo
namespace LX
open PySem PySem.Spec PyProof.Rows L2 PySem.W Lo
variable {X : Cx}
theorem pg_seqK {es : List Expr} {k : Nat} {t : TGs} (K : Frag) (n : Nat) {pos : Pos} (hK : X.K = K) (hc : X.calm = true) (h : PGs X es t)
    (hn : (assignEach es X.env).length = n := by rfl) (hst : (assignEach es X.env).findIdx? (·.1) = none := by rfl) : PG X (.Tuple es k pos) (gSeq K n t) := by
  subst hK
  exact pg_seq hc h hn hst
end LX
end
section
set_option Elab.async false
set_option linter.all false
set_option autoImplicit false
set_option maxRecDepth 100000
set_option maxHeartbeats 1000000
/-! a sign in a text; one own list that stands for good -/
namespace Lo
open PySem PySem.Spec PyProof.Rows L2 Evl
section
variable {T : Tb} {b : Bd} {own : List OW} {ds : List (Option SV)}
theorem wr_notInS {P : PSv} {c : Nat} {z : PySem.Str} (p : P (.d (.bl (!decide (c ∈ z.cps.toList)))) own) : WR T b rNotInS own (.d (.str ⟨#[c]⟩)) (.d (.str z)) P := fun W vx vy ha rx ry Q q => by
  cases RpS.str rx
  cases RpS.str ry
  exact ⟨c, z, rfl, rfl, q _ (.d (.bl _)) own W ha (Le.refl W) rfl p⟩
theorem wr_inS {P : PSv} {c : Nat} {z : PySem.Str} (p : P (.d (.bl (decide (c ∈ z.cps.toList)))) own) : WR T b rInS own (.d (.str ⟨#[c]⟩)) (.d (.str z)) P := fun W vx vy ha rx ry Q q => by
  cases RpS.str rx
  cases RpS.str ry
  exact ⟨c, z, rfl, rfl, q _ (.d (.bl _)) own W ha (Le.refl W) rfl p⟩
/-- truth of a datum that is a bool -/
theorem wt_truB {ta : TE} {P : Bool → List OW → Prop} (h : WE T b ta own ds fun s o => ∃ k, s = .d (.bl k) ∧ P k o) : WT T b (fun σ H Q => ta σ H fun x H' => ∃ k, TruV T.K x H' k ∧ Q k H') own ds P := fun W σ ha sl Q q => by
  refine h W σ ha sl _ fun v s o1 W1 ha1 l1 r1 ⟨k, e, p⟩ => ?_
  subst e
  have r1 : v = .bl k := r1
  subst r1
  exact ⟨k, rfl, q _ o1 W1 ha1 l1 p⟩
/-- in an own list of scalars -/
theorem wr_inO {P : PSv} {neg : Bool} {x : D} {xs : List D} {k : Nat} (ho : own[k]? = some (.lst (xs.map SV.d))) (f : x.flat = true) (g : xs.all D.flat = true) (p : P (.d (.bl (if neg then !x.inF xs else x.inF xs))) own) : WR T b (rIn T.K neg) own (.d x) (.p k) P := fun W vx vy ha rx ry Q q => by
  obtain ⟨a, ea, rfl⟩ := ry
  obtain ⟨a', ea', _, _, _, ws, eh, rr⟩ := ha.ow.get ho
  have z : a' = a := Option.some.inj (ea'.symm.trans ea)
  subst z
  have r := RpSL.ds rr
  rw [flat_rep f rx]
  have e := flat_repL g r
  subst e
  refine ⟨a', _, rfl, .inl (sq_of eh), flatV_vv f, flatAll_vv g, ?_⟩
  rw [inV_vv f g]
  exact q _ (.d (.bl _)) own W ha (Le.refl W) rfl p
theorem flat_ints (ns : List Int) : (ns.map D.int).all D.flat = true := by
  rw [List.all_map, List.all_eq_true]
  exact fun _ _ => rfl
theorem inF_ints (i : Int) (ns : List Int) : (D.int i).inF (ns.map D.int) = decide (i ∈ ns) := by
  unfold D.inF
  rw [List.any_map]
  induction ns with
  | nil => rfl
  | cons n ns ih =>
    rw [List.any_cons, ih]
    have e : ((fun y => D.eqF y (D.int i)) ∘ D.int) n = decide (i = n) := by
      show decide (n = i) = _
      exact decide_eq_decide.mpr eq_comm
    rw [e, ← Bool.decide_or]
    exact decide_eq_decide.mpr List.mem_cons.symm
def fz (k : Nat) (xs : List D) (j : Nat) : Option D := if j = k then some (.lst xs) else none
theorem ws_frzL {t : TS} {Φ : Po} {k : Nat} {xs : List D} (ho : own[k]? = some (.lst (xs.map SV.d))) (h : WS T b t (relOs (fz k xs) 0 own) (ds.map (Option.map (relS (fz k xs)))) Φ) : WS T b t own ds Φ := by
  refine ws_frz (fz k xs) (fun j d e => ?_) h
  have tw : ∀ ys : List D, TwL (fz k xs) (ys.map SV.d) ys := fun ys => by
    induction ys with
    | nil => exact rfl
    | cons n ns ih => exact ⟨n, ns, rfl, rfl, ih⟩
  unfold fz at e
  by_cases hj : j = k
  · rw [if_pos hj] at e
    cases e
    subst hj
    exact ⟨_, ho, tw xs⟩
  · rw [if_neg hj] at e
    cases e
end
end Lo
end
section
set_option Elab.async false
set_option linter.all false
set_option autoImplicit false
set_option maxRecDepth 100000
set_option maxHeartbeats 1000000
/-! an own error class without __init__, called with no argument -/
namespace LX
open PySem PySem.Spec PyProof.Rows L2 PySem.W PySem.Calls
section
variable {X : Cx} {C : Addr} {bmB : List Value} {B newId initId : String}
theorem pmk_own0 {x : Str} {p pos : Pos} (F : ExcBaseFacts B newId initId bmB) (q : PySem.W.excIn X.K C bmB newId = true) (gC : X.mg x = some (.ref C)) (kC : PySem.W.keepIn X.K (.ref C) = true) (r : Raises X (.ref C)) (hg : Gl X x)
    (hdb : (x == ("__debug__" : Str)) = false := by decide) : PMk X (.Call (.Name x p) [] [] pos) (fun _ H Q => Q (.ref C) none H) := by
  intro pins s σ H Q I h
  refine wpAny_Call_Name_kw (ld_glob I hg gC ?_ hdb)
  refine PySem.W.callWith_K0 I.kIn kC ?_
  show wpAny _ _ (call (.ref C) []) _ _ _
  obtain ⟨bm, N, nm, qn, bs, hdct, sn, sub, ab, col, dd, k0, k1, k2, k3, k5, mN, hC, hN, hni, T⟩ := exc_obj I.kIn q
  refine wpAny_call_exc_subT F T hC hN hni (fun h' e hm => ?_) (Nat.zero_le _)
  exact mk_of I hm r h (I.hok.gone hm.new)
end
end LX
end
section
set_option Elab.async false
set_option linter.all false
set_option autoImplicit false
set_option maxRecDepth 100000
set_option maxHeartbeats 1000000
/-! errors that have no attributes: raised, caught, asked -/
namespace LX
open PySem PySem.Spec PyProof.Rows L2 PySem.W PySem.Calls
/-- isinstance(e, c), e the caught error, with no dict of its own -/
def rIsD0 (K : Frag) (cls : Value) (d : Option Addr) (a : Addr) : List V → Hp → VK → Prop := fun xs H Q => ∃ (D : Addr) (c : V) (cv : Value) (b : Bool), xs = [.ref a, c] ∧ cls = .ref D ∧ d = none ∧ ExcC K D ∧ (∀ u, RelV c u → u = cv) ∧ kitOne K (.ref D) cv = some b ∧ Q (.bl b) H
theorem call_isD0 {X : Cx} {a : Addr} {cls : Value} {d : Option Addr} {oe : Obj} {pn : List (Addr × Obj)} (hz : Zc cls d oe) (hf : ∃ vs, oe.data = .fields vs) : CallR (X.suite a ((a, oe) :: pn)) (.builtin "isinstance") (rIsD0 X.K cls d a) := by
  intro pins s σ H xs us Q I r h
  obtain ⟨D, c, cv, b, rfl, ec, ed, C, hcv, hk, q⟩ := h
  subst ec
  subst ed
  cases r with
  | cons rx rr =>
    cases rr with
    | cons rt rn =>
      cases rn
      cases rx
      cases hcv _ rt
      have pin := (I.pin (a, oe) (List.mem_append.mpr (.inl List.mem_cons_self))).1
      obtain ⟨vs, hv⟩ := hf
      have J : InstAt s.heap a oe D none := ⟨pin, hz.1, by unfold notCls; rw [hv] <;> rfl, by rw [hz.2]; exact True.intro⟩
      have hc : (clsIn X.K D).isSome = true := by
        obtain ⟨cd, hc, _⟩ := any_some C.hd
        rw [hc]
        rfl
      exact kia_one (kitx_exc hc C.hg C.hk C.hs C.ha C.hn C.ht C.hm) I.kIn J hk (fun z => nomatch z) fun tk => ⟨.bl b, H, I.kept (t' := tk) fun _ _ z => z, rfl, q⟩
end LX
namespace Lo
open PySem PySem.Spec PyProof.Rows L2 Evl
def XOkB (T : Tb) (b : Bd) (E : XK) (X : Er → Prop) : Prop := ∀ e H', Ex b.B H' → X e → E (.ref (T.cls e.c)) none H'
def PostXB (T : Tb) (H : Hp) (E : XK) : Er → Prop := fun e => ∀ H', Ex H H' → E (.ref (T.cls e.c)) none H'
/-- the promise of a def that changes nothing, its errors with no attributes -/
def SpPB (T : Tb) (F : DF) : Sp := fun vs H Q E => ∃ G0 ds, Ex G0 H ∧ RepL T G0 ds vs ∧ F ds (PostR T G0 H Q) (PostXB T H E)
section
variable {T : Tb} {ι : Type} {args : ι → List D} {pre : ι → Prop} {post : ι → D → Prop} {perr : ι → Er → Prop}
theorem spPB_len {n : Nat} (hn : ∀ i, (args i).length = n) {vs : List V} {H : Hp} {Q : VK} {E : XK} (h : SpPB T (Fv args pre post perr) vs H Q E) : vs.length = n := by
  obtain ⟨G, ds, _, r, i, e2, _⟩ := h
  rw [r.len, e2, hn]
theorem runPB {N : List PySem.Str} {E : XK} {t : TS} {vs : List V} {H : Hp} {Q : VK} (h : SpPB T (Fv args pre post perr) vs H Q E) (hb : ∀ b i, pre i → XOkB T b E (perr i) → WS T b t [] (slots N ((args i).map SV.d)) (Pv (post i))) : t { nx := fun _ H' => Q .non H', rt := Q } (L2.start N vs) H := by
  obtain ⟨G0, ds, g, r, i, rfl, p, hr, hx⟩ := h
  refine bodyP (F := Fv args pre post perr) (E := E) (xs := args i) (vs := vs) g (rpSL_slots (W := ⟨G0, H, []⟩) (RepL.sv (W := ⟨G0, H, []⟩) r)) (WS.imp (hb _ i p ?_) (fun o s z => hr _ z) (fun s o ⟨d, e, z⟩ => ⟨d, e, hr d z⟩) (fun _ _ z => z) fun _ _ z => z)
  exact fun e H' k x => hx e x H' k
end
section
variable {P : Program} {w : World} {K : PySem.W.Frag} {mg : PySem.Str → Option Value} {base : Heap} {x qual : PySem.Str} {st : Stmt} {dvs : List V} {f : Addr} {fd : FuncData} {N ps : List PySem.Str} {k : Nat} {T : Tb}
variable {ι : Type} {args : ι → List D} {pre : ι → Prop} {post : ι → D → Prop} {perr : ι → Er → Prop}
theorem okPB (ss : ι → List (Option SV)) (F : DefAt K x qual st dvs f fd) (S : FnScope N ps (defScope st)) (hn : ∀ i, (args i).length = ps.length)
    (hb : ∀ (cdv : Value) (A : Around) (outer : List Env) (s : Shared) (H : Hp) (E : XK), Room k (A.deeper (envOfC qual (defScope st) s.heap.objs.size f cdv)) →
      ∃ t, PSs (CxB P w K mg base N qual st f cdv A outer s H E) (defBody st) t ∧ ∀ b i, pre i → XOkB T b E (perr i) → WS T b t [] (ss i) (Pv (post i))) (hs : ∀ i, slots N ((args i).map SV.d) = ss i := by intro _; rfl) : FnOk P w K mg base (L2.CX P w) (k + 1) f fd ps (SpPB T (Fv args pre post perr)) :=
  F.ok S (fun vs H Q E h => spPB_len hn h) fun cdv A outer s H vs Q E hr h => by
    obtain ⟨t, ht, hw⟩ := hb cdv A outer s H E hr
    exact ⟨t, ht, runPB h fun b i p x => hs i ▸ hw b i p x⟩
end
section
variable {T : Tb} {b : Bd} {own : List OW} {ds : List (Option SV)} {P : PSv}
theorem ws_raiseB {Φ : Po} {c : Nat} {C : Addr} {E : XK} {X : Er → Prop} (hC : T.cls c = C) (hx : XOkB T b E X) (x : X ⟨c, []⟩) : WS T b (fun _ σ H => (fun (_ : L2.St) (H : Hp) (Q : XK) => Q (.ref C) none H) σ H fun cls d H' => E cls d H') own ds Φ := fun W σ ha sl D d => by
  subst hC
  exact hx ⟨c, []⟩ W.H ha.bh x
/-- what a try wants of an error that has no attributes -/
def CaughtB (T : Tb) (b : Bd) (c : Value) (j : Nat) (ts : Addr → Value → Option Addr → TS) (own : List OW) (ds : List (Option SV)) (Φ : Po) : Er → Prop := fun e => PySem.W.exmOne T.K (.ref (T.cls e.c)) c = some true ∧
  ∀ a, WS T b (ts a (.ref (T.cls e.c)) none) own (ds.set j (some (.x0 a))) (Φ.back j)
theorem caughtB_go {W : Wd} {σ : L2.St} {D : Ends} {Φ : Po} {c : Value} {j : Nat} {ts : Addr → Value → Option Addr → TS} {Wout : WX} (ha : HA T b W own) (sl : SlL T W σ ds) (d : DOk T b W D Φ) {e : Er} (y : CaughtB T b c j ts own ds Φ e) {H' : Hp} (hh : Ex W.H H') :
    wAs T.K c j ts Wout D (.ref (T.cls e.c)) none σ H' := by
  obtain ⟨hm, hs⟩ := y
  refine ⟨true, hm, fun _ a na => ?_, fun z => Bool.noConfusion z⟩
  obtain ⟨h2, l2⟩ := ha.call (Ex.refl _) (ha.gh.trans hh) hh fun _ _ z => z
  have rx : RpS T ⟨W.G, H', W.as⟩ (.x0 a) (.ref a) := rfl
  refine hs a ⟨W.G, H', W.as⟩ (σ.set j (some (.ref a))) h2 (SlL.set (fun sv q => by cases q; exact rx) j (sl.mono l2)) _ ⟨fun σ' o s W' h' l' sl' n => ?_, fun v s o W' h' l' r' p => d.rt v s o W' h' (l2.trans l') r' p, fun σ' o s W' h' l' sl' n => ?_, fun σ' o s W' h' l' sl' n => ?_⟩
  · exact d.nx _ o _ W' h' (l2.trans l') (SlL.setNone j sl') n
  · exact d.bk _ o _ W' h' (l2.trans l') (SlL.setNone j sl') n
  · exact d.ct _ o _ W' h' (l2.trans l') (SlL.setNone j sl') n
theorem ws_tryCallB {F : DF} {dvs : List V} {dd : List D} {i j : Nat} {c : Value} {ts : Addr → Value → Option Addr → TS} {Wout : WX} {ta : TA} {Φ : Po} (mon : Mon F) (hd : ∀ G, RepL T G dd dvs)
    (h : WA T b ta own ds fun ss o => ∃ xs, AllD ss xs ∧ F (xs ++ dd) (fun d => Φ.nx o (ds.set i (some (.d d)))) (CaughtB T b c j ts o ds Φ)) :
    WS T b (fun D => tAsg (tCallSD (SpPB T F) dvs (L2.WE (wAs T.K c j ts Wout D)) ta) (gName i) D) own ds Φ := fun W σ ha sl D d => by
  refine h W σ ha sl _ fun vs ss o1 W1 ha1 l1 r1 ⟨xs, e, f⟩ => ?_
  rw [e.eq] at r1
  refine ⟨W1.G, xs ++ dd, ha1.gh, repL_app (RpSL.ds r1) (hd _), mon f (fun y p v G' H' g gh hh hg rv => ?_) fun er y H' hh => ?_⟩
  · obtain ⟨ha2, l2⟩ := ha1.call g gh hh hg
    exact d.nx _ o1 _ ⟨G', H', W1.as⟩ ha2 (l1.trans l2) (SlL.set (fun sv q => by cases q; exact rv) i (sl.mono (l1.trans l2))) p
  · exact caughtB_go ha1 (sl.mono l1) (d.up l1) y hh
theorem we_isD0 {te : TE} {K : PySem.W.Frag} {cls : Value} {dA : Option Addr} {a : Addr} {v : V} {cv : Value} (hK : K = T.K) (hv : ∀ u, RelV v u → u = cv)
    (h : WE T b te own ds fun s o => ∃ D k, s = .x0 a ∧ cls = .ref D ∧ dA = none ∧ ExcC T.K D ∧ PySem.W.kitOne T.K (.ref D) cv = some k ∧ P (.d (.bl k)) o) : WE T b (tCB (LX.rIsD0 K cls dA a) (tCons te (tCons (tC v) tNil))) own ds P := fun W σ ha sl Q q => by
  subst hK
  refine h W σ ha sl _ fun w s o1 W1 ha1 l1 r1 ⟨D, k, e, ec, ed, hC, hk, p⟩ => ?_
  subst e
  have r1 : w = .ref a := r1
  subst r1
  exact ⟨D, v, cv, k, rfl, ec, ed, hC, hv, hk, q _ (.d (.bl k)) o1 W1 ha1 l1 rfl p⟩
end
end Lo
end
section
set_option Elab.async false
set_option linter.all false
set_option autoImplicit false
set_option maxRecDepth 100000
set_option maxHeartbeats 1000000
/-! repr of any plain thing; a dict of one text; a comprehension that leaves an own list -/
namespace LX
open PySem PySem.Spec PyProof.Rows L2 PySem.W PySem.Calls
variable {X : Cx}
/-- the dict of one pair of texts, and of a text and an int -/
def pyKV : L2.Key × V → Option PyData
  | (.inr k, .str z) => some (.dict [(.str k, .str z)])
  | (.inr k, .int i) => some (.dict [(.str k, .int i)])
  | _ => none
def rReprA (K : Frag) : List V → Hp → VK → Prop := fun xs H Q => rRepr K xs H Q ∨ (∃ z, xs = [.str z] ∧ (reprText z).length ≤ sizeLine ∧ Q (.str (reprText z)) H) ∨
  (∃ i, xs = [.int i] ∧ i.natAbs.log2 < 1920 ∧ Q (.str (toString i)) H) ∨ (∃ k, xs = [.bl k] ∧ Q (.str (if k then "True" else "False")) H) ∨ (xs = [.non] ∧ Q (.str "None") H) ∨
  (∃ a kv d, xs = [.ref a] ∧ H a = some (.dK [kv]) ∧ pyKV kv = some d ∧ d.showable = true ∧ d.depth ≤ 60 ∧ d.shown.length ≤ sizeLine ∧ Q (.str d.shown) H) ∨
  (∃ a, xs = [.ref a] ∧ H a = some (.dK []) ∧ Q (.str (PyData.dict []).shown) H)
theorem reads_kv {s : Shared} {P : Program} {w : World} {H : Hp} {a : Addr} {kv : L2.Key × V} {d : PyData} (ok : HOk P w H s.heap) (e : H a = some (.dK [kv])) (hd : pyKV kv = some d) : ∃ as, Reads s.heap (.ref a) d as ∧ sysModules ∉ as := by
  obtain ⟨_, hs, vs, r, o, es, ep, ho, hx, hdt, hk, hp, _⟩ := dk_of ok e
  have hs' : a ≠ sysModules := beq_eq_false_iff_ne.mp hs
  cases r with
  | @cons p q ps qs h t =>
    cases t
    obtain ⟨h1, h2⟩ := h
    obtain ⟨qk, qv⟩ := q
    cases h1
    have hc : o.cls = .type "dict" := hx.1
    generalize hE : es.toList = E at hp
    cases hp with
    | @cons e1 kv1 es1 kvs1 i1 i2 i3 =>
      cases i3
      obtain ⟨k, v⟩ := kv
      cases k with
      | inl n => cases hd
      | inr k =>
        obtain ⟨hh, ky, vl⟩ := e1
        have j1 : keyIs (Sum.inr k) ky = true := i1
        have j2 : vl = qv := i2
        subst j2
        rcases keyIs_shape j1 with ⟨i, t, e, _⟩ | ⟨x, t, e, e2⟩
        · cases e
        cases e
        subst e2
        cases v with
        | str z =>
          cases hd
          obtain ⟨t2, rfl⟩ := (show ∃ t, vl = .str z t from h2)
          refine ⟨a :: ([] ++ []) ++ ([] ++ []), Reads.dict (kvs := [(.str k, .str z)]) ho hc hdt ?_ ?_, ?_⟩
          · rw [hE]
            exact .cons (.str k t) .nil
          · rw [hE]
            exact .cons (.str z t2) .nil
          · simpa using fun z => hs' z.symm
        | int i =>
          cases hd
          obtain ⟨t2, rfl⟩ := (show ∃ t, vl = .int i t from h2)
          refine ⟨a :: ([] ++ []) ++ ([] ++ []), Reads.dict (kvs := [(.str k, .int i)]) ho hc hdt ?_ ?_, ?_⟩
          · rw [hE]
            exact .cons (.str k t) .nil
          · rw [hE]
            exact .cons (.int i t2) .nil
          · simpa using fun z => hs' z.symm
        | _ => cases hd
theorem reads_k0 {s : Shared} {P : Program} {w : World} {H : Hp} {a : Addr} (ok : HOk P w H s.heap) (e : H a = some (.dK [])) : ∃ as, Reads s.heap (.ref a) (.dict []) as ∧ sysModules ∉ as := by
  obtain ⟨_, hs, vs, r, o, es, ep, ho, hx, hdt, hk, hp, _⟩ := dk_of ok e
  have hs' : a ≠ sysModules := beq_eq_false_iff_ne.mp hs
  cases r
  have hc : o.cls = .type "dict" := hx.1
  generalize hE : es.toList = E at hp
  cases hp
  refine ⟨a :: [] ++ [], Reads.dict (kvs := []) ho hc hdt ?_ ?_, ?_⟩
  · rw [hE]
    exact .nil
  · rw [hE]
    exact .nil
  · simpa using fun z => hs' z.symm
theorem call_reprA (hgu : X.A.guards = some []) (hu : X.A.units + 64 < cLine) : CallR X (.builtin "repr") (rReprA X.K) := by
  intro pins s σ H xs us Q I r h
  rcases h with h | ⟨z, rfl, hz, q⟩ | ⟨i, rfl, hz, q⟩ | ⟨k, rfl, q⟩ | ⟨rfl, q⟩ | ⟨a, kv, d, rfl, e, hd, hs, hz, hl, q⟩ | ⟨a, rfl, e, q⟩
  · exact call_repr hgu hu pins s σ H xs us Q I r h
  · obtain ⟨u, rfl, t, rfl⟩ := vals1 r
    exact PySem.P.repr_of_str ⟨.str _, H, I.tok _, ⟨_, rfl⟩, q⟩ hz
  · obtain ⟨u, rfl, t, rfl⟩ := vals1 r
    exact PySem.P.repr_of_int hz ⟨.str _, H, I.tok _, ⟨_, rfl⟩, q⟩
  · obtain ⟨u, rfl, ru⟩ := vals1 r
    cases (show u = Value.bool k from ru)
    exact PySem.P.repr_of_bool ⟨.str _, H, I.tok _, ⟨_, rfl⟩, q⟩
  · obtain ⟨u, rfl, ru⟩ := vals1 r
    cases (show u = Value.none from ru)
    exact PySem.P.repr_of_none ⟨.str _, H, I.tok _, ⟨_, rfl⟩, q⟩
  · obtain ⟨u, rfl, ru⟩ := vals1 r
    cases (show u = Value.ref a from ru)
    obtain ⟨as, rd, hn⟩ := reads_kv I.hok e hd
    refine repr_of_reads' rd hs (fun _ => hn) hgu (by omega) (fun _ _ e => e) (fun h' t tk hk => ?_) hl
    exact ⟨.str d.shown, H, I.kept (t' := tk) hk, ⟨t, rfl⟩, q⟩
  · obtain ⟨u, rfl, ru⟩ := vals1 r
    cases (show u = Value.ref a from ru)
    obtain ⟨as, rd, hn⟩ := reads_k0 I.hok e
    refine repr_of_reads' rd rfl (fun _ => hn) hgu (by show _ + (PyData.depth (.dict []) + 1) < _; simp only [PyData.depth, PyData.depthKv]; omega) (fun _ _ e => e) (fun h' t tk hk => ?_) (by decide +kernel)
    exact ⟨.str _, H, I.kept (t' := tk) hk, ⟨t, rfl⟩, q⟩
end LX
namespace Lo
open PySem PySem.Spec PyProof.Rows L2 Evl
section
variable {T : Tb} {b : Bd} {own : List OW} {ds : List (Option SV)} {P : PSv}
/-- what repr says -/
inductive Rpd : D → PySem.Str → Prop
  | row {d : D} (hr : d.isR = true) (h : d.rp = true) : Rpd d d.py.shown
  | str {z : PySem.Str} (h : (reprText z).length ≤ 100000) : Rpd (.str z) (reprText z)
  | int {i : Int} (h : i.natAbs.log2 < 1920) : Rpd (.int i) (toString i : String)
  | bl {k : Bool} : Rpd (.bl k) (if k then "True" else "False" : PySem.Str)
  | non : Rpd .non "None"
  | dcS {k z : PySem.Str} (h1 : (PyData.dict [(.str k, .str z)]).showable = true) (h2 : (PyData.dict [(.str k, .str z)]).shown.length ≤ 100000) : Rpd (.dct [.inr k] [.str z]) (PyData.dict [(.str k, .str z)]).shown
  | dcI {k : PySem.Str} {i : Int} (h1 : (PyData.dict [(.str k, .int i)]).showable = true) (h2 : (PyData.dict [(.str k, .int i)]).shown.length ≤ 100000) : Rpd (.dct [.inr k] [.int i]) (PyData.dict [(.str k, .int i)]).shown
  | dc0 : Rpd (.dct [] []) (PyData.dict []).shown
theorem wc_reprA {s : SV} {d : D} {z : PySem.Str} (t : Thw own s d) (h : Rpd d z) (p : P (.d (.str z)) own) : WC T b (LX.rReprA T.K) own [s] P :=
  wc_val (z := .str z) (vz := .str z) (fun _ => rfl) (fun W vs ha ⟨v, r, ev, rx, er⟩ Q q => by
    subst ev
    have er' : r = [] := er
    subst er'
    have rr := t.rep ha rx
    cases h with
    | row hr h =>
      refine .inl ?_
      simp only [D.rp, Bool.and_eq_true, Bool.not_eq_true', decide_eq_true_eq] at h
      refine ⟨v, d.py, rfl, Rep.dp h.1.1.1.1 rr, h.1.1.1.2, h.1.1.2, h.1.2, sz_of h.2, ?_, q⟩
      cases d with
      | lst xs => obtain ⟨a, _, e, _⟩ := rr; exact ⟨a, e⟩
      | tup xs => obtain ⟨a, _, e, _⟩ := rr; exact ⟨a, e⟩
      | _ => cases hr
    | str h =>
      have e : v = .str _ := rr
      subst e
      exact .inr (.inl ⟨_, rfl, sz_of h, q⟩)
    | int h =>
      have e : v = .int _ := rr
      subst e
      exact .inr (.inr (.inl ⟨_, rfl, h, q⟩))
    | bl =>
      have e : v = .bl _ := rr
      subst e
      exact .inr (.inr (.inr (.inl ⟨_, rfl, q⟩)))
    | non =>
      have e : v = .non := rr
      subst e
      exact .inr (.inr (.inr (.inr (.inl ⟨rfl, q⟩))))
    | @dcS k z h1 h2 =>
      obtain ⟨a, gs, rfl, ho, hn, v1, r1, eg, hv, hr⟩ := rr
      obtain ⟨g, rfl⟩ : ∃ g, gs = [g] := by
        cases gs with
        | nil => cases hn
        | cons g r =>
          have e : r = [] := by simpa using (List.cons.inj hn).2
          exact ⟨g, by rw [e]⟩
      obtain ⟨gk, gv⟩ := g
      have e1 : gk = .inr k := (List.cons.inj hn).1
      have e2 : gv = v1 := (List.cons.inj eg).1
      have e3 : v1 = .str z := hv
      subst e1 e2 e3
      exact .inr (.inr (.inr (.inr (.inr (.inl ⟨a, _, _, rfl, ho, rfl, h1, by simp only [PyData.depth, PyData.depthKv]; omega, sz_of h2, q⟩)))))
    | @dcI k i h1 h2 =>
      obtain ⟨a, gs, rfl, ho, hn, v1, r1, eg, hv, hr⟩ := rr
      obtain ⟨g, rfl⟩ : ∃ g, gs = [g] := by
        cases gs with
        | nil => cases hn
        | cons g r =>
          have e : r = [] := by simpa using (List.cons.inj hn).2
          exact ⟨g, by rw [e]⟩
      obtain ⟨gk, gv⟩ := g
      have e1 : gk = .inr k := (List.cons.inj hn).1
      have e2 : gv = v1 := (List.cons.inj eg).1
      have e3 : v1 = .int i := hv
      subst e1 e2 e3
      exact .inr (.inr (.inr (.inr (.inr (.inl ⟨a, _, _, rfl, ho, rfl, h1, by simp only [PyData.depth, PyData.depthKv]; omega, sz_of h2, q⟩)))))
    | dc0 =>
      obtain ⟨a, gs, rfl, ho, hn, hr⟩ := rr
      obtain rfl : gs = [] := by simpa using hn
      exact .inr (.inr (.inr (.inr (.inr (.inr ⟨a, rfl, ho, q⟩)))))) p
/-- {k: v}, v a constant -/
theorem we_disp1 {k : PySem.Str} {v : V} {d : D} (hv : ∀ G, Rep T G d v) (p : P (.d (.dct [.inr k] [d])) own) : WE T b (tDisp [(tC (.str k), tC v)]) own ds P := fun W σ ha sl Q q c hc => by
  refine ⟨upd_same, [(.inr k, v)], rfl, Nat.le_of_ble_eq_true rfl, ?_⟩
  have e : upd (upd W.H c (.dK [])) c (.dK (mergeK [] [(.inr k, v)])) = upd W.H c (.dK [(.inr k, v)]) := by
    funext x
    by_cases z : x = c
    · subst z
      rw [upd_same, upd_same]
      rfl
    · rw [upd_ne z, upd_ne z, upd_ne z]
  show Q (.ref c) (upd (upd W.H c (.dK [])) c (.dK (mergeK [] [(.inr k, v)])))
  rw [e]
  obtain ⟨ha2, l2⟩ := ha.alloc (o := .dK [(.inr k, v)]) hc
  exact q _ (.d (.dct [.inr k] [d])) own _ ha2 l2 ⟨c, [(.inr k, v)], rfl, upd_same, rfl, v, [], rfl, hv _, rfl⟩ p
/-- {} that is not changed -/
theorem we_disp0 (p : P (.d (.dct [] [])) own) : WE T b tDNewK own ds P := fun W σ ha sl Q q c hc => by
  obtain ⟨ha2, l2⟩ := ha.alloc (o := .dK []) hc
  exact q _ (.d (.dct [] [])) own _ ha2 l2 ⟨c, [], rfl, upd_same, rfl, rfl⟩ p
end
end Lo
end
section
set_option Elab.async false
set_option linter.all false
set_option autoImplicit false
set_option maxRecDepth 100000
set_option maxHeartbeats 1000000
namespace Lo
open PySem PySem.Spec PyProof.Rows L2 Evl
section
variable {T : Tb} {b : Bd} {own : List OW} {ds : List (Option SV)} {P : PSv}
/-- .. and the list stays an own one -/
theorem we_lcO {wi : TI} {g : TG} {js : List Nat} {tt : TT} {te : TE} {vs : List Nat} (hj : ∀ j ∈ js, j ∈ vs) (I : List D → Nat → List D → Prop)
    (h : WI T b wi own ds fun items o => own.length ≤ o.length ∧ OwP o.length o ∧ I items 0 [] ∧ items.length ≤ 100000 ∧ (∀ i x acc, items[i]? = some x → I items i acc → acc.length ≤ i →
        WG T b g js x (o ++ [.lst (acc.map SV.d)]) (wipeD ds vs) fun o2 s2 => WT T b tt o2 s2 fun k o3 => (k = true → WE T b te o3 s2 fun s o4 => ∃ d, s = .d d ∧ o4 = o ++ [.lst (acc.map SV.d)] ∧ I items (i + 1) (acc ++ [d])) ∧ (k = false → o3 = o ++ [.lst (acc.map SV.d)] ∧ I items (i + 1) acc)) ∧
      (∀ acc, I items items.length acc → acc.length ≤ items.length → P (.p o.length) (o ++ [.lst (acc.map SV.d)]))) : WE T b (tLc wi g tt te vs) own ds P := fun W σ ha sl Q q => by
  refine h W σ ha sl _ fun J items o1 W1 ha1 l1 it ⟨hlen, pp, i0, hsz, hs, hd⟩ Dd hD => ?_
  have dl := ha1.ow.len
  obtain ⟨hA0, lA0⟩ := ha1.allocOwn (ss := ([] : List D).map SV.d) (vs := []) hD rfl
  have at0 : (W1.as ++ [Dd])[o1.length]? = some Dd := by rw [← dl]; simp
  refine ⟨fun i m H2 => m = items.length - i ∧ i ≤ items.length ∧ ∃ W2 acc, W2.H = H2 ∧ HA T b W2 (o1 ++ [.lst (acc.map SV.d)]) ∧ Le W1 W2 ∧ W2.as[o1.length]? = some Dd ∧ I items i acc ∧ acc.length ≤ i, ⟨items.length, by simp, Nat.zero_le _, _, [], rfl, hA0, lA0, at0, i0, Nat.le_refl _⟩, ?_⟩
  rintro i m H2 ⟨rfl, hi, W2, acc, rfl, ha2, l2, atD, iv, hal⟩
  by_cases hlt : i < items.length
  · obtain ⟨x, hx⟩ : ∃ x, items[i]? = some x := ⟨_, List.getElem?_eq_getElem hlt⟩
    obtain ⟨hgo, hy⟩ := (it i W2 _ l2 ha2).1 x hx
    have hw := hs i x acc hx iv hal
    refine .inr ⟨hgo, fun H' => ∃ W3 acc', W3.H = H' ∧ HA T b W3 (o1 ++ [.lst (acc'.map SV.d)]) ∧ Le W1 W3 ∧ W3.as[o1.length]? = some Dd ∧ I items (i + 1) acc' ∧ acc'.length ≤ i + 1, fun H' ⟨W3, acc', e, h4, l4, a4, i4, n4⟩ => ⟨items.length - (i + 1), by omega, rfl, hlt, W3, acc', e, h4, l4, a4, i4, n4⟩, fun v H' yv => ?_⟩
    obtain ⟨W3, rfl, ha3, l3, rv⟩ := hy v H' yv
    have sl2 : SlL T W3 (wipe σ vs) (wipeD ds vs) := (SlL.wipe (sl.mono l1) vs).mono (l2.trans l3)
    refine hw W3 _ v ha3 sl2 rv _ fun σ4 o4 s4 W4 ha4 l4 sl4 hl4 hk4 hb => ⟨wipe_same hj hl4 hk4, ?_⟩
    have l14 : Le W1 W4 := (l2.trans l3).trans l4
    have at4 : W4.as[o1.length]? = some Dd := prefix_get (l3.trans l4).a atD
    refine hb W4 σ4 ha4 sl4 _ fun k o5 W5 ha5 l5 ⟨hyes, hno⟩ => ?_
    cases k with
    | true =>
      refine hyes rfl W5 σ4 ha5 (sl4.mono l5) _ fun y s o6 W6 ha6 l6 r6 ⟨d, es, eo, i6⟩ => ?_
      subst es
      subst eo
      have at6 : W6.as[o1.length]? = some Dd := prefix_get (l5.trans l6).a at4
      have ho : (o1 ++ [OW.lst (acc.map SV.d)])[o1.length]? = some (.lst (acc.map SV.d)) := by simp
      obtain ⟨a', ea', g', b', n', vs', eh, rr⟩ := ha6.ow.get ho
      have z : a' = Dd := Option.some.inj (ea'.symm.trans at6)
      subst z
      have app : RpSL T W6 ((acc ++ [d]).map SV.d) (vs' ++ [y]) := by
        have key : ∀ {xs : List SV} {ws : List V}, RpSL T W6 xs ws → RpSL T W6 (xs ++ [.d d]) (ws ++ [y]) := by
          intro xs
          induction xs with
          | nil =>
            intro ws h
            have h' : ws = [] := h
            subst h'
            exact ⟨y, [], rfl, r6, rfl⟩
          | cons x xs ih =>
            intro ws ⟨v, r, e, h1, h2⟩
            subst e
            exact ⟨v, r ++ [y], rfl, h1, ih h2⟩
        rw [List.map_append]
        exact key rr
      obtain ⟨ha7, l7⟩ := ha6.setOwn ho at6 app
      have es : (o1 ++ [OW.lst (acc.map SV.d)]).set o1.length (.lst ((acc ++ [d]).map SV.d)) = o1 ++ [.lst ((acc ++ [d]).map SV.d)] := by simp
      rw [es] at ha7
      have nl : vs'.length = acc.length := by rw [RpSL.len rr, List.length_map]
      refine ⟨vs', eh, sz_lt (by omega), _, acc ++ [d], rfl, ha7, (l14.trans (l5.trans l6)).trans l7, at6, i6, by simp; omega⟩
    | false =>
      obtain ⟨eo, i6⟩ := hno rfl
      subst eo
      exact ⟨W5, acc, rfl, ha5, l14.trans l5, prefix_get l5.a at4, i6, by omega⟩
  · have e : i = items.length := by omega
    subst e
    refine .inl ⟨(it _ W2 _ l2 ha2).2 rfl, ?_⟩
    exact q _ (.p o1.length) _ W2 ha2 (l1.trans l2) ⟨Dd, atD, rfl⟩ (hd acc iv hal)
end
end Lo
end
section
set_option Elab.async false
set_option linter.all false
set_option autoImplicit false
set_option maxRecDepth 100000
set_option maxHeartbeats 1000000
/-! f(x, k = y) -/
namespace Lo
open PySem PySem.Spec PyProof.Rows L2 Evl
section
variable {T : Tb} {b : Bd} {own : List OW} {ds : List (Option SV)} {P : PSv}
variable {ι : Type} {args : ι → List D} {pre : ι → Prop} {post : ι → D → Prop} {perr : ι → Er → Prop}
/-- one value, one keyword that is the last parameter; a default None between -/
def gMid (vs zs : List V) : List V := vs ++ .non :: zs
theorem we_calK {E : XK} {ta tk : TA}
    (h : WA T b ta own ds fun ss o => ∃ x, ss = [.d x] ∧ WA T b tk o ds fun zz o2 => ∃ y, zz = [.d y] ∧ Goes args pre post perr [x, .non, y] (fun d => P (.d d) o2)) :
    WE T b (L2.tCallN 1 1 (SpP T (Fv args pre post perr)) gMid E ta tk) own ds P := fun W σ ha sl Q q => by
  refine h W σ ha sl _ fun vs ss o1 W1 ha1 l1 r1 ⟨x, e1, h2⟩ => ?_
  subst e1
  refine h2 W1 σ ha1 (sl.mono l1) _ fun zs zz o2 W2 ha2 l2 r2 ⟨y, e2, g⟩ => ?_
  subst e2
  have s1 := RpSL.ds (ds := [x]) (RpSL.mono l2 r1)
  have s2 := RpSL.ds (ds := [y]) r2
  obtain ⟨v, r, ev, hv, hr⟩ := s1
  have hr' : r = [] := hr
  subst hr' ev
  obtain ⟨u, r, eu, hu, hr⟩ := s2
  have hr' : r = [] := hr
  subst hr' eu
  refine ⟨rfl, rfl, W2.G, [x, .non, y], ha2.gh, ⟨v, _, rfl, hv, .non, _, rfl, rfl, u, [], rfl, hu, rfl⟩, Fv.mon (g.fv (X := fun _ => False)) (fun d p v G' H' g gh hh hg rv => ?_) fun e (y : False) => y.elim⟩
  obtain ⟨ha3, l3⟩ := ha2.call g gh hh hg
  exact q v (.d d) o2 ⟨G', H', W2.as⟩ ha3 ((l1.trans l2).trans l3) rv p
end
section
variable {X : Cx} {k : Nat} {f : Addr} {ps : List PySem.Str} {sp : Sp} {E : XK} {x : PySem.Str} {p pos : Pos} {e : Expr} {t tk : TA} {kws : List Keyword}
/-- what a caller with one keyword needs of a def -/
def CalK (P : Program) (w : World) (K : PySem.W.Frag) (mg : PySem.Str → Option Value) (base : Heap) (k : Nat) (f : Addr) (ps : List PySem.Str) (sp : Sp) (kw : PySem.Str) : Prop :=
  ∃ fd g, FnOk P w K mg base (L2.CX P w) k f fd ps sp ∧ KBn K fd ps 1 [kw] g gMid
theorem pe_calK {n : Nat} {kw : PySem.Str} (A : At X.K X.mg x f) (F : CalK X.prog X.w X.K X.mg X.base k f ps sp kw) (hr : Room n X.A) (hg : Gl X x) (hx : Passes (L2.CX X.prog X.w) X E) (ha : PA X [e] t) (hkw : PK X kws tk) (hk : k ≤ n := by decide)
    (hall : (backToKw pos (keywordEach kws X.env)).all (·.1.isSome) = true := by rfl) (hks : (backToKw pos (keywordEach kws X.env)).filterMap (·.1) = [kw] := by rfl)
    (hdb : (x == ("__debug__" : PySem.Str)) = false := by decide) (he : starEach [e] X.env = (false, eval e X.env) :: starEach [] X.env := by rfl)
    (hpl : ((backTo pos (starEach [e] X.env)).any (·.1) || (backToKw pos (keywordEach kws X.env)).any (·.1.isNone)) = false := by rfl) :
    PE X (.Call (.Name x p) [e] kws pos) (L2.tCallN 1 1 sp gMid E t tk) := by
  obtain ⟨fd, g, F, hb⟩ := F
  exact L2.pe_callN F (hr.mono hk) hg A.mg A.kp hb hx ha hkw hall hks hdb he hpl
end
end Lo
namespace Lo
open PySem PySem.Spec PyProof.Rows L2 Evl
section
variable {P : Program} {w : World} {K : PySem.W.Frag} {mg : PySem.Str → Option Value} {base : Heap} {x qual : PySem.Str} {st : Stmt} {dvs : List V} {f : Addr} {fd : FuncData} {N ps : List PySem.Str} {k : Nat} {T : Tb}
variable {ι : Type} {args : ι → List D} {pre : ι → Prop} {post : ι → D → Prop} {perr : ι → Er → Prop}
theorem okHG (ss : ι → List (Option SV)) (F : DefAt K x qual st dvs f fd) (S : FnScope N ps (defScope st)) (hn : ∀ i, (args i).length + 1 = ps.length)
    (hb : ∀ (cdv : Value) (A : Around) (outer : List Env) (s : Shared) (H : Hp) (E : XK), Room k (A.deeper (envOfC qual (defScope st) s.heap.objs.size f cdv)) → (A.deeper (envOfC qual (defScope st) s.heap.objs.size f cdv)).guards = some [] →
      ∃ t, PSs (CxB P w K mg base N qual st f cdv A outer s H E) (defBody st) t ∧ ∀ b i, pre i → WS T b t [.hand] (ss i) ⟨fun _ _ => False, (PvH (post i)).rt, fun _ _ => False, fun _ _ => False⟩) (hs : ∀ i, slots N (.p 0 :: (args i).map SV.d) = ss i := by intro _; rfl) : LX.FnG P w K mg base (L2.CX P w) (k + 1) f fd ps (SpH T (Fv args pre post perr)) := by
  obtain ⟨oc, od, dV, kV, doc, pm, an, cdv, ct, osl, rfl, lk, hcd, _, _⟩ := F.ex
  refine LX.fnG_of lk hcd S (fun vs H Q E h => spH_len hn h) fun A hg outer s H vs Q E hr h => ?_
  obtain ⟨t, ht, hw⟩ := hb cdv A outer s H E hr hg
  exact ⟨t, ht, runH h fun b i p => hs i ▸ hw b i p⟩
theorem okPG (ss : ι → List (Option SV)) (F : DefAt K x qual st dvs f fd) (S : FnScope N ps (defScope st)) (hn : ∀ i, (args i).length = ps.length)
    (hb : ∀ (cdv : Value) (A : Around) (outer : List Env) (s : Shared) (H : Hp) (E : XK), Room k (A.deeper (envOfC qual (defScope st) s.heap.objs.size f cdv)) → (A.deeper (envOfC qual (defScope st) s.heap.objs.size f cdv)).guards = some [] →
      ∃ t, PSs (CxB P w K mg base N qual st f cdv A outer s H E) (defBody st) t ∧ ∀ b i, pre i → XOk T b E (perr i) → WS T b t [] (ss i) (Pv (post i))) (hs : ∀ i, slots N ((args i).map SV.d) = ss i := by intro _; rfl) : LX.FnG P w K mg base (L2.CX P w) (k + 1) f fd ps (SpP T (Fv args pre post perr)) := by
  obtain ⟨oc, od, dV, kV, doc, pm, an, cdv, ct, osl, rfl, lk, hcd, _, _⟩ := F.ex
  refine LX.fnG_of lk hcd S (fun vs H Q E h => spP_len hn h) fun A hg outer s H vs Q E hr h => ?_
  obtain ⟨t, ht, hw⟩ := hb cdv A outer s H E hr hg
  exact ⟨t, ht, runP h fun b i p x => hs i ▸ hw b i p x⟩
/-- what a caller needs of a def that asks repr -/
def CalG (P : Program) (w : World) (K : PySem.W.Frag) (mg : PySem.Str → Option Value) (base : Heap) (k : Nat) (f : Addr) (ps : List PySem.Str) (sp : Sp) (dvs : List V) : Prop :=
  ∃ fd ds, LX.FnG P w K mg base (L2.CX P w) k f fd ps sp ∧ Vals dvs ds ∧ Binds K fd ps ds
end
section
variable {X : Cx} {k : Nat} {f : Addr} {ps : List PySem.Str} {sp : Sp} {dvs : List V} {E : XK} {x : PySem.Str} {p pos : Pos} {e : Expr} {es : List Expr} {t : TA}
theorem pe_calG {n : Nat} (hgu : X.A.guards = some []) (A : At X.K X.mg x f) (F : CalG X.prog X.w X.K X.mg X.base k f ps sp dvs) (hr : Room n X.A) (hg : Gl X x) (hx : Passes (L2.CX X.prog X.w) X E) (ha : PA X (e :: es) t) (hk : k ≤ n := by decide)
    (hdb : (x == ("__debug__" : PySem.Str)) = false := by decide) (he : starEach (e :: es) X.env = (false, eval e X.env) :: starEach es X.env := by rfl) (hpl : (backTo pos (starEach es X.env)).any (·.1) = false := by rfl) :
    PE X (.Call (.Name x p) (e :: es) [] pos) (tCall sp dvs E t) := by
  obtain ⟨fd, ds, F, hd, hb⟩ := F
  exact LX.pe_callG hgu F (hr.mono hk) hg A.mg A.kp hb hd hx ha hdb he hpl
end
end Lo
end
section
set_option Elab.async false
set_option linter.all false
set_option autoImplicit false
set_option maxRecDepth 100000
set_option maxHeartbeats 1000000
/-! data of some depth -/
namespace Lo
open PySem PySem.Spec PyProof.Rows L2 Evl
def Lay (n : Nat) (d : D) : Prop := d.pure = true ∧ d.py.canLay0 = true ∧ d.py.depth ≤ n
theorem Lay.okd {n : Nat} {d : D} (h : Lay n d) (hn : n ≤ 64) : d.okd = true := by
  simp only [D.okd, SeqAt.shaped, Bool.and_eq_true, decide_eq_true_eq]
  exact ⟨h.1, h.2.1, Nat.le_trans h.2.2 hn⟩
theorem Lay.of_flat {n : Nat} {d : D} (f : d.flat = true) (h : d.okd = true) : Lay n d := by
  obtain ⟨h1, h2, h3⟩ := lay_flat f h
  exact ⟨h1, h2, by rw [h3]; exact Nat.zero_le _⟩
theorem Lay.mono {n m : Nat} {d : D} (h : Lay n d) (hn : n ≤ m) : Lay m d := ⟨h.1, h.2.1, Nat.le_trans h.2.2 hn⟩
theorem lay_rowN {n : Nat} : ∀ {xs : List D}, (∀ x ∈ xs, Lay n x) → D.pureL xs = true ∧ PyData.canLayAll0 (D.pyL xs) = true ∧ PyData.depthAll (D.pyL xs) ≤ n
  | [], _ => ⟨rfl, rfl, Nat.zero_le _⟩
  | x :: xs, h => by
    obtain ⟨h1, h2, h3⟩ := h x (by simp)
    obtain ⟨k1, k2, k3⟩ := lay_rowN (xs := xs) fun y m => h y (by simp [m])
    refine ⟨?_, ?_, ?_⟩
    · show (x.pure && D.pureL xs) = true
      rw [h1, k1]
      rfl
    · show (x.py.canLay0 && PyData.canLayAll0 (D.pyL xs)) = true
      rw [h2, k2]
      rfl
    · show max x.py.depth (PyData.depthAll (D.pyL xs)) ≤ n
      omega
theorem Lay.tup {n : Nat} {xs : List D} (h : ∀ x ∈ xs, Lay n x) : Lay (n + 1) (.tup xs) := by
  obtain ⟨k1, k2, k3⟩ := lay_rowN h
  exact ⟨k1, k2, Nat.succ_le_succ k3⟩
theorem Lay.lst {n : Nat} {xs : List D} (h : ∀ x ∈ xs, Lay n x) : Lay (n + 1) (.lst xs) := by
  obtain ⟨k1, k2, k3⟩ := lay_rowN h
  exact ⟨k1, k2, Nat.succ_le_succ k3⟩
theorem Lay.self {n : Nat} {d : D} (h : Lay n d) : d.eqv d = true := SeqAt.eqv_refl _ h.2.1
theorem Lay.int {n : Nat} (i : Int) : Lay n (.int i) := .of_flat rfl rfl
theorem Lay.str {n : Nat} {z : PySem.Str} (h : okSt z = true) : Lay n (.str z) := .of_flat rfl (okd_str h)
theorem Lay.bl {n : Nat} (k : Bool) : Lay n (.bl k) := .of_flat rfl (okd_bl k)
theorem Lay.non {n : Nat} : Lay n .non := .of_flat rfl okd_non
theorem shwL_of : ∀ {xs : List D}, (∀ x ∈ xs, x.shw = true) → D.shwL xs = true
  | [], _ => rfl
  | x :: xs, h => by
    show (x.shw && D.shwL xs) = true
    rw [h x (by simp), shwL_of fun y m => h y (by simp [m])]
    rfl
theorem rbL_of {c : Nat} : ∀ {xs : List D}, (∀ x ∈ xs, x.rb ≤ c) → D.rbL xs ≤ xs.length * (c + 2)
  | [], _ => Nat.zero_le _
  | x :: xs, h => by
    have h1 := h x (by simp)
    have h2 := rbL_of (xs := xs) fun y m => h y (by simp [m])
    show x.rb + 2 + D.rbL xs ≤ (xs.length + 1) * (c + 2)
    rw [Nat.add_mul]
    omega
end Lo
namespace Lo
open PySem PySem.Spec PyProof.Rows L2 Evl
section
variable {T : Tb} {b : Bd} {own : List OW} {ds : List (Option SV)} {P : PSv}
theorem wr_notB {x y : Bool} (p : P (.d (.bl (!decide (x = y)))) own) : WR T b rNotB own (.d (.bl x)) (.d (.bl y)) P := fun W vx vy ha rx ry Q q => by
  have ex : vx = .bl x := rx
  have ey : vy = .bl y := ry
  subst ex ey
  exact ⟨x, y, rfl, rfl, q _ (.d (.bl (!decide (x = y)))) own W ha (Le.refl W) rfl p⟩
theorem wr_isB {x y : Bool} (p : P (.d (.bl (decide (x = y)))) own) : WR T b rIsB own (.d (.bl x)) (.d (.bl y)) P := fun W vx vy ha rx ry Q q => by
  have ex : vx = .bl x := rx
  have ey : vy = .bl y := ry
  subst ex ey
  exact ⟨x, y, rfl, rfl, q _ (.d (.bl (decide (x = y)))) own W ha (Le.refl W) rfl p⟩
end
end Lo
end
section
set_option Elab.async false
set_option linter.all false
set_option autoImplicit false
set_option maxRecDepth 100000
set_option maxHeartbeats 1000000
/-! a finer bound of what repr says; insert; rows of couples in order -/
namespace Lo
open PySem PySem.Spec PyProof.Rows L2 Evl
mutual
def D.rc : D → Nat
  | .non => 4
  | .bl _ => 5
  | .int i => i.natAbs.log2 + 3
  | .str z => 10 * z.length + 2
  | .lst xs => D.rcL xs + 4
  | .tup xs => D.rcL xs + 4
  | .obj _ _ => 0
  | .dct _ _ => 0
def D.rcL : List D → Nat
  | [] => 0
  | d :: ds => d.rc + 2 + D.rcL ds
end
mutual
theorem shown_rc : ∀ {d : D}, d.shw = true → d.pure = true ∧ d.py.showable = true ∧ d.py.hasDict = false ∧ d.py.shown.length ≤ d.rc
  | .non, _ => ⟨rfl, rfl, rfl, by decide +kernel⟩
  | .bl k, _ => ⟨rfl, rfl, rfl, by cases k <;> decide +kernel⟩
  | .int i, h => ⟨rfl, h, rfl, by
    have h' : i.natAbs.log2 < 1920 := of_decide_eq_true h
    have h2 := int_text_length_le (a := i) (k := i.natAbs.log2 + 1) (Nat.succ_pos _) (Nat.lt_succ_self _)
    show (Str.ofString (toString i)).length ≤ i.natAbs.log2 + 3
    rw [PySem.ofString_length]
    omega⟩
  | .str z, h => ⟨rfl, rfl, rfl, by
    refine PySem.StrLaws.reprText_len z fun c hc => ?_
    have h' : z.cps.all (· < 0x110000) = true := h
    rw [Array.all_eq_true'] at h'
    have := h' c (by simpa using hc)
    have this : c < 0x110000 := by simpa using this
    exact Nat.lt_of_lt_of_le this (by decide)⟩
  | .lst xs, h => by
    obtain ⟨h1, h2, h3, h4⟩ := shown_rcL (ds := xs) h
    exact ⟨h1, h2, h3, Nat.le_trans (listText_le _) (Nat.add_le_add_right h4 4)⟩
  | .tup xs, h => by
    obtain ⟨h1, h2, h3, h4⟩ := shown_rcL (ds := xs) h
    exact ⟨h1, h2, h3, Nat.le_trans (tupleText_le _) (Nat.add_le_add_right h4 4)⟩
  | .obj _ _, h => nomatch h
  | .dct _ _, h => nomatch h
theorem shown_rcL : ∀ {ds : List D}, D.shwL ds = true → D.pureL ds = true ∧ PyData.showableAll (D.pyL ds) = true ∧ PyData.hasDictAll (D.pyL ds) = false ∧ ((PyData.shownAll (D.pyL ds)).map fun t => t.length + 2).sum ≤ D.rcL ds
  | [], _ => ⟨rfl, rfl, rfl, Nat.le_refl _⟩
  | d :: ds, h => by
    have h' : (d.shw && D.shwL ds) = true := h
    rw [Bool.and_eq_true] at h'
    obtain ⟨a1, a2, a3, a4⟩ := shown_rc (d := d) h'.1
    obtain ⟨b1, b2, b3, b4⟩ := shown_rcL (ds := ds) h'.2
    refine ⟨?_, ?_, ?_, ?_⟩
    · show (d.pure && D.pureL ds) = true
      rw [a1, b1]; rfl
    · show (d.py.showable && PyData.showableAll (D.pyL ds)) = true
      rw [a2, b2]; rfl
    · show (d.py.hasDict || PyData.hasDictAll (D.pyL ds)) = false
      rw [a3, b3]; rfl
    · show (((d.py.shown :: PyData.shownAll (D.pyL ds)).map fun t => t.length + 2)).sum ≤ d.rc + 2 + D.rcL ds
      rw [List.map_cons, List.sum_cons]
      omega
end
mutual
theorem rc_le_rb : ∀ {d : D}, d.shw = true → d.rc ≤ d.rb
  | .non, _ => Nat.le_refl _
  | .bl _, _ => Nat.le_refl _
  | .int i, h => by
    have h' : i.natAbs.log2 < 1920 := of_decide_eq_true h
    show i.natAbs.log2 + 3 ≤ 1922
    omega
  | .str _, _ => Nat.le_refl _
  | .lst xs, h => Nat.add_le_add_right (rc_le_rbL (ds := xs) h) 4
  | .tup xs, h => Nat.add_le_add_right (rc_le_rbL (ds := xs) h) 4
  | .obj _ _, h => nomatch h
  | .dct _ _, h => nomatch h
theorem rc_le_rbL : ∀ {ds : List D}, D.shwL ds = true → D.rcL ds ≤ D.rbL ds
  | [], _ => Nat.le_refl _
  | d :: ds, h => by
    have h' : (d.shw && D.shwL ds) = true := h
    rw [Bool.and_eq_true] at h'
    have a := rc_le_rb (d := d) h'.1
    have b := rc_le_rbL (ds := ds) h'.2
    show d.rc + 2 + D.rcL ds ≤ d.rb + 2 + D.rbL ds
    omega
end
theorem rp_of_rc {d : D} (h : d.shw = true) (hd : d.py.depth ≤ 60) (hb : d.rc ≤ 100000) : d.rp = true := by
  obtain ⟨h1, h2, h3, h4⟩ := shown_rc h
  unfold D.rp
  rw [h1, h2, h3, decide_eq_true hd, decide_eq_true (Nat.le_trans h4 hb)]
  rfl
theorem rcL_of {c : Nat} : ∀ {xs : List D}, (∀ x ∈ xs, x.rc ≤ c) → D.rcL xs ≤ xs.length * (c + 2)
  | [], _ => Nat.zero_le _
  | x :: xs, h => by
    have h1 := h x (by simp)
    have h2 := rcL_of (xs := xs) fun y m => h y (by simp [m])
    show x.rc + 2 + D.rcL xs ≤ (xs.length + 1) * (c + 2)
    rw [Nat.add_mul]
    omega
theorem rc_int {i : Int} {n : Nat} (h : i.natAbs < 2 ^ n) : (D.int i).rc ≤ n + 3 := by
  have := log2_le h
  show i.natAbs.log2 + 3 ≤ n + 3
  omega
section
variable {T : Tb} {b : Bd} {own : List OW} {ds : List (Option SV)} {P : PSv}
theorem RpSL.tkN {W : Wd} : ∀ (n : Nat) {ss : List SV} {vs : List V}, RpSL T W ss vs → RpSL T W (ss.take n) (vs.take n)
  | 0, _, _, _ => rfl
  | n + 1, [], vs, r => by
    have r' : vs = [] := r
    subst r'
    exact rfl
  | n + 1, x :: ss, _, ⟨w, r, rfl, h1, h2⟩ => ⟨w, _, rfl, h1, RpSL.tkN n h2⟩
theorem RpSL.dpN {W : Wd} : ∀ (n : Nat) {ss : List SV} {vs : List V}, RpSL T W ss vs → RpSL T W (ss.drop n) (vs.drop n)
  | 0, _, _, h => h
  | n + 1, [], vs, r => by
    have r' : vs = [] := r
    subst r'
    exact rfl
  | n + 1, x :: ss, _, ⟨w, r, rfl, h1, h2⟩ => RpSL.dpN n h2
def rInsert : V → List V → Hp → VK → Prop := fun x vs H Q => ∃ (l : Addr) (xs : List V) (i : Int) (y : V), x = .ref l ∧ vs = [.int i, y] ∧ H l = some (.lst xs) ∧ xs.length < sizeLine ∧ 0 ≤ i ∧ i < 2 ^ 63 ∧
    Q .non (upd H l (.lst (xs.take i.toNat ++ [y] ++ xs.drop i.toNat)))
theorem wm_insert {k : Nat} {ss : List SV} {i : Int} {x : SV} (ho : own[k]? = some (.lst ss)) (hl : ss.length < 100000) (h0 : 0 ≤ i) (h1 : i < 2 ^ 62) (p : P (.d .non) (own.set k (.lst (ss.take i.toNat ++ [x] ++ ss.drop i.toNat)))) : WM T b rInsert own k [.d (.int i), x] P := fun W a vs ha ea ⟨v, r, ev, rx, w, r2, ew, ry, er⟩ Q q => by
  subst ev
  subst ew
  have er' : r2 = [] := er
  subst er'
  cases RpS.int rx
  obtain ⟨a', ea', _, _, _, ws, eh, rr⟩ := ha.ow.get ho
  have z : a' = a := Option.some.inj (ea'.symm.trans ea)
  subst z
  obtain ⟨ha2, l2⟩ := ha.setOwn ho ea (RpSL.app (RpSL.app (RpSL.tkN i.toNat rr) (ss := ss.take i.toNat) (tt := [x]) (ws := [w]) ⟨w, [], rfl, ry, rfl⟩) (RpSL.dpN i.toNat rr))
  exact ⟨a', ws, i, w, rfl, rfl, eh, sz_lt (by rw [rr.len]; exact hl), h0, by omega, q _ (.d .non) _ _ ha2 l2 rfl p⟩
end
theorem lexlt_irr {p : Int × Int} : ¬ lexlt p p := fun h => by
  rcases h with h | ⟨_, h⟩ <;> omega
theorem lexlt_tr {p q r : Int × Int} (h : lexlt p q) (k : lexlt q r) : lexlt p r := by
  unfold lexlt at *
  omega
theorem lex_same : ∀ {xs ys : List (Int × Int)}, xs.Pairwise lexlt → ys.Pairwise lexlt → (∀ p, p ∈ xs ↔ p ∈ ys) → xs = ys
  | [], [], _, _, _ => rfl
  | [], y :: ys, _, _, h => nomatch (h y).mpr (List.mem_cons_self ..)
  | x :: xs, [], _, _, h => nomatch (h x).mp (List.mem_cons_self ..)
  | x :: xs, y :: ys, hx, hy, h => by
    rw [List.pairwise_cons] at hx hy
    have e : x = y := by
      rcases List.mem_cons.mp ((h x).mp (List.mem_cons_self ..)) with e | m
      · exact e
      · rcases List.mem_cons.mp ((h y).mpr (List.mem_cons_self ..)) with e | m2
        · exact e.symm
        · exact absurd (lexlt_tr (hy.1 x m) (hx.1 y m2)) lexlt_irr
    subst e
    have hh : ∀ p, p ∈ xs ↔ p ∈ ys := fun p => by
      constructor
      · intro m
        rcases List.mem_cons.mp ((h p).mp (List.mem_cons_of_mem _ m)) with e | k
        · subst e
          exact absurd (hx.1 _ m) lexlt_irr
        · exact k
      · intro m
        rcases List.mem_cons.mp ((h p).mpr (List.mem_cons_of_mem _ m)) with e | k
        · subst e
          exact absurd (hy.1 _ m) lexlt_irr
        · exact k
    rw [lex_same hx.2 hy.2 hh]
end Lo
end
section
set_option Elab.async false
set_option linter.all false
set_option autoImplicit false
set_option maxRecDepth 100000
set_option maxHeartbeats 1000000
/-! calls whose errors go on; calls that change own objects that they are handed -/
namespace Lo
open PySem PySem.Spec PyProof.Rows L2 Evl
section
variable {T : Tb} {b : Bd} {own : List OW} {ds : List (Option SV)} {P : PSv}
variable {ι : Type} {args : ι → List D} {pre : ι → Prop} {post : ι → D → Prop} {perr : ι → Er → Prop}
/-- a call that may raise; what it lets out goes on -/
theorem we_calX {E : XK} {X : Er → Prop} {ta : TA} (hx : XOk T b E X) (h : WA T b ta own ds fun ss o => ∃ xs, AllD ss xs ∧ ∃ i, xs = args i ∧ pre i ∧ (∀ e, perr i e → X e) ∧ ∀ d, post i d → P (.d d) o) : WE T b (tCall (SpP T (Fv args pre post perr)) [] E ta) own ds P :=
  we_call (dd := []) hx (fun _ => rfl) (fun W σ ha sl Q q => h W σ ha sl Q fun vs ss o W' h' l r ⟨xs, e, i, e2, p, hxx, hp⟩ => q vs ss o W' h' l r ⟨xs, e, i, by rw [List.append_nil]; exact e2, p, hp, hxx⟩) Fv.mon
theorem we_makX {c : Nat} {C : Addr} {E : XK} {X : Er → Prop} {ta : TA} (hC : T.cls c = C) (hx : XOk T b E X) (h : WA T b ta own ds fun ss o => ∃ xs, AllD ss xs ∧ ∃ i, xs = args i ∧ pre i ∧ (∀ e, perr i e → X e) ∧ ∀ d, post i d → (∃ fs, d = .obj c fs) ∧ P (.d d) o) : WE T b (tMake C (SpI T c (Fv args pre post perr)) [] E ta) own ds P :=
  we_make (dd := []) hC hx (fun _ => rfl) (fun W σ ha sl Q q => h W σ ha sl Q fun vs ss o W' h' l r ⟨xs, e, i, e2, p, hxx, hp⟩ => q vs ss o W' h' l r ⟨xs, e, i, by rw [List.append_nil]; exact e2, p, hp, hxx⟩) Fv.mon
end
/-! ### own objects handed on -/
abbrev b0 : Bd := ⟨fun _ => none, fun _ => False⟩
abbrev FO := List SV → List OW → (D → List OW → Prop) → Prop
def PostO (T : Tb) (as : List Addr) (G0 H : Hp) (Q : VK) : D → List OW → Prop := fun d own => ∀ v G' H', Ex G0 G' → Ex G' H' → (∀ x o, x ∉ as → H x = some o → H' x = some o) → (∀ x, x ∉ as → H x ≠ none → G0 x = none → G' x = none) → OwL T b0 ⟨G', H', as⟩ as own → Rep T G' d v → Q v H'
def SpO (T : Tb) (F : FO) : Sp := fun vs H Q E => ∃ (as : List Addr) (G0 : Hp) (own : List OW) (ss : List SV), as.Nodup ∧ Ex G0 H ∧ OwL T b0 ⟨G0, H, as⟩ as own ∧ RpSL T ⟨G0, H, as⟩ ss vs ∧ F ss own (PostO T as G0 H Q)
def FvO {ι : Type} (args : ι → List SV) (own0 : ι → List OW) (pre : ι → Prop) (post : ι → D → List OW → Prop) : FO := fun ss own R => ∃ i, ss = args i ∧ own = own0 i ∧ pre i ∧ ∀ d o, post i d o → R d o
abbrev PvO (n : Nat) (post : D → List OW → Prop) : Po := ⟨fun o _ => ∃ o1 o2, o = o1 ++ o2 ∧ o1.length = n ∧ OwP n o1 ∧ post .non o1, fun s o => ∃ d o1 o2, s = .d d ∧ o = o1 ++ o2 ∧ o1.length = n ∧ OwP n o1 ∧ post d o1, fun _ _ => False, fun _ _ => False⟩
section
variable {T : Tb}
theorem Ow.bd {b c : Bd} {W : Wd} {a : Addr} {o : OW} (h : Ow T b W a o) (h1 : c.B a = none) (h2 : ¬ c.N a) : Ow T c W a o := by
  cases o with
  | lst xs => exact ⟨h.1, h1, h2, h.2.2.2⟩
  | hand => exact ⟨h.1, h1, h2, h.2.2.2⟩
  | gone => exact h
  | ins k fs => exact ⟨h.1, h1, h2, h.2.2.2⟩
  | dct kvs => exact ⟨h.1, h1, h2, h.2.2.2⟩
  | ho f => exact ⟨h.1, h1, h2, h.2.2.2⟩
theorem OwL.bd {b c : Bd} {W : Wd} : ∀ {as : List Addr} {os : List OW}, (∀ a ∈ as, c.B a = none ∧ ¬ c.N a) → OwL T b W as os → OwL T c W as os
  | [], _, _, h => h
  | x :: as, _, k, ⟨o, r, e, h1, h2⟩ => ⟨o, r, e, h1.bd (k x (by simp)).1 (k x (by simp)).2, OwL.bd (fun a m => k a (by simp [m])) h2⟩
theorem runO {F : FO} {ι : Type} {args : ι → List SV} {own0 : ι → List OW} {pre : ι → Prop} {post : ι → D → List OW → Prop} {N : List PySem.Str} {E : XK} {t : TS} {vs : List V} {H : Hp} {Q : VK} (h : SpO T (FvO args own0 pre post) vs H Q E)
    (hb : ∀ b i, pre i → WS T b t (own0 i) (slots N (args i)) (PvO (own0 i).length (post i))) : t { nx := fun _ H' => Q .non H', rt := Q } (L2.start N vs) H := by
  obtain ⟨as, G0, own, ss, nd, g, ow, r, i, rfl, rfl, p, hr⟩ := h
  let b : Bd := ⟨fun y => if y ∈ as then none else H y, fun y => y ∉ as ∧ H y ≠ none ∧ G0 y = none⟩
  have bh : Ex b.B H := fun y o q => by
    have q' : (if y ∈ as then none else H y) = some o := q
    by_cases z : y ∈ as
    · rw [if_pos z] at q'
      cases q'
    · rw [if_neg z] at q'
      exact q'
  have ha : HA T b ⟨G0, H, as⟩ (own0 i) := ⟨g, bh, fun y n => ⟨n.2.2, n.2.1⟩, nd, OwL.bd (fun a m => ⟨if_pos m, fun z => z.1 m⟩) ow⟩
  have hlen := ow.len
  have fin : ∀ (W' : Wd) (d : D) (v : V) (o1 o2 : List OW), HA T b W' (o1 ++ o2) → Le ⟨G0, H, as⟩ W' → Rep T W'.G d v → o1.length = (own0 i).length → OwP (own0 i).length o1 → post i d o1 → Q v W'.H := fun W' d v o1 o2 h' l rv e1 pp po => by
    have et : W'.as.take (own0 i).length = as := by
      obtain ⟨t, e⟩ := l.a
      have e' : as ++ t = W'.as := e
      rw [← e', ← hlen]
      simp
    have h1 := OwL.take (own0 i).length h'.ow
    have e2 : (o1 ++ o2).take (own0 i).length = o1 := by
      rw [← e1]
      simp
    rw [e2] at h1
    have h2 := OwL.takeP pp h1
    rw [et] at h2
    refine hr d o1 po v W'.G W'.H l.g h'.gh (fun x o nx q => h'.bh x o (by show (if x ∈ as then none else H x) = some o; rw [if_neg nx]; exact q)) (fun x nx n1 n2 => (h'.nn x ⟨nx, n1, n2⟩).1) (OwL.bd (fun _ _ => ⟨rfl, fun z => z⟩) h2) rv
  refine hb b i p ⟨G0, H, as⟩ _ ha (rpSL_slots r) _ ⟨fun σ' o s W' h' l sl' ⟨o1, o2, e, e1, pp, po⟩ => ?_, fun v s o W' h' l rr ⟨d, o1, o2, es, e, e1, pp, po⟩ => ?_, fun _ _ _ _ _ _ _ z => z.elim, fun _ _ _ _ _ _ _ z => z.elim⟩
  · subst e
    exact fin W' .non .non o1 o2 h' l rfl e1 pp po
  · subst e es
    exact fin W' d v o1 o2 h' l rr e1 pp po
theorem spO_len {ι : Type} {args : ι → List SV} {own0 : ι → List OW} {pre : ι → Prop} {post : ι → D → List OW → Prop} {n : Nat} (hn : ∀ i, (args i).length = n) {vs : List V} {H : Hp} {Q : VK} {E : XK} (h : SpO T (FvO args own0 pre post) vs H Q E) : vs.length = n := by
  obtain ⟨as, G0, own, ss, nd, g, ow, r, i, e, _⟩ := h
  rw [RpSL.len r, e, hn]
end
section
variable {P : Program} {w : World} {K : PySem.W.Frag} {mg : PySem.Str → Option Value} {base : Heap} {x qual : PySem.Str} {st : Stmt} {dvs : List V} {f : Addr} {fd : FuncData} {N ps : List PySem.Str} {k : Nat} {T : Tb}
variable {ι : Type} {args : ι → List SV} {own0 : ι → List OW} {pre : ι → Prop} {post : ι → D → List OW → Prop}
theorem okO (ss : ι → List (Option SV)) (F : DefAt K x qual st dvs f fd) (S : FnScope N ps (defScope st)) (hn : ∀ i, (args i).length = ps.length)
    (hb : ∀ (cdv : Value) (A : Around) (outer : List Env) (s : Shared) (H : Hp) (E : XK), Room k (A.deeper (envOfC qual (defScope st) s.heap.objs.size f cdv)) →
      ∃ t, PSs (CxB P w K mg base N qual st f cdv A outer s H E) (defBody st) t ∧ ∀ b i, pre i → WS T b t (own0 i) (ss i) (PvO (own0 i).length (post i))) (hs : ∀ i, slots N (args i) = ss i := by intro _; rfl) : FnOk P w K mg base (L2.CX P w) (k + 1) f fd ps (SpO T (FvO args own0 pre post)) :=
  F.ok S (fun vs H Q E h => spO_len hn h) fun cdv A outer s H vs Q E hr h => by
    obtain ⟨t, ht, hw⟩ := hb cdv A outer s H E hr
    exact ⟨t, ht, runO (F := FvO args own0 pre post) h fun b i p => hs i ▸ hw b i p⟩
end
/-! the caller: which of its own objects are handed, and how they are named then -/
def renS (ks : List Nat) : SV → SV
  | .p j => .p (ks.getD j 0)
  | s => s
def renO (ks : List Nat) : OW → OW
  | .lst xs => .lst (xs.map (renS ks))
  | .ins c fs => .ins c (fs.map fun f => (f.1, renS ks f.2))
  | .dct kvs => .dct (kvs.map fun f => (f.1, renS ks f.2))
  | o => o
def inS (n : Nat) : SV → Prop
  | .p j => j < n
  | _ => True
def inO (n : Nat) : OW → Prop
  | .lst xs => ∀ x ∈ xs, inS n x
  | .ins _ fs => ∀ x ∈ fs.map (·.2), inS n x
  | .dct kvs => ∀ x ∈ kvs.map (·.2), inS n x
  | _ => True
section
variable {T : Tb} {G H : Hp} {as cs : List Addr} {ks : List Nat}
/-- cs: the handed addresses; the j-th of them is the ks[j]-th own one -/
structure Hd (as cs : List Addr) (ks : List Nat) : Prop where
  at_ : ∀ j, j < cs.length → ∃ a, cs[j]? = some a ∧ as[ks.getD j 0]? = some a
theorem ren_S (h : Hd as cs ks) {s : SV} {v : V} (hi : inS cs.length s) : RpS T ⟨G, H, as⟩ (renS ks s) v ↔ RpS T ⟨G, H, cs⟩ s v := by
  cases s with
  | p j =>
    obtain ⟨a, e1, e2⟩ := h.at_ j hi
    constructor
    · rintro ⟨a', e3, e4⟩
      cases e2.symm.trans e3
      exact ⟨a, e1, e4⟩
    · rintro ⟨a', e3, e4⟩
      cases e1.symm.trans e3
      exact ⟨a, e2, e4⟩
  | d x => exact Iff.rfl
  | x a dx fs => exact Iff.rfl
  | scr ns => exact Iff.rfl
  | x0 a => exact Iff.rfl
theorem ren_SL (h : Hd as cs ks) : ∀ {ss : List SV} {vs : List V}, (∀ x ∈ ss, inS cs.length x) → (RpSL T ⟨G, H, as⟩ (ss.map (renS ks)) vs ↔ RpSL T ⟨G, H, cs⟩ ss vs)
  | [], vs, _ => Iff.rfl
  | s :: ss, vs, hi => by
    constructor
    · rintro ⟨v, r, e, h1, h2⟩
      exact ⟨v, r, e, (ren_S h (hi s (by simp))).mp h1, (ren_SL h fun x m => hi x (by simp [m])).mp h2⟩
    · rintro ⟨v, r, e, h1, h2⟩
      exact ⟨v, r, e, (ren_S h (hi s (by simp))).mpr h1, (ren_SL h fun x m => hi x (by simp [m])).mpr h2⟩
theorem ren_O (h : Hd as cs ks) {b : Bd} {a : Addr} {o : OW} (hi : inO cs.length o) : Ow T b ⟨G, H, as⟩ a (renO ks o) ↔ Ow T b ⟨G, H, cs⟩ a o := by
  cases o with
  | lst xs =>
    refine and_congr_right fun _ => and_congr_right fun _ => and_congr_right fun _ => exists_congr fun vs => and_congr_right fun _ => ren_SL h hi
  | hand => exact Iff.rfl
  | gone => exact Iff.rfl
  | ins c fs =>
    refine and_congr_right fun _ => and_congr_right fun _ => and_congr_right fun _ => exists_congr fun dx => exists_congr fun gs => and_congr_right fun _ => ?_
    have e1 : (fs.map fun f => (f.1, renS ks f.2)).map (·.1) = fs.map (·.1) := by rw [List.map_map]; rfl
    have e2 : (fs.map fun f => (f.1, renS ks f.2)).map (·.2) = (fs.map (·.2)).map (renS ks) := by rw [List.map_map, List.map_map]; rfl
    rw [e1, e2]
    exact and_congr_right fun _ => ren_SL h hi
  | dct fs =>
    refine and_congr_right fun _ => and_congr_right fun _ => and_congr_right fun _ => exists_congr fun gs => and_congr_right fun _ => ?_
    have e1 : (fs.map fun f => (f.1, renS ks f.2)).map (·.1) = fs.map (·.1) := by rw [List.map_map]; rfl
    have e2 : (fs.map fun f => (f.1, renS ks f.2)).map (·.2) = (fs.map (·.2)).map (renS ks) := by rw [List.map_map, List.map_map]; rfl
    rw [e1, e2]
    exact and_congr_right fun _ => ren_SL h hi
  | ho f => exact Iff.rfl
end
def putAll (o : List OW) : List Nat → List OW → List OW
  | [], _ => o
  | _ :: _, [] => o
  | k :: ks, x :: xs => putAll (o.set k x) ks xs
theorem putAll_len : ∀ {o : List OW} {ks : List Nat} {xs : List OW}, (putAll o ks xs).length = o.length
  | o, [], _ => by simp [putAll]
  | o, k :: ks, [] => rfl
  | o, k :: ks, x :: xs => by
    show (putAll (o.set k x) ks xs).length = _
    rw [putAll_len, List.length_set]
theorem putAll_ne {k : Nat} : ∀ {o : List OW} {ks : List Nat} {xs : List OW}, k ∉ ks → (putAll o ks xs)[k]? = o[k]?
  | o, [], _, _ => by simp [putAll]
  | o, k' :: ks, [], _ => rfl
  | o, k' :: ks, x :: xs, h => by
    show (putAll (o.set k' x) ks xs)[k]? = _
    rw [putAll_ne (fun m => h (List.mem_cons_of_mem _ m)), List.getElem?_set_ne (fun e => h (by rw [e]; exact List.mem_cons_self ..))]
theorem putAll_at {k : Nat} {x : OW} : ∀ {o : List OW} {ks : List Nat} {xs : List OW} {j : Nat}, ks.Nodup → ks[j]? = some k → xs[j]? = some x → k < o.length → (putAll o ks xs)[k]? = some x
  | o, [], _, j, _, e, _, _ => by simp at e
  | o, k' :: ks, [], j, _, _, e, _ => by simp at e
  | o, k' :: ks, y :: xs, 0, nd, e1, e2, h => by
    have e1' : k' = k := by simpa using e1
    have e2' : y = x := by simpa using e2
    subst e1' e2'
    show (putAll (o.set k' y) ks xs)[k']? = _
    rw [putAll_ne (List.nodup_cons.mp nd).1, List.getElem?_set_self h]
  | o, k' :: ks, y :: xs, j + 1, nd, e1, e2, h => by
    show (putAll (o.set k' y) ks xs)[k]? = _
    exact putAll_at (List.nodup_cons.mp nd).2 (by simpa using e1) (by simpa using e2) (by rw [List.length_set]; exact h)
theorem OwL.of {T : Tb} {b : Bd} {W : Wd} : ∀ {as : List Addr} {os : List OW}, as.length = os.length → (∀ (k : Nat) (a : Addr) (o : OW), as[k]? = some a → os[k]? = some o → Ow T b W a o) → OwL T b W as os
  | [], [], _, _ => rfl
  | [], _ :: _, e, _ => by simp at e
  | _ :: _, [], e, _ => by simp at e
  | a :: as, o :: os, e, h => ⟨o, os, rfl, h 0 a o rfl rfl, OwL.of (by simpa using e) fun k a o h1 h2 => h (k + 1) a o (by simpa using h1) (by simpa using h2)⟩
theorem OwL.at {T : Tb} {b : Bd} {W : Wd} {as : List Addr} {os : List OW} (h : OwL T b W as os) {k : Nat} {a : Addr} {o : OW} (h1 : as[k]? = some a) (h2 : os[k]? = some o) : Ow T b W a o := by
  obtain ⟨a', e, ho⟩ := h.get h2
  cases h1.symm.trans e
  exact ho
theorem Ow.out {T : Tb} {b : Bd} {W : Wd} {a : Addr} {o : OW} (h : Ow T b W a o) (hg : o ≠ .gone) : b.B a = none ∧ ¬ b.N a := by
  cases o with
  | gone => exact absurd rfl hg
  | lst xs => exact ⟨h.2.1, h.2.2.1⟩
  | hand => exact ⟨h.2.1, h.2.2.1⟩
  | ins k fs => exact ⟨h.2.1, h.2.2.1⟩
  | dct kvs => exact ⟨h.2.1, h.2.2.1⟩
  | ho f => exact ⟨h.2.1, h.2.2.1⟩
section
variable {T : Tb} {b : Bd} {own : List OW} {ds : List (Option SV)} {P : PSv}
variable {ι : Type} {args : ι → List SV} {own0 : ι → List OW} {pre : ι → Prop} {post : ι → D → List OW → Prop}
theorem we_callO {E : XK} {ta : TA} (ks : List Nat) (hks : ks.Nodup)
    (h : WA T b ta own ds fun ss o => ∃ i, ss = (args i).map (renS ks) ∧ pre i ∧ (∀ x ∈ args i, inS ks.length x) ∧ (own0 i).length = ks.length ∧ (∀ (j : Nat) (x : OW), (own0 i)[j]? = some x → x ≠ .gone ∧ inO ks.length x ∧ ∃ k : Nat, ks[j]? = some k ∧ o[k]? = some (renO ks x)) ∧
      ∀ d ow', post i d ow' → ow'.length = ks.length ∧ (∀ x ∈ ow', inO ks.length x) ∧ P (.d d) (putAll o ks (ow'.map (renO ks)))) :
    WE T b (tCall (SpO T (FvO args own0 pre post)) [] E ta) own ds P := fun W σ ha sl Q q => by
  refine h W σ ha sl _ fun vs ss o1 W1 ha1 l1 r1 ⟨i, es, p, hin, hl, ho, hp⟩ => ?_
  subst es
  have al := ha1.ow.len
  have get : ∀ j : Nat, j < ks.length → ∃ (k : Nat) (a : Addr), ks[j]? = some k ∧ ks.getD j 0 = k ∧ W1.as[k]? = some a ∧ k < o1.length ∧ ∃ x, (own0 i)[j]? = some x ∧ x ≠ .gone ∧ inO ks.length x ∧ o1[k]? = some (renO ks x) := fun j hj => by
    obtain ⟨x, hx⟩ : ∃ x, (own0 i)[j]? = some x := ⟨_, List.getElem?_eq_getElem (by omega)⟩
    obtain ⟨ng, hi, k, hk, hok⟩ := ho j x hx
    have hlt : k < o1.length := (List.getElem?_eq_some_iff.mp hok).1
    exact ⟨k, W1.as[k], hk, by simp [List.getD_eq_getElem?_getD, hk], List.getElem?_eq_getElem (by omega), hlt, x, hx, ng, hi, hok⟩
  let cs : List Addr := ks.map fun k => W1.as.getD k 0
  have cl : cs.length = ks.length := List.length_map ..
  have cat : ∀ (j k : Nat) (a : Addr), ks[j]? = some k → W1.as[k]? = some a → cs[j]? = some a := fun j k a h1 h2 => by
    show (ks.map fun k => W1.as.getD k 0)[j]? = some a
    rw [List.getElem?_map, h1]
    simp [List.getD_eq_getElem?_getD, h2]
  have hd : Hd W1.as cs ks := ⟨fun j hj => by
    obtain ⟨k, a, h1, h2, h3, _⟩ := get j (by omega)
    exact ⟨a, cat j k a h1 h3, by rw [h2]; exact h3⟩⟩
  have cmem : ∀ a : Addr, a ∈ cs → ∃ j k : Nat, ks[j]? = some k ∧ cs[j]? = some a ∧ W1.as[k]? = some a ∧ b.B a = none ∧ ¬ b.N a := fun a m => by
    obtain ⟨j, hj⟩ := List.mem_iff_getElem?.mp m
    have hjl : j < cs.length := (List.getElem?_eq_some_iff.mp hj).1
    obtain ⟨k, a', h1, h2, h3, h4, x, hx, ng, hi, hok⟩ := get j (by omega)
    cases (cat j k a' h1 h3).symm.trans hj
    have hw := ha1.ow.at h3 hok
    have hout := hw.out (by
      intro z
      cases x <;> first | exact ng rfl | cases z)
    exact ⟨j, k, h1, hj, h3, hout.1, hout.2⟩
  have cnd : cs.Nodup := by
    refine List.pairwise_map.mpr (hks.imp_of_mem fun {k1 k2} m1 m2 ne e => ne ?_)
    obtain ⟨j1, e1⟩ := List.mem_iff_getElem?.mp m1
    obtain ⟨j2, e2⟩ := List.mem_iff_getElem?.mp m2
    obtain ⟨k1', a1, q1, _, q3, _⟩ := get j1 (List.getElem?_eq_some_iff.mp e1).1
    obtain ⟨k2', a2, r1, _, r3, _⟩ := get j2 (List.getElem?_eq_some_iff.mp e2).1
    cases e1.symm.trans q1
    cases e2.symm.trans r1
    have ea : a1 = a2 := by simpa [List.getD_eq_getElem?_getD, q3, r3] using e
    subst ea
    have l1 : k1 < W1.as.length := (List.getElem?_eq_some_iff.mp q3).1
    have l2 : k2 < W1.as.length := (List.getElem?_eq_some_iff.mp r3).1
    exact (List.getElem_inj (h₀ := l1) (h₁ := l2) ha1.nd).mp (((List.getElem?_eq_some_iff.mp q3).2).trans ((List.getElem?_eq_some_iff.mp r3).2).symm)
  refine ⟨cs, W1.G, own0 i, args i, cnd, ha1.gh, OwL.of (by omega) fun j a x h1 h2 => ?_, (by rw [List.append_nil]; exact (ren_SL (H := W1.H) hd (fun x m => by rw [cl]; exact hin x m)).mp r1), i, rfl, rfl, p, fun d ow' po => ?_⟩
  · have hjl : j < cs.length := (List.getElem?_eq_some_iff.mp h1).1
    obtain ⟨k, a', q1, q2, q3, q4, x', hx, ng, hi, hok⟩ := get j (by omega)
    cases hx.symm.trans h2
    cases (cat j k a' q1 q3).symm.trans h1
    exact ((ren_O (H := W1.H) hd (by rw [cl]; exact hi)).mp (ha1.ow.at q3 hok)).bd rfl fun z => z
  · obtain ⟨n1, n2, n3⟩ := hp d ow' po
    intro v G' H' g1 g2 g3 g4 g5 rv
    have l2 : Le W1 ⟨G', H', W1.as⟩ := ⟨g1, List.prefix_refl _⟩
    have same : ∀ a, a ∉ cs → ∀ o, W1.H a = some o → H' a = some o := fun a na o e => g3 a o na e
    have ha2 : HA T b ⟨G', H', W1.as⟩ (putAll o1 ks (ow'.map (renO ks))) := by
      refine ⟨g2, fun x o e => ?_, fun x n => ?_, ha1.nd, OwL.of (by rw [putAll_len]; exact al) fun k a x h1 h2 => ?_⟩
      · have nx : x ∉ cs := fun m => by
          obtain ⟨_, _, _, _, _, e2, _⟩ := cmem x m
          rw [e] at e2
          cases e2
        exact g3 x o nx (ha1.bh x o e)
      · have nx : x ∉ cs := fun m => by
          obtain ⟨_, _, _, _, _, _, e2⟩ := cmem x m
          exact e2 n
        obtain ⟨n1, n2⟩ := ha1.nn x n
        refine ⟨g4 x nx n2 n1, ?_⟩
        cases e : W1.H x with
        | none => exact absurd e n2
        | some o =>
          intro z
          have z' : H' x = none := z
          rw [g3 x o nx e] at z'
          cases z'
      · have hkl : k < o1.length := by rw [← putAll_len (o := o1) (ks := ks) (xs := ow'.map (renO ks))]; exact (List.getElem?_eq_some_iff.mp h2).1
        by_cases m : k ∈ ks
        · obtain ⟨j, hj⟩ := List.mem_iff_getElem?.mp m
          have hjl : j < ks.length := (List.getElem?_eq_some_iff.mp hj).1
          obtain ⟨y, hy⟩ : ∃ y, ow'[j]? = some y := ⟨_, List.getElem?_eq_getElem (by omega)⟩
          have hm : (ow'.map (renO ks))[j]? = some (renO ks y) := by rw [List.getElem?_map, hy]; rfl
          rw [putAll_at hks hj hm hkl] at h2
          cases h2
          have hc := cat j k a hj h1
          obtain ⟨_, _, _, _, _, hB, hN⟩ := cmem a (List.mem_of_getElem? hc)
          exact (ren_O (H := H') hd (by rw [cl]; exact n2 y (List.mem_of_getElem? hy))).mpr ((g5.at hc hy).bd hB hN)
        · rw [putAll_ne m] at h2
          have hw := ha1.ow.at h1 h2
          have na : a ∉ cs := fun mc => by
            obtain ⟨j, k', e1, e2, e3, _⟩ := cmem a mc
            have l1 : k < W1.as.length := (List.getElem?_eq_some_iff.mp h1).1
            have l2 : k' < W1.as.length := (List.getElem?_eq_some_iff.mp e3).1
            have : k = k' := (List.getElem_inj (h₀ := l1) (h₁ := l2) ha1.nd).mp (((List.getElem?_eq_some_iff.mp h1).2).trans ((List.getElem?_eq_some_iff.mp e3).2).symm)
            exact m (this ▸ List.mem_of_getElem? e1)
          have th := hw.there
          refine Ow.step l2 ?_ (fun gn => g4 a na th gn) hw
          cases e : W1.H a with
          | none => exact absurd e th
          | some o => exact g3 a o na e
    exact q v (.d d) _ ⟨G', H', W1.as⟩ ha2 (l1.trans l2) rv n3
end
end Lo
end
section
set_option Elab.async false
set_option linter.all false
set_option maxRecDepth 100000
set_option maxHeartbeats 1000000
namespace Lo
open PySem PySem.Spec PyProof.Rows L2 Evl
section
variable {T : Tb} {b : Bd} {own : List OW} {ds : List (Option SV)}
theorem wg_seq3 {K : PySem.W.Frag} (hK : T.K = K) {j k m : Nat} {u x y z : D} (hu : u = .tup [x, y, z] ∨ u = .lst [x, y, z]) {P : List OW → List (Option SV) → Prop} (p : P own (((ds.set j (some (.d x))).set k (some (.d y))).set m (some (.d z)))) : WG T b (LX.gSeq K 3 (gCons (gName j) (gCons (gName k) (gCons (gName m) gNil)))) [j, k, m] u own ds P := fun W σ v ha sl r Q q => by
  subst hK
  have fin : ∀ a v1 v2 v3, Rep T W.G x v1 → Rep T W.G y v2 → Rep T W.G z v3 → (SqT T.K W.H a [v1, v2, v3] ∨ SqL T.K W.H a [v1, v2, v3]) → LX.gSeq T.K 3 (gCons (gName j) (gCons (gName k) (gCons (gName m) gNil))) (.ref a) σ W.H Q := fun a v1 v2 v3 h1 h2 h3 hs => by
    refine ⟨a, _, rfl, hs, rfl, v1, [v2, v3], rfl, v2, [v3], rfl, v3, [], rfl, rfl, ?_⟩
    refine q _ own _ W ha (Le.refl W) (SlL.set (fun sv e => by cases e; exact h3) m (SlL.set (fun sv e => by cases e; exact h2) k (SlL.set (fun sv e => by cases e; exact h1) j sl))) (by simp) (fun i hi => ?_) p
    have n1 : j ≠ i := fun z => hi (by simp [z])
    have n2 : k ≠ i := fun z => hi (by simp [z])
    have n3 : m ≠ i := fun z => hi (by simp [z])
    rw [List.getElem?_set_ne n3, List.getElem?_set_ne n2, List.getElem?_set_ne n1]
  rcases hu with rfl | rfl
  · obtain ⟨a, vs, rfl, hs, v1, r1, rfl, h1, v2, r2, rfl, h2, v3, r3, rfl, h3, rfl⟩ := r
    exact fin a v1 v2 v3 h1 h2 h3 (.inl (ex_t ha.gh hs))
  · obtain ⟨a, vs, rfl, hs, v1, r1, rfl, h1, v2, r2, rfl, h2, v3, r3, rfl, h3, rfl⟩ := r
    exact fin a v1 v2 v3 h1 h2 h3 (.inr (sq_of (ha.gh _ _ hs)))
end
end Lo
end
section
set_option Elab.async false
set_option linter.all false
set_option autoImplicit false
set_option maxRecDepth 100000
set_option maxHeartbeats 1000000
/-! == of data with no truths in it is = -/
namespace Lo
open PySem PySem.Spec PyProof.Rows L2 Evl
mutual
def D.isp : D → Bool
  | .non => true
  | .int _ => true
  | .str _ => true
  | .lst xs => D.ispL xs
  | .tup xs => D.ispL xs
  | _ => false
def D.ispL : List D → Bool
  | [] => true
  | x :: xs => x.isp && D.ispL xs
end
theorem ispL_of : ∀ {xs : List D}, (∀ x ∈ xs, x.isp = true) → D.ispL xs = true
  | [], _ => rfl
  | x :: xs, h => by
    show (x.isp && D.ispL xs) = true
    rw [h x (by simp), ispL_of fun y m => h y (by simp [m])]
    rfl
mutual
theorem eqv_isp : ∀ (x y : D), x.isp = true → y.isp = true → (x.eqv y = true ↔ x = y)
  | .non, y, _, hy => by cases y <;> first | exact ⟨fun _ => rfl, fun _ => rfl⟩ | (cases hy; done) | (exact ⟨fun h => (by cases h), fun h => (by cases h)⟩)
  | .int i, y, _, hy => by
    cases y <;> first | (cases hy; done) | skip
    all_goals first
      | (rw [eqv_int, decide_eq_true_eq]; exact ⟨fun h => by rw [h], fun h => by cases h; rfl⟩)
      | (exact ⟨fun h => (by cases h), fun h => (by cases h)⟩)
  | .str i, y, _, hy => by
    cases y <;> first | (cases hy; done) | skip
    all_goals first
      | (rw [eqv_str, decide_eq_true_eq]; exact ⟨fun h => by rw [h], fun h => by cases h; rfl⟩)
      | (exact ⟨fun h => (by cases h), fun h => (by cases h)⟩)
  | .lst xs, y, hx, hy => by
    cases y <;> first | (cases hy; done) | skip
    all_goals first
      | (rename_i ys; have k := eqv_ispL xs ys hx hy; exact ⟨fun h => congrArg D.lst (k.mp h), fun h => k.mpr (by cases h; rfl)⟩)
      | (exact ⟨fun h => (by cases h), fun h => (by cases h)⟩)
  | .tup xs, y, hx, hy => by
    cases y <;> first | (cases hy; done) | skip
    all_goals first
      | (rename_i ys; have k := eqv_ispL xs ys hx hy; exact ⟨fun h => congrArg D.tup (k.mp h), fun h => k.mpr (by cases h; rfl)⟩)
      | (exact ⟨fun h => (by cases h), fun h => (by cases h)⟩)
  | .bl _, _, hx, _ => by cases hx
  | .dct _ _, _, hx, _ => by cases hx
  | .obj _ _, _, hx, _ => by cases hx
theorem eqv_ispL : ∀ (xs ys : List D), D.ispL xs = true → D.ispL ys = true → (PyData.eqvAll (D.pyL xs) (D.pyL ys) = true ↔ xs = ys)
  | [], [], _, _ => ⟨fun _ => rfl, fun _ => rfl⟩
  | [], _ :: _, _, _ => ⟨fun h => (by cases h), fun h => (by cases h)⟩
  | _ :: _, [], _, _ => ⟨fun h => (by cases h), fun h => (by cases h)⟩
  | x :: xs, y :: ys, hx, hy => by
    have hx' : (x.isp && D.ispL xs) = true := hx
    have hy' : (y.isp && D.ispL ys) = true := hy
    rw [Bool.and_eq_true] at hx' hy'
    have k1 := eqv_isp x y hx'.1 hy'.1
    have k2 := eqv_ispL xs ys hx'.2 hy'.2
    show (x.eqv y && PyData.eqvAll (D.pyL xs) (D.pyL ys)) = true ↔ _
    rw [Bool.and_eq_true, k1, k2]
    exact ⟨fun ⟨h, k⟩ => by rw [h, k], fun h => by cases h; exact ⟨rfl, rfl⟩⟩
end
end Lo
end
section
set_option Elab.async false
set_option linter.all false
set_option autoImplicit false
set_option maxRecDepth 100000
set_option maxHeartbeats 1000000
/-! a text times a number -/
namespace Lo
open PySem PySem.Spec PyProof.Rows L2 Evl
def repS (z : PySem.Str) (n : Nat) : PySem.Str := ⟨(List.replicate n z.cps).foldl (· ++ ·) #[]⟩
theorem rep_size (a : Array Nat) : ∀ (n : Nat) (acc : Array Nat), ((List.replicate n a).foldl (· ++ ·) acc).size = acc.size + n * a.size
  | 0, acc => by simp
  | n + 1, acc => by
    rw [List.replicate_succ, List.foldl_cons, rep_size a n, Array.size_append, Nat.add_mul]
    omega
theorem repS_len (z : PySem.Str) (n : Nat) : (repS z n).length = n * z.length := by
  show ((List.replicate n z.cps).foldl (· ++ ·) #[]).size = _
  rw [rep_size]
  show 0 + _ = _
  rw [Nat.zero_add]
  rfl
def rMulS : R2 := fun x y H Q => ∃ z k, x = .str z ∧ y = .int k ∧ 2 ≤ k ∧ k ≤ 1000 ∧ 1 ≤ z.length ∧ z.length ≤ 1000 ∧ Q (.str (repS z k.toNat)) H
theorem op_mulS {X : Cx} : OpR X (binaryOp .Mult) rMulS := by
  intro pins s σ H x y v u Q I rx ry h
  obtain ⟨z, k, rfl, rfl, h1, h2, h3, h4, q⟩ := h
  obtain ⟨t1, rfl⟩ := rx
  obtain ⟨t2, rfl⟩ := ry
  have n1 : ¬ k < 1 := by omega
  have n2 : (k == 1 || z.length == 0) = false := by
    have a1 : (k == 1) = false := beq_eq_false_iff_ne.mpr (by omega)
    have a2 : (z.length == 0) = false := beq_eq_false_iff_ne.mpr (by omega)
    rw [a1, a2]
    rfl
  have hz : z.length * k.toNat ≤ 1000 * 1000 := Nat.mul_le_mul h4 (by omega)
  have hlong : Builtin.Str.tooLong (z.length * k.toNat) = false := by
    unfold Builtin.Str.tooLong
    rw [sizeLine_eq]
    exact decide_eq_false (by omega)
  refine PySem.P.mul_str (by rw [decide_eq_false (by omega), decide_eq_false (by omega)]; rfl) (fun _ _ h => ?_) (fun _ _ => hlong) ?_
  · have hk : ((z.length : Nat) : Int) ≤ (2 ^ 63 - 1) / k := by
      refine Int.le_ediv_of_mul_le (by omega) ?_
      have a1 : ((z.length : Nat) : Int) * k ≤ 1000 * k := Int.mul_le_mul_of_nonneg_right (by omega) (by omega)
      omega
    omega
  · rw [if_neg n1, if_neg (by rw [n2]; simp)]
    refine ⟨?_, .str (repS z k.toNat), H, I.tok _, ⟨_, rfl⟩, q⟩
    show (repS z k.toNat).length ≤ _
    rw [repS_len, sizeLine_eq, Nat.mul_comm]
    omega
section
variable {T : Tb} {b : Bd} {own : List OW} {ds : List (Option SV)} {P : PSv}
theorem wr_mulS {z : PySem.Str} {k : Int} (h1 : 2 ≤ k) (h2 : k ≤ 1000) (h3 : 1 ≤ z.length) (h4 : z.length ≤ 1000) (p : P (.d (.str (repS z k.toNat))) own) : WR T b rMulS own (.d (.str z)) (.d (.int k)) P := fun W vx vy ha rx ry Q q => by
  cases RpS.str rx
  cases RpS.int ry
  exact ⟨z, k, rfl, rfl, h1, h2, h3, h4, q _ (.d (.str _)) own W ha (Le.refl W) rfl p⟩
/-- a list times a number -/
theorem wr_rep {xs : List D} {k : Int} (h1 : 0 ≤ k) (h2 : k ≤ 1000) (h3 : xs.length * k.toNat ≤ 100000) (p : P (.d (.lst (List.replicate k.toNat xs).flatten)) own) : WR T b rRep own (.d (.lst xs)) (.d (.int k)) P := fun W vx vy ha rx ry Q q => by
  cases RpS.int ry
  obtain ⟨a, vs, rfl, hs, r⟩ := rx
  refine ⟨a, k, vs, rfl, rfl, ha.gh _ _ hs, by omega, by omega, sz_of (by rw [r.len]; exact h3), fun t ht => ?_⟩
  obtain ⟨ha2, l2⟩ := ha.alloc (o := .lst (List.replicate k.toNat vs).flatten) ht
  have rr : ∀ n : Nat, RepL T W.G (List.replicate n xs).flatten (List.replicate n vs).flatten := fun n => by
    induction n with
    | zero => exact rfl
    | succ n ih =>
      rw [List.replicate_succ, List.replicate_succ, List.flatten_cons, List.flatten_cons]
      exact repL_app r ih
  exact q _ (.d (.lst _)) own _ ha2 l2 ⟨t, _, rfl, upd_same, RepL.mono l2.g (rr _)⟩ p
end
end Lo
end
section
set_option Elab.async false
set_option linter.all false
set_option autoImplicit false
set_option maxRecDepth 100000
set_option maxHeartbeats 1000000
/-! list of a text -/
namespace Lo
open PySem PySem.Spec PyProof.Rows L2 Evl
def signV (z : PySem.Str) : List V := z.cps.toList.map fun c => V.str ⟨#[c]⟩
def rListTx : List V → Hp → VK → Prop := fun xs H Q => ∃ z, xs = [.str z] ∧ z.length ≤ sizeLine ∧ ∀ l, H l = none → Q (.ref l) (upd H l (.lst (signV z)))
theorem call_listTx {X : Cx} (hc : X.calm = true) : CallR X (.type "list") rListTx := by
  intro pins s σ H xs us Q I r h
  obtain ⟨z, rfl, hz, q⟩ := h
  obtain ⟨u, rfl, rx⟩ := vals1 r
  obtain ⟨t, rfl⟩ := rx
  refine PySem.call_list_str (I.ok.hd hc) z t (fun h' tk acc c' hk e' hi => ?_) hz
  refine ⟨.ref s.heap.objs.size, upd H s.heap.objs.size (.lst (signV z)), I.laid hk (Nat.le_refl _) (show ObjOk X.prog X.w _ _ _ (.lst (signV z)) from ⟨?_, acc.toList, c', ?_, ?_⟩), rfl, q _ (I.hok.fresh (Nat.le_refl _))⟩
  · show (z.cps.toList.map _).length ≤ _
    rw [List.length_map, Array.length_toList]
    exact hz
  · refine vals_of_at (by show (z.cps.toList.map _).length = _; rw [List.length_map, Array.length_toList, Array.length_toList, hi.1]) fun j y u h1 h2 => ?_
    obtain ⟨c, t2, e1, rfl⟩ := hi.2 j u (by rw [← h2, Array.getElem?_toList])
    have e3 : (signV z)[j]? = some (V.str ⟨#[c]⟩) := by
      unfold signV
      rw [List.getElem?_map, Array.getElem?_toList, e1]
      rfl
    rw [e3] at h1
    cases h1
    exact ⟨t2, rfl⟩
  · rw [Array.toArray_toList]; exact e'
section
variable {T : Tb} {b : Bd} {own : List OW} {ds : List (Option SV)} {P : PSv}
theorem wc_listTx {z : PySem.Str} (hz : z.length ≤ 100000) (p : P (.d (.lst (signsD z))) own) : WC T b rListTx own [.d (.str z)] P := fun W vs ha ⟨v, r, ev, rx, er⟩ Q q => by
  subst ev
  have er' : r = [] := er
  subst er'
  cases RpS.str rx
  refine ⟨z, rfl, sz_of hz, fun l hl => ?_⟩
  obtain ⟨ha2, l2⟩ := ha.alloc (o := .lst (signV z)) hl
  refine q _ (.d (.lst _)) own _ ha2 l2 ⟨l, _, rfl, upd_same, ?_⟩ p
  have rr : ∀ (G : Hp) (cs : List Nat), RepL T G (cs.map fun c => D.str ⟨#[c]⟩) (cs.map fun c => V.str ⟨#[c]⟩) := fun G cs => by
    induction cs with
    | nil => exact rfl
    | cons c cs ih => exact ⟨_, _, rfl, rfl, ih⟩
  exact rr _ _
end
end Lo
end
section
set_option Elab.async false
set_option linter.all false
set_option autoImplicit false
set_option maxRecDepth 100000
set_option maxHeartbeats 1000000
/-! calls of methods -/
namespace Lo
open PySem PySem.Spec PyProof.Rows L2 Evl
section
variable {X : Cx} {k : Nat} {f C : Addr} {m : PySem.Str} {ps : List PySem.Str} {sp : Sp} {dvs : List V} {E : XK} {ta : TE} {t : TA} {o e : Expr} {es : List Expr} {pos apos : Pos}
theorem pe_cam {n : Nat} {pl : Sem Bool} (he : PE X o ta) (c : Cls X.K C) (hm : Meth X.K C m f) (F : Cal X.prog X.w X.K X.mg X.base k f ps sp dvs) (hr : Room n X.A) (hx : Passes (L2.CX X.prog X.w) X E) (ha : PA X (e :: es) t) (hk : k ≤ n := by decide)
    (hst : starEach (e :: es) X.env = (false, eval e X.env) :: starEach es X.env := by rfl) (hpl : (backTo pos (starEach es X.env)).any (·.1) = false := by rfl)
    (ht : eval (.Call (.Attribute o m apos) (e :: es) [] pos) X.env = (do
      let ov ← eval o X.env
      standAt apos.atName
      let (f, first) ← holding [ov] (getMethod ov m pl)
      callWith pos f first (backTo pos (starEach (e :: es) X.env)) (backToKw pos (keywordEach [] X.env))) := by rfl) :
    PE X (.Call (.Attribute o m apos) (e :: es) [] pos) (tMeth C m sp dvs E ta t) := by
  obtain ⟨fd, ds, F, hd, hb⟩ := F
  exact pe_meth he c hm F (hr.mono hk) hb hd hx ha hst hpl ht
end
section
variable {T : Tb} {b : Bd} {own : List OW} {ds : List (Option SV)} {P : PSv}
variable {ι : Type} {args : ι → List D} {pre : ι → Prop} {post : ι → D → Prop} {perr : ι → Er → Prop}
/-- a method of an object that stands; no error -/
theorem we_cam {C : Addr} {m : PySem.Str} {E : XK} {ta : TE} {tt : TA} (h : WE T b ta own ds fun s o => ∃ c fs, s = .d (.obj c fs) ∧ T.cls c = C ∧ m ∉ T.fld c ∧ WA T b tt o ds fun ss o2 => ∃ xs, AllD ss xs ∧ Goes args pre post perr (.obj c fs :: (xs ++ [])) (fun d => P (.d d) o2)) : WE T b (tMeth C m (SpP T (Fv args pre post perr)) [] E ta tt) own ds P :=
  we_meth (dd := []) xok0 (fun _ => rfl) (h.imp fun s o ⟨c, fs, e, hC, hm, h2⟩ => ⟨c, fs, e, hC, hm, fun W σ ha sl Q q => h2 W σ ha sl Q fun vs ss o W' h' l r ⟨xs, e, g⟩ => q vs ss o W' h' l r ⟨xs, e, g.fv⟩⟩) Fv.mon
end
end Lo
end
section
set_option Elab.async false
set_option linter.all false
set_option autoImplicit false
set_option maxRecDepth 100000
set_option maxHeartbeats 1000000
/-! own lists of data: slices, sums -/
namespace Lo
open PySem PySem.Spec PyProof.Rows L2 Evl
section
variable {T : Tb} {b : Bd} {own : List OW} {ds : List (Option SV)} {P : PSv}
/-- what an own list of data holds -/
theorem HA.lstD {W : Wd} {own : List OW} {k : Nat} {ss : List SV} {xs : List D} {v : V} (ha : HA T b W own) (ho : own[k]? = some (.lst ss)) (hx : AllD ss xs) (r : RpS T W (.p k) v) : ∃ a vs, v = .ref a ∧ W.H a = some (.lst vs) ∧ RepL T W.G xs vs := by
  obtain ⟨a, ea, e⟩ := r
  obtain ⟨a', ea', _, _, _, ws, eh, rr⟩ := ha.ow.get ho
  have z : a' = a := Option.some.inj (ea'.symm.trans ea)
  subst z
  rw [hx.eq] at rr
  exact ⟨a', ws, e, eh, RpSL.ds rr⟩
theorem we_slP {te : TE} {tl th : TO} (h : WE T b te own ds fun s o => WO T b tl o ds fun lo o1 => WO T b th o1 ds fun hi o2 =>
    ∃ k ss xs, s = .p k ∧ o2[k]? = some (.lst ss) ∧ AllD ss xs ∧ P (.d (.lst (cutD xs lo hi))) o2) : WE T b (tSl (rSlAny T.K) te tl th) own ds P := fun W σ ha sl Q q => by
  refine h W σ ha sl _ fun v s o1 W1 ha1 l1 r1 h1 => ?_
  refine h1 W1 σ ha1 (sl.mono l1) _ fun lo o2 W2 ha2 l2 h2 => ?_
  refine h2 W2 σ ha2 (sl.mono (l1.trans l2)) _ fun hi o3 W3 ha3 l3 ⟨k, ss, xs, e, ho, hx, p⟩ => ?_
  subst e
  have r3 := RpS.mono (l2.trans l3) r1
  obtain ⟨a, ws, rfl, hs, rr⟩ := ha3.lstD ho hx r3
  refine .inl ⟨a, ws, rfl, sq_of hs, fun c hc => ?_⟩
  obtain ⟨ha4, l4⟩ := ha3.alloc (o := .lst (cutV ws lo hi)) hc
  exact q _ (.d (.lst (cutD xs lo hi))) _ _ ha4 (((l1.trans l2).trans l3).trans l4) ⟨c, _, rfl, upd_same, RepL.mono l4.g (rr.cut lo hi)⟩ p
theorem wr_addP {k : Nat} {ss : List SV} {xs ys : List D} (ho : own[k]? = some (.lst ss)) (hx : AllD ss xs) (l : xs.length + ys.length ≤ 100000) (p : P (.d (.lst (xs ++ ys))) own) : WR T b rAddA own (.p k) (.d (.lst ys)) P := fun W vx vy ha rx ry Q q => by
  obtain ⟨a, vs, rfl, hs, r⟩ := ha.lstD ho hx rx
  obtain ⟨c, ws, rfl, hs2, r2⟩ := ry
  refine .inr (.inr ⟨a, c, vs, ws, rfl, rfl, hs, ha.gh _ _ hs2, sz_of (by rw [r.len, r2.len]; exact l), fun t ht => ?_⟩)
  obtain ⟨ha2, l2⟩ := ha.alloc (o := .lst (vs ++ ws)) ht
  exact q _ (.d (.lst (xs ++ ys))) own _ ha2 l2 ⟨t, _, rfl, upd_same, RepL.mono l2.g (repL_app r r2)⟩ p
end
end Lo
end
section
set_option Elab.async false
set_option linter.all false
set_option autoImplicit false
set_option maxRecDepth 100000
set_option maxHeartbeats 1000000
/-! a comprehension with two for -/
namespace Lo
open PySem PySem.Spec PyProof.Rows L2 Evl
theorem kSeq {X : Cx} {K : PySem.W.Frag} {tg it : Expr} {te : TE} (e : X.K = K) (h : PE X it te) : PI X tg it (iSeq K te) := e ▸ pi_seq h
end Lo
end
section
set_option Elab.async false
set_option linter.all false
set_option autoImplicit false
set_option maxRecDepth 100000
set_option maxHeartbeats 1000000
/-! [f for x in xs for y in h(x)] -/
namespace Lo
open PySem PySem.Spec PyProof.Rows L2 Evl
theorem rpSL_snoc {T : Tb} {W : Wd} {d : D} {y : V} (r6 : RpS T W (.d d) y) : ∀ {xs : List SV} {ws : List V}, RpSL T W xs ws → RpSL T W (xs ++ [.d d]) (ws ++ [y])
  | [], ws, h => by
    have h' : ws = [] := h
    subst h'
    exact ⟨y, [], rfl, r6, rfl⟩
  | x :: xs, _, ⟨v, r, e, h1, h2⟩ => by
    subst e
    exact ⟨v, r ++ [y], rfl, h1, rpSL_snoc r6 h2⟩
section
variable {T : Tb} {b : Bd} {own : List OW} {ds : List (Option SV)} {P : PSv}
theorem we_lc2f {wi wi1 : TI} {g g1 : TG} {js js1 : List Nat} {te : TE} {vs vs1 : List Nat} (hj : ∀ j ∈ js, j ∈ vs) (hj1 : ∀ j ∈ js1, j ∈ vs1) (hh : D → List D) (f : D → D → D)
    (h : WI T b wi own ds fun items o => own.length ≤ o.length ∧ OwP o.length o ∧ (items.flatMap fun x => (hh x).map (f x)).length ≤ 100000 ∧ (∀ x acc, x ∈ items →
        WG T b g js x (o ++ [.lst acc]) (wipeD ds vs) fun o2 s2 => o2 = o ++ [.lst acc] ∧ WI T b wi1 o2 s2 fun items1 o3 => o3 = o2 ∧ items1 = hh x ∧ ∀ y acc2, y ∈ items1 →
          WG T b g1 js1 y (o ++ [.lst acc2]) (wipeD s2 vs1) fun o4 s4 => WE T b te o4 s4 fun s o5 => s = .d (f x y) ∧ o5 = o ++ [.lst acc2]) ∧ P (.d (.lst (items.flatMap fun x => (hh x).map (f x)))) o) : WE T b (tLc2 wi g tYes wi1 g1 tYes te vs vs1) own ds P := fun W σ ha sl Q q => by
  refine h W σ ha sl _ fun J items o1 W1 ha1 l1 it ⟨hlen, pp, hsz, hs, hd⟩ Dd hD => ?_
  have dl := ha1.ow.len
  obtain ⟨hA0, lA0⟩ := ha1.allocOwn (ss := ([] : List D).map SV.d) (vs := []) hD rfl
  have at0 : (W1.as ++ [Dd])[o1.length]? = some Dd := by rw [← dl]; simp
  refine ⟨fun i m H2 => m = items.length - i ∧ i ≤ items.length ∧ ∃ W2, W2.H = H2 ∧ HA T b W2 (o1 ++ [.lst (((items.take i).flatMap fun x => (hh x).map (f x)).map SV.d)]) ∧ Le W1 W2 ∧ W2.as[o1.length]? = some Dd, ⟨items.length, by simp, Nat.zero_le _, _, rfl, hA0, lA0, at0⟩, ?_⟩
  rintro i m H2 ⟨rfl, hi, W2, rfl, ha2, l2, atD⟩
  by_cases hlt : i < items.length
  · obtain ⟨x, hx⟩ : ∃ x, items[i]? = some x := ⟨_, List.getElem?_eq_getElem hlt⟩
    obtain ⟨hgo, hy⟩ := (it i W2 _ l2 ha2).1 x hx
    have hnext : (items.take (i + 1)).flatMap (fun x => (hh x).map (f x)) = (items.take i).flatMap (fun x => (hh x).map (f x)) ++ (hh x).map (f x) := by
      rw [List.take_add_one, hx]
      simp
    have hle : (items.take i).flatMap (fun x => (hh x).map (f x)) ++ (hh x).map (f x) ++ (items.drop (i + 1)).flatMap (fun x => (hh x).map (f x)) = items.flatMap (fun x => (hh x).map (f x)) := by
      rw [← hnext, ← List.flatMap_append, List.take_append_drop]
    have hw := hs x (((items.take i).flatMap fun x => (hh x).map (f x)).map SV.d) (List.mem_of_getElem? hx)
    refine .inr ⟨hgo, fun H' => ∃ W3, W3.H = H' ∧ HA T b W3 (o1 ++ [.lst (((items.take (i + 1)).flatMap fun x => (hh x).map (f x)).map SV.d)]) ∧ Le W1 W3 ∧ W3.as[o1.length]? = some Dd, fun H' ⟨W3, e, h4, l4, a4⟩ => ⟨items.length - (i + 1), by omega, rfl, hlt, W3, e, h4, l4, a4⟩, fun v H' yv => ?_⟩
    obtain ⟨W3, rfl, ha3, l3, rv⟩ := hy v H' yv
    have sl2 : SlL T W3 (wipe σ vs) (wipeD ds vs) := (SlL.wipe (sl.mono l1) vs).mono (l2.trans l3)
    refine hw W3 _ v ha3 sl2 rv _ fun σ4 o4 s4 W4 ha4 l4 sl4 hl4 hk4 ⟨eo4, hb⟩ => ⟨wipe_same hj hl4 hk4, ?_⟩
    subst eo4
    have l14 : Le W1 W4 := (l2.trans l3).trans l4
    have at4 : W4.as[o1.length]? = some Dd := prefix_get (l3.trans l4).a atD
    change wi1 σ4 W4.H _
    refine hb W4 σ4 ha4 sl4 _ fun J1 items1 o5 W5 ha5 l5 it1 ⟨eo5, ei, hs1⟩ => ?_
    subst eo5
    subst ei
    have at5 : W5.as[o1.length]? = some Dd := prefix_get l5.a at4
    refine ⟨fun j k H2 => k = (hh x).length - j ∧ j ≤ (hh x).length ∧ ∃ W6, W6.H = H2 ∧ HA T b W6 (o1 ++ [.lst (((items.take i).flatMap (fun x => (hh x).map (f x)) ++ ((hh x).take j).map (f x)).map SV.d)]) ∧ Le W5 W6 ∧ W6.as[o1.length]? = some Dd, ⟨(hh x).length, by simp, Nat.zero_le _, W5, rfl, by simpa using ha5, Le.refl _, at5⟩, ?_⟩
    rintro j k H2 ⟨rfl, hjl, W6, rfl, ha6, l6, at6⟩
    by_cases hlt1 : j < (hh x).length
    · obtain ⟨y, hyy⟩ : ∃ y, (hh x)[j]? = some y := ⟨_, List.getElem?_eq_getElem hlt1⟩
      obtain ⟨hgo1, hy1⟩ := (it1 j W6 _ l6 ha6).1 y hyy
      refine .inr ⟨hgo1, fun H' => ∃ W7, W7.H = H' ∧ HA T b W7 (o1 ++ [.lst (((items.take i).flatMap (fun x => (hh x).map (f x)) ++ ((hh x).take (j + 1)).map (f x)).map SV.d)]) ∧ Le W5 W7 ∧ W7.as[o1.length]? = some Dd, fun H' ⟨W7, e, h7, l7, a7⟩ => ⟨(hh x).length - (j + 1), by omega, rfl, hlt1, W7, e, h7, l7, a7⟩, fun v1 H' yv1 => ?_⟩
      obtain ⟨W7, rfl, ha7, l7, rv1⟩ := hy1 v1 H' yv1
      have sl7 : SlL T W7 (wipe σ4 vs1) (wipeD s4 vs1) := (SlL.wipe (sl4.mono l5) vs1).mono (l6.trans l7)
      refine hs1 y _ (List.mem_of_getElem? hyy) W7 _ v1 ha7 sl7 rv1 _ fun σ8 o8 s8 W8 ha8 l8 sl8 hl8 hk8 hb8 => ⟨wipe_same hj1 hl8 hk8, ?_⟩
      change te σ8 W8.H _
      refine hb8 W8 σ8 ha8 sl8 _ fun yv s o9 W9 ha9 l9 r9 ⟨es, eo⟩ => ?_
      subst es
      subst eo
      have at9 : W9.as[o1.length]? = some Dd := prefix_get ((l7.trans l8).trans l9).a at6
      have ho : (o1 ++ [OW.lst (((items.take i).flatMap (fun x => (hh x).map (f x)) ++ ((hh x).take j).map (f x)).map SV.d)])[o1.length]? = some (.lst (((items.take i).flatMap (fun x => (hh x).map (f x)) ++ ((hh x).take j).map (f x)).map SV.d)) := by simp
      obtain ⟨a', ea', g', b', n', vs', eh, rr⟩ := ha9.ow.get ho
      have z : a' = Dd := Option.some.inj (ea'.symm.trans at9)
      subst z
      have e1 : ((items.take i).flatMap (fun x => (hh x).map (f x)) ++ ((hh x).take (j + 1)).map (f x)).map SV.d = ((items.take i).flatMap (fun x => (hh x).map (f x)) ++ ((hh x).take j).map (f x)).map SV.d ++ [.d (f x y)] := by
        rw [List.take_add_one, hyy]
        simp
      have app := rpSL_snoc r9 rr
      rw [← e1] at app
      obtain ⟨ha10, l10⟩ := ha9.setOwn ho at9 app
      have es : (o1 ++ [OW.lst (((items.take i).flatMap (fun x => (hh x).map (f x)) ++ ((hh x).take j).map (f x)).map SV.d)]).set o1.length (.lst (((items.take i).flatMap (fun x => (hh x).map (f x)) ++ ((hh x).take (j + 1)).map (f x)).map SV.d)) = o1 ++ [.lst (((items.take i).flatMap (fun x => (hh x).map (f x)) ++ ((hh x).take (j + 1)).map (f x)).map SV.d)] := by simp
      rw [es] at ha10
      have nl : vs'.length < 100000 := by
        rw [RpSL.len rr, List.length_map, List.length_append, List.length_map]
        have := congrArg List.length hle
        rw [List.length_append, List.length_append, List.length_map] at this
        have h3 : ((hh x).take j).length < (hh x).length := by rw [List.length_take]; omega
        omega
      exact ⟨vs', eh, sz_lt nl, _, rfl, ha10, (((l6.trans l7).trans l8).trans l9).trans l10, at9⟩
    · have e : j = (hh x).length := by omega
      subst e
      refine .inl ⟨(it1 _ W6 _ l6 ha6).2 rfl, W6, rfl, ?_, (l14.trans l5).trans l6, at6⟩
      rw [hnext]
      simpa using ha6
  · have e : i = items.length := by omega
    subst e
    refine .inl ⟨(it _ W2 _ l2 ha2).2 rfl, ?_⟩
    rw [List.take_length] at ha2
    obtain ⟨W', eH, ha', lle, r⟩ := ha2.closeLst atD pp
    rw [← eH]
    exact q _ (.d (.lst _)) o1 W' ha' (l1.trans (lle W1 l2 (by rw [dl]; exact Nat.le_refl _))) r hd
end
end Lo
end
section
set_option Elab.async false
set_option linter.all false
set_option autoImplicit false
set_option maxRecDepth 100000
set_option maxHeartbeats 1000000
/-! sets whose members are tuples of texts -/
namespace TX
open PySem PySem.Spec PyProof.Rows L2

/-- a member: where it stands and what it says -/
abbrev Mem : Type := Addr × List PySem.Str
section
variable (P : Program) (w : World)
def hsh (m : Mem) : Int := tupleKeyHash (PySem.strKind P w) m.2
def says (h : Heap) (m : Mem) : Prop := IsTupleKey (PySem.strKind P w) h m.2 m.1
def ent (m : Mem) : Int × Value := (hsh P w m, .ref m.1)
def hashes (ms : List Mem) : List Int := ms.map (hsh P w)
/-- the table t fits these members and can find each -/
structure Good (ms : List Mem) (t : SetTable) : Prop where
  tab : TabOk t (hashes P w ms)
  nd : (ms.map Prod.snd).Nodup
  led : w.params.followText "set-order" = true ∨ t.led = true
  room : ms.length * 5 < t.mask * 3
  few : ms.length < 64
/-- a set object with these members -/
structure Laid (h : Heap) (a : Addr) (ms : List Mem) (es : Array (Int × Value)) (ep : Nat) (t : SetTable) : Prop where
  obj : ∃ o, h.get? a = some o ∧ o.ExactSet ∧ o.data = .set es ep t
  ents : es.toList = ms.map (ent P w)
  good : Good P w ms t
  txt : ∀ m ∈ ms, says P w h m
end
section
variable {P : Program} {w : World} {A : Around} {E : Value → Shared → Prop} {s : Shared} {h : Heap} {a : Addr} {ms : List Mem} {es : Array (Int × Value)} {ep : Nat} {t : SetTable}
theorem ents_len (he : es.toList = ms.map (ent P w)) : es.size = ms.length := by
  rw [← Array.length_toList, he, List.length_map]
theorem ents_at (he : es.toList = ms.map (ent P w)) {i : Nat} {m : Mem} (hm : ms[i]? = some m) : es[i]? = some (ent P w m) := by
  rw [← Array.getElem?_toList, he, List.getElem?_map, hm]
  rfl
theorem Good.len (g : Good P w ms t) : t.place.size = ms.length := by
  have q := g.tab.sz
  unfold hashes at q
  rw [List.length_map] at q
  exact q
theorem fits_of {n : Nat} (hs : t.place.size = n) (hd : t.dummies = #[]) (hn : n ≤ t.mask) : t.fits n = true := by
  unfold SetTable.fits SetTable.fill
  rw [hd, hs, beq_self_eq_true, Bool.true_and, decide_eq_true_eq]
  exact hn
theorem Laid.fits (l : Laid P w h a ms es ep t) : t.fits es.size = true := by
  have r := l.good.room
  rw [ents_len l.ents]
  exact fits_of l.good.len l.good.tab.dm (by omega)
theorem not_gone (g : Good P w ms t) : ¬ t.gaveWay = true := by
  unfold SetTable.gaveWay
  rw [mask_odd g.tab.mok]
  decide
/-- the c-th stop of the search -/
abbrev stop (m : Nat) (x : Int) (c : Nat) : SetTable.Probe := nth m (runAt m (SetTable.bits x % (m + 1)) (SetTable.bits x)) c
theorem stop_add (m : Nat) (x : Int) (c q : Nat) : nth m (stop m x c) q = stop m x (c + q) := (nth_add m c _ q).symm
theorem stop_dummy (m : Nat) (x : Int) : ∀ c, (stop m x c).dummy = none := fun c => by
  induction c with
  | zero => rfl
  | succ c ih =>
    show (nth m _ (c + 1)).dummy = none
    rw [nth_succ]
    unfold adv
    split <;> exact ih
/-- texts say nothing of classes -/
theorem plain_texts {k : List PySem.Str} {vs : List Value} (hi : ItemsAre (PySem.strKind P w) k vs) : ∀ v ∈ vs, ∃ z u, v = Value.str z u := by
  induction hi with
  | nil => exact fun v m => nomatch m
  | cons h0 _ ih =>
    intro v m
    cases m with
    | head =>
      obtain ⟨u, e⟩ := Value.isStrOf_shape h0
      exact ⟨_, u, e⟩
    | tail _ m => exact ih v m
theorem no_class {m : Mem} {Q : Bool → Shared → Prop} (hm : says P w s.heap m) (q : Q false s) : wpAny (model P w) A (ofAClassStatement 8 (.ref m.1)) Q E s := by
  have ty := IsTupleKey.typeIs hm
  obtain ⟨o, its, n, ho, _, hd, hi⟩ := hm
  have all := plain_texts hi
  have isT : (("tuple" : String) == "tuple") = true := rfl
  unfold ofAClassStatement
  refine wpAny_bind (wpAny_typeOf ty ?_)
  simp only [isT, if_true]
  refine wpAny_bind (wpAny_pure ?_)
  simp only [Bool.not_true, Bool.false_eq_true, if_false]
  refine wpAny_bind (wpAny_seqItems ho hd (wpAny_bind ?_))
  rw [← Array.forIn_toList]
  refine wpAny_forIn_list _ (fun left acc z => acc.1 = none ∧ z = s ∧ ∀ v ∈ left, ∃ y u, v = Value.str y u) _ (fun v left acc z => ?_) (fun acc z => ?_) _ _ ⟨rfl, rfl, all⟩
  · rintro ⟨_, rfl, hall⟩
    obtain ⟨y, u, rfl⟩ := hall v (.head _)
    have e7 : ofAClassStatement 7 (.str y u) = pure false := rfl
    rw [e7]
    refine wpAny_bind (wpAny_pure ?_)
    simp only [Bool.false_eq_true, if_false]
    exact wpAny_pure ⟨rfl, rfl, fun v' m' => hall v' (.tail _ m')⟩
  · rintro ⟨h1, rfl, _⟩
    obtain ⟨r, u⟩ := acc
    cases h1
    exact wpAny_pure q
end
end TX
end
section
set_option Elab.async false
set_option linter.all false
set_option autoImplicit false
set_option maxRecDepth 100000
set_option maxHeartbeats 1000000
namespace TX
open PySem PySem.Spec PyProof.Rows L2
section
variable {P : Program} {w : World} {A : Around} {E : Value → Shared → Prop} {s : Shared} {h : Heap} {a : Addr} {ms : List Mem} {es : Array (Int × Value)} {ep : Nat} {t : SetTable}
/-- what is stored under one hash tells nothing when it is compared -/
theorem unseen {x : Mem} {Q : Bool → Shared → Prop} (hx : says P w s.heap x) {ys : List Value} (hy : ∀ y ∈ ys, ∃ m, y = Value.ref m.1 ∧ says P w s.heap m) (q : Q false s) : wpAny (model P w) A (searchCouldBeSeen (.ref x.1) ys) Q E s := by
  unfold searchCouldBeSeen
  refine wpAny_bind (wpAny_forIn_list _ (fun left acc z => acc.1 = none ∧ z = s ∧ ∀ y ∈ left, ∃ m, y = Value.ref m.1 ∧ says P w s.heap m) _ (fun y left acc z => ?_) (fun acc z => ?_) _ _ ⟨rfl, rfl, hy⟩)
  · rintro ⟨_, rfl, hall⟩
    obtain ⟨m, rfl, hm⟩ := hall y (.head _)
    have nxt : ∀ y' ∈ left, ∃ m, y' = Value.ref m.1 ∧ says P w z.heap m := fun y' m' => hall y' (.tail _ m')
    dsimp only
    by_cases c : (x.1 == m.1 || (carriedByValue (.ref x.1) && carriedByValue (.ref m.1))) = true
    · exact wp_if_pos c (wpAny_pure ⟨rfl, rfl, nxt⟩)
    · refine wp_if_neg c (wpAny_bind (wpAny_eqIsQuiet_tuple hx ?_))
      refine wp_if_neg (by simp) (wpAny_bind (wpAny_eqIsQuiet_tuple hm ?_))
      refine wp_if_neg (by simp) (wpAny_bind (no_class hx ?_))
      refine wp_if_neg (by simp) (wpAny_bind (no_class hm ?_))
      exact wp_if_neg (by simp) (wpAny_pure ⟨rfl, rfl, nxt⟩)
  · rintro ⟨h1, rfl, _⟩
    obtain ⟨r, u⟩ := acc
    cases h1
    exact wpAny_pure q
theorem place_at (g : Good P w ms t) {i j : Nat} (e : t.place.toList[i]? = some j) : ∃ m, ms[i]? = some m := by
  have h1 : i < t.place.toList.length := (List.getElem?_eq_some_iff.mp e).1
  rw [Array.length_toList, g.len] at h1
  exact ⟨_, List.getElem?_eq_getElem h1⟩
/-- the search for x among the members, from its c-th stop on; F: the first stop that is free -/
theorem seek (l : Laid P w s.heap a ms es ep t) {x : Mem} (hx : says P w s.heap x) (hu : A.units < cLine) {F : Nat} (hF : F < 10 * SetTable.turns t.mask)
    (free : way t.mask (hsh P w x) F ∉ t.place.toList) (full : ∀ c, c < F → way t.mask (hsh P w x) c ∈ t.place.toList) {Q : SetFound → Shared → Prop}
    (yes : x.2 ∈ ms.map Prod.snd → Q (.there none) s) (no : x.2 ∉ ms.map Prod.snd → Q (.free (way t.mask (hsh P w x) F) false) s) (fuel : Nat) :
    ∀ (c : Nat) (st : Option SetTable.Probe), st.getD (t.probeStart (hsh P w x)) = stop t.mask (hsh P w x) c → c ≤ F → F - c < fuel →
      (∀ (i : Nat) (m : Mem), ms[i]? = some m → m.2 = x.2 → ∃ d, c ≤ d ∧ d < F ∧ t.place.toList[i]? = some (way t.mask (hsh P w x) d)) →
      wpAny (model P w) A (setSearchFrom a (.ref x.1) (hsh P w x) true fuel st) Q E s := by
  induction fuel with
  | zero => exact fun c st _ _ z _ => absurd z (Nat.not_lt_zero _)
  | succ fuel ih =>
    intro c st hst hc hf ahead
    obtain ⟨o, ho, _, hd⟩ := l.obj
    have T := l.good.tab
    have hash : ∀ {i : Nat} {m : Mem}, ms[i]? = some m → (es[i]?.map (·.1)).getD 0 = hsh P w m := fun {i m} q => by
      rw [ents_at l.ents q]
      rfl
    rw [setSearchFrom_succ]
    refine wpAny_bind (wpAny_setState_of ho hd l.fits ?_)
    refine wp_if_neg (not_gone l.good) ?_
    try refine wpAny_bind (wpAny_pure ?_)
    have sp := go_spec t T.ris T.dm (fun i => (es[i]?.map (·.1)).getD 0) (hsh P w x) (10 * SetTable.turns t.mask) (F - c) (stop t.mask (hsh P w x) c) (stop_dummy _ _ c) (by omega)
      (fun q hq => by rw [stop_add]; exact full (c + q) (by omega)) (by rw [stop_add, Nat.add_sub_cancel' hc]; exact free)
    rw [← hst] at sp
    rcases sp with ⟨q, i, hq, hi, hh, first, hp⟩ | ⟨nothing, hp⟩
    · rw [hst, stop_add] at hi hp
      rw [hst] at first
      have hp' : t.probe (fun i => (es[i]?.map (·.1)).getD 0) (hsh P w x) (st.getD (t.probeStart (hsh P w x))) = some (.candidate (way t.mask (hsh P w x) (c + q)) i (stop t.mask (hsh P w x) (c + (q + 1)))) := by
        rw [hst, ← stop_add t.mask (hsh P w x) c (q + 1)]
        exact hp
      rw [hp']
      obtain ⟨m, hm⟩ := place_at l.good hi
      have hin := List.mem_of_getElem? hm
      have go : wpAny (model P w) A (searchRest a (.ref x.1) (hsh P w x) true fuel es t (way t.mask (hsh P w x) (c + q)) i (stop t.mask (hsh P w x) (c + (q + 1)))) Q E s := by
        unfold searchRest
        rw [ents_at l.ents hm]
        refine wpAny_bind (wpAny_holding (wpAny_eqBool_tuple hu (l.txt m hin) hx ?_))
        refine wpAny_bind (wpAny_setState_of ho hd l.fits ?_)
        dsimp only
        by_cases same : m.2 = x.2
        · exact wp_if_pos (by simp [same]) (wpAny_pure (yes (List.mem_map.mpr ⟨m, hin, same⟩)))
        · refine wp_if_neg (by simp [same]) ?_
          try refine wpAny_bind (wpAny_pure ?_)
          have live : t.slot (way t.mask (hsh P w x) (c + q)) = .live i := slot_live T.ris hi
          rw [sameMem]
          simp only [if_true, live, ents_at l.ents hm, ent]
          refine wpAny_bind (wpAny_isSame_ref_self (wpAny_bind (wpAny_pure ?_)))
          simp only [if_true]
          refine wp_if_neg (by simp [same]) (ih (c + (q + 1)) _ rfl (by omega) (by omega) fun i0 m0 h0 hk => ?_)
          obtain ⟨d, d1, d2, d3⟩ := ahead i0 m0 h0 hk
          refine ⟨d, ?_, d2, d3⟩
          have ne : d ≠ c + q := fun z => by
            rw [z] at d3
            have e := slot_live T.ris d3
            rw [live] at e
            injection e with e
            rw [← e, hm] at h0
            cases h0
            exact same hk
          have ge : ¬ d < c + q := fun z => by
            refine first (d - c) i0 (by omega) ?_ ?_
            · rw [stop_add, Nat.add_sub_cancel' d1]
              exact d3
            · show (es[i0]?.map (·.1)).getD 0 = _
              rw [hash h0]
              unfold hsh
              rw [hk]
          omega
      by_cases c0 : t.led = true
      · refine wp_if_neg (by simp [c0]) ?_
        try refine wpAny_bind (wpAny_pure ?_)
        exact go
      · refine wp_if_pos (by simp [c0]) (wpAny_bind (unseen hx (fun y hy => ?_) ?_))
        · obtain ⟨e, he, rfl⟩ := List.mem_map.mp hy
          have he' : e ∈ es.toList := by
            have : e ∈ es ∧ e.1 = hsh P w x := by simpa using he
            simpa using this.1
          rw [l.ents] at he'
          obtain ⟨m2, hm2, rfl⟩ := List.mem_map.mp he'
          exact ⟨m2, rfl, l.txt m2 hm2⟩
        · refine wp_if_neg (by decide) ?_
          try refine wpAny_bind (wpAny_pure ?_)
          exact go
    · rw [hst, stop_add, Nat.add_sub_cancel' hc] at hp
      rw [hst] at nothing
      have hp' : t.probe (fun i => (es[i]?.map (·.1)).getD 0) (hsh P w x) (st.getD (t.probeStart (hsh P w x))) = some (.empty (way t.mask (hsh P w x) F) none) := by
        rw [hst]
        exact hp
      rw [hp']
      refine wpAny_pure (no fun z => ?_)
      obtain ⟨m, hm, e⟩ := List.mem_map.mp z
      obtain ⟨i, hi, rfl⟩ := List.getElem_of_mem hm
      have h0 : ms[i]? = some ms[i] := List.getElem?_eq_getElem hi
      obtain ⟨d, d1, d2, d3⟩ := ahead i _ h0 e
      refine nothing (d - c) i (by omega) ?_ ?_
      · rw [stop_add, Nat.add_sub_cancel' d1]
        exact d3
      · show (es[i]?.map (·.1)).getD 0 = _
        rw [hash h0]
        unfold hsh
        rw [e]
/-- .. as adding asks -/
theorem search (l : Laid P w s.heap a ms es ep t) {x : Mem} (hx : says P w s.heap x) (hu : A.units < cLine) {Q : SetFound → Shared → Prop} (yes : x.2 ∈ ms.map Prod.snd → Q (.there none) s)
    (no : ∀ F, x.2 ∉ ms.map Prod.snd → way t.mask (hsh P w x) F ∉ t.place.toList → (∀ c, c < F → way t.mask (hsh P w x) c ∈ t.place.toList) → Q (.free (way t.mask (hsh P w x) F) false) s) :
    wpAny (model P w) A (setSearch a (.ref x.1) (hsh P w x) true) Q E s := by
  have r := l.good.room
  have hl : (hashes P w ms).length = ms.length := List.length_map ..
  obtain ⟨F, h1, h2, h3⟩ := l.good.tab.first (by rw [hl]; omega) (hsh P w x)
  have tl : 10 * SetTable.turns t.mask ≤ 2000 := by
    unfold SetTable.turns
    rcases l.good.tab.mok with e | e | e <;> omega
  unfold setSearch
  refine seek l hx hu h1 h2 h3 yes (fun n => no F n h2 h3) 100000 0 none rfl (Nat.zero_le _) (by omega) fun i m hm e => ?_
  have hh : (hashes P w ms)[i]? = some (hsh P w x) := by
    unfold hashes
    rw [List.getElem?_map, hm]
    show some (hsh P w m) = _
    unfold hsh
    rw [e]
  have hi : i < t.place.toList.length := by
    rw [Array.length_toList, l.good.len]
    exact (List.getElem?_eq_some_iff.mp hm).1
  have hj := List.getElem?_eq_getElem hi
  obtain ⟨c, hc, ew⟩ := l.good.tab.before h2 hh hj
  exact ⟨c, Nat.zero_le _, hc, by rw [ew]; exact hj⟩
end
end TX
end
section
set_option Elab.async false
set_option linter.all false
set_option autoImplicit false
set_option maxRecDepth 100000
set_option maxHeartbeats 1000000
namespace TX
open PySem PySem.Spec PyProof.Rows L2
theorem range_pick {α : Type} : ∀ (l : List α), (List.range l.length).filterMap (fun i => l[i]?) = l
  | [] => rfl
  | x :: r => by
    rw [List.length_cons, List.range_succ_eq_map]
    have e : List.filterMap (fun i => (x :: r)[i]?) (0 :: List.map Nat.succ (List.range r.length)) = x :: List.filterMap (fun i => (x :: r)[i]?) (List.map Nat.succ (List.range r.length)) := rfl
    rw [e, List.filterMap_map]
    exact congrArg (x :: ·) (range_pick r)
theorem mid_perm {α : Type} (l : List α) (p : Nat) (x : α) : (l.take p ++ x :: l.drop p).Perm (x :: l) :=
  List.perm_middle.trans (by rw [List.take_append_drop])
section
variable {P : Program} {w : World} {A : Around} {E : Value → Shared → Prop} {s : Shared} {h : Heap} {a : Addr} {ms : List Mem} {es : Array (Int × Value)} {ep : Nat} {t : SetTable} {o : Obj}
theorem ents_all (he : es.toList = ms.map (ent P w)) (i : Nat) : es[i]? = (ms[i]?).map (ent P w) := by
  rw [← Array.getElem?_toList, he, List.getElem?_map]
/-- the members in another order -/
theorem reorder (he : es.toList = ms.map (ent P w)) {order : Array Nat} (hp : order.toList.Perm (List.range ms.length)) :
    ∃ ms' : List Mem, ms'.Perm ms ∧ (order.filterMap (es[·]?)).toList = ms'.map (ent P w) ∧ hashes P w ms' = order.toList.map fun i => (es.map (·.1)).getD i 0 := by
  have inr : ∀ i ∈ order.toList, i < ms.length := fun i hi => List.mem_range.mp (hp.mem_iff.mp hi)
  refine ⟨order.toList.filterMap (fun i => ms[i]?), ?_, ?_, ?_⟩
  · have q := hp.filterMap (fun i => ms[i]?)
    rw [range_pick] at q
    exact q
  · rw [Array.toList_filterMap, List.map_filterMap]
    exact congrArg (fun f => List.filterMap f order.toList) (funext fun i => ents_all he i)
  · generalize order.toList = l at inr ⊢
    induction l with
    | nil => rfl
    | cons i l ih =>
      have hi := inr i (.head _)
      have e1 : ms[i]? = some ms[i] := List.getElem?_eq_getElem hi
      have e2 : (es.map (·.1)).getD i 0 = hsh P w ms[i] := by
        rw [Array.getD_eq_getD_getElem?, Array.getElem?_map, ents_all he, e1]
        rfl
      rw [List.filterMap_cons_some e1, List.map_cons, e2]
      exact congrArg (hsh P w ms[i] :: ·) (ih fun j hj => inr j (.tail _ hj))
theorem says_same {h' : Heap} {m : Mem} (hm : says P w h m) (ho : h.get? a = some o) (hd : o.data = .set es ep t) (sb : Heap.SameBut a h h') : says P w h' m := by
  obtain ⟨u, its, n, hu, hc, hdu, hi⟩ := hm
  refine ⟨u, its, n, (sb.2 m.1 fun z => ?_).trans hu, hc, hdu, hi⟩
  rw [z, ho] at hu
  cases hu
  rw [hd] at hdu
  cases hdu
theorem says_keep {h' : Heap} {m : Mem} (hm : says P w h m) (k : ∀ b u, h.get? b = some u → h'.get? b = some u) : says P w h' m := by
  obtain ⟨u, its, n, hu, r⟩ := hm
  exact ⟨u, its, n, k _ _ hu, r⟩
/-- the table is laid anew -/
theorem relay (ho : s.heap.get? a = some o) (hex : o.ExactSet) (hd : o.data = .set es ep t) (he : es.toList = ms.map (ent P w)) (hs : t.place.size = es.size) (hdm : t.dummies = #[]) (hm : es.size ≤ t.mask)
    (nd : (ms.map Prod.snd).Nodup) (txt : ∀ m ∈ ms, says P w s.heap m) (led : w.params.followText "set-order" = true ∨ t.led = true) (few : ms.length < 64) {wanted M : Nat}
    (hw : SetTable.sizeAbove wanted - 1 = M) (hM : MaskOk M) (h128 : SetTable.sizeAbove wanted ≤ 128) (room : ms.length * 5 < M * 3) {Q : Unit → Shared → Prop}
    (q : ∀ h' ms' es' ep' t', Heap.SameBut a s.heap h' → Laid P w h' a ms' es' ep' t' → ms'.Perm ms → Q () { s with heap := h' }) : wpAny (model P w) A (setRelay a wanted) Q E s := by
  have hl := ents_len he
  have hf : t.fits es.size = true := fits_of hs hdm hm
  obtain ⟨t', order, e1, hp, T, em, el, _, _⟩ := relaid_ok t (hs := es.map (·.1)) (wanted := wanted) hw hM (by rw [Array.size_map]; omega)
  rw [Array.size_map, hl] at hp
  obtain ⟨ms', p1, p2, p3⟩ := reorder he hp
  rw [← p3] at T
  have hz : (order.filterMap (es[·]?)).size = es.size := by rw [ents_len p2, p1.length_eq, hl]
  rw [setRelay_eq]
  refine wpAny_bind (wpAny_setState_of ho hd hf ?_)
  refine wp_if_neg (by rw [sizeLine_eq]; omega) ?_
  try refine wpAny_bind (wpAny_pure ?_)
  rw [e1]
  refine wpAny_bind (wp_if_neg (by rw [hz]; simp) ?_)
  try refine wpAny_bind (wpAny_pure ?_)
  refine wpAny_pure (wpAny_storeSet_of ho hd ?_ (by rw [hz, hl, sizeLine_eq]; omega))
  have sb : Heap.SameBut a s.heap (s.heap.update a (Obj.putSet (order.filterMap (es[·]?)) t')) := Heap.SameBut.update ..
  refine q _ ms' _ (ep + 1) t' sb ⟨⟨_, store_at ho hd, ⟨hex.1, hex.2.1, hex.2.2⟩, rfl⟩, p2, ⟨T, ?_, ?_, ?_, ?_⟩, fun m hmem => says_same (txt m (p1.mem_iff.mp hmem)) ho hd sb⟩ p1
  · exact (p1.map Prod.snd).nodup_iff.mpr nd
  · rw [el]
    exact led
  · rw [p1.length_eq, em]
    exact room
  · rw [p1.length_eq]
    exact few
/-- whether a tuple of texts is hashed by its value: some answer -/
theorem by_value {m : Mem} {Q : Bool → Shared → Prop} (hm : says P w s.heap m) (q : ∀ b, Q b s) : wpAny (model P w) A (hashByValue 8 (.ref m.1)) Q E s := by
  have ty := IsTupleKey.typeIs hm
  obtain ⟨o, its, n, ho, _, hd, hi⟩ := hm
  have all := plain_texts hi
  unfold hashByValue
  refine wpAny_bind (wpAny_specialOf ty F.slot_tuple_hash.lookup ?_)
  show wpAny _ _ (seqItems? (.ref m.1) >>= _) _ _ s
  refine wpAny_bind (wpAny_seqItems ho hd (wpAny_bind ?_))
  show wpAny _ _ (forIn its _ _) _ _ s
  rw [← Array.forIn_toList]
  refine wpAny_forIn_list _ (fun left acc z => acc.1 = none ∧ z = s ∧ ∀ v ∈ left, ∃ y u, v = Value.str y u) _ (fun v left acc z => ?_) (fun acc z => ?_) _ _ ⟨rfl, rfl, all⟩
  · rintro ⟨_, rfl, hall⟩
    obtain ⟨y, u, rfl⟩ := hall v (.head _)
    have e7 : hashByValue 7 (.str y u) = pure false := rfl
    rw [e7]
    refine wpAny_bind (wpAny_pure ?_)
    refine wp_if_pos (by decide) (wpAny_pure ?_)
    exact wpAny_pure (q false)
  · rintro ⟨h1, rfl, _⟩
    obtain ⟨r, u⟩ := acc
    cases h1
    exact wpAny_pure (q true)
theorem tab_plain {t : SetTable} {hs : List Int} (T : TabOk t hs) (b : Bool) : TabOk { t with plain := b } hs := ⟨T.ris, T.dm, T.sz, T.mok, T.bd, T.reach⟩
/-- x is added -/
theorem add (l : Laid P w s.heap a ms es ep t) {x : Mem} (hx : says P w s.heap x) (hu : A.units < cLine) (few : ms.length + 1 < 64) {Q : Bool → Shared → Prop}
    (q : ∀ b h' ms' es' ep' t', Heap.SameBut a s.heap h' → Laid P w h' a ms' es' ep' t' → (x.2 ∈ ms.map Prod.snd → ms' = ms) → (x.2 ∉ ms.map Prod.snd → ms'.Perm (x :: ms)) → Q b { s with heap := h' }) :
    wpAny (model P w) A (setAddHashed a (.ref x.1) (hsh P w x)) Q E s := by
  obtain ⟨o, ho, hex, hd⟩ := l.obj
  have hl := ents_len l.ents
  have room := l.good.room
  have e100 : (100000 : Nat) = 99999 + 1 := rfl
  unfold setAddHashed
  rw [e100, setAddHashedIn_succ]
  refine wpAny_holding (wpAny_bind (wpAny_setState_of ho hd l.fits ?_))
  refine wp_if_neg (by simp [byScan, Value.scannable]) ?_
  try refine wpAny_bind (wpAny_pure ?_)
  refine wpAny_bind (search l hx hu (fun there => ?_) fun F new free full => ?_)
  · exact wpAny_pure (q false s.heap ms es ep t (Heap.SameBut.refl a s.heap) l (fun _ => rfl) fun z => absurd there z)
  · refine wpAny_bind (wpAny_setState_of ho hd l.fits ?_)
    dsimp only
    obtain ⟨w1, w2, w3, w4, w5, w6, _, _, w9⟩ := l.good.tab.put free full
    generalize hpt : t.put (way t.mask (hsh P w x) F) = pt at w1 w3 w4 w5 w6 w9 ⊢
    obtain ⟨t1, p⟩ := pt
    dsimp only at w1 w3 w4 w5 w6 w9 ⊢
    rw [← w1] at w2 w3
    have hin : (SetTable.insertAt es p (hsh P w x, Value.ref x.1)).toList = (ms.take p ++ x :: ms.drop p).map (ent P w) := by
      rw [SetTable.toList_insertAt, l.ents, List.map_append, List.map_cons, List.map_take, List.map_drop]
      rfl
    have hhs : hashes P w (ms.take p ++ x :: ms.drop p) = (hashes P w ms).take p ++ hsh P w x :: (hashes P w ms).drop p := by
      unfold hashes
      rw [List.map_append, List.map_cons, List.map_take, List.map_drop]
    rw [← hhs] at w3
    have pm := mid_perm ms p x
    generalize ms.take p ++ x :: ms.drop p = ms1 at hin w3 pm
    have hl1 : ms1.length = ms.length + 1 := pm.length_eq
    have hz := ents_len hin
    generalize SetTable.insertAt es p (hsh P w x, Value.ref x.1) = es1 at hin hz ⊢
    have nd1 : (ms1.map Prod.snd).Nodup := (pm.map Prod.snd).nodup_iff.mpr (List.nodup_cons.mpr ⟨new, l.good.nd⟩)
    have hfill : t1.fill = ms.length + 1 := by
      rw [w9]
      unfold hashes
      rw [List.length_map]
    have rest : ∀ t2 : SetTable, TabOk t2 (hashes P w ms1) → t2.mask = t.mask → t2.led = t.led → t2.fill = ms.length + 1 → wpAny (model P w) A (do
        storeSet a es1 t2
        if (!false && t2.tooFull) = true then do
            setRelay a (SetTable.grown (es.size + 1))
            pure true
          else pure true) Q E s := by
      intro t2 T2 em el ef
      have sb : Heap.SameBut a s.heap (s.heap.update a (Obj.putSet es1 t2)) := Heap.SameBut.update ..
      have ho1 := store_at (es' := es1) (t' := t2) ho hd
      refine wpAny_bind (wpAny_storeSet_of ho hd ?_ (by rw [hz, hl1, sizeLine_eq]; omega))
      generalize s.heap.update a (Obj.putSet es1 t2) = h1 at sb ho1 ⊢
      have txt1 : ∀ m ∈ ms1, says P w h1 m := fun m hm => by
        rcases List.mem_cons.mp (pm.mem_iff.mp hm) with rfl | hm
        · exact says_same hx ho hd sb
        · exact says_same (l.txt m hm) ho hd sb
      have led1 : w.params.followText "set-order" = true ∨ t2.led = true := by
        rw [el]
        exact l.good.led
      have hs1 : t2.place.size = es1.size := by
        have z := T2.sz
        unfold hashes at z
        rw [z, List.length_map, hz]
      by_cases full : t2.tooFull = true
      · refine wp_if_pos (by simp [full]) (wpAny_bind ?_)
        have hfull : (ms.length + 1) * 5 ≥ t2.mask * 3 := by
          unfold SetTable.tooFull at full
          rw [decide_eq_true_eq, ef] at full
          exact full
        have next : ∀ M, SetTable.sizeAbove (SetTable.grown (es.size + 1)) - 1 = M → MaskOk M → SetTable.sizeAbove (SetTable.grown (es.size + 1)) ≤ 128 → (ms.length + 1) * 5 < M * 3 →
            wpAny (model P w) A (setRelay a (SetTable.grown (es.size + 1))) (fun _ z => wpAny (model P w) A (pure true) Q E z) E { s with heap := h1 } := fun M c1 c2 c3 c4 => by
          refine relay (s := { s with heap := h1 }) ho1 ⟨hex.1, hex.2.1, hex.2.2⟩ rfl hin hs1 T2.dm (by rw [hz, hl1, em]; omega) nd1 txt1 led1 (by rw [hl1]; exact few) c1 c2 c3 (by rw [hl1]; exact c4) ?_
          intro h2 ms2 es2 ep2 t3 sb2 l2 pm2
          exact wpAny_pure (q true h2 ms2 es2 ep2 t3 (sb.trans sb2) l2 (fun z => absurd z new) fun _ => pm2.trans pm)
        have two : ms.length = 4 ∨ ms.length = 18 := by
          rcases l.good.tab.mok with e | e | e <;> rw [em, e] at hfull <;> rw [e] at room <;> omega
        rcases two with e | e
        · have en : es.size + 1 = 5 := by omega
          exact next 31 (by rw [en]; decide +kernel) (.inr (.inl rfl)) (by rw [en]; decide +kernel) (by omega)
        · have en : es.size + 1 = 19 := by omega
          exact next 127 (by rw [en]; decide +kernel) (.inr (.inr rfl)) (by rw [en]; decide +kernel) (by omega)
      · refine wp_if_neg (by simp [full]) (wpAny_pure (q true h1 ms1 es1 (ep + 1) t2 sb ⟨⟨_, ho1, ⟨hex.1, hex.2.1, hex.2.2⟩, rfl⟩, hin, ⟨T2, nd1, led1, ?_, by rw [hl1]; exact few⟩, txt1⟩ (fun z => absurd z new) fun _ => pm))
        unfold SetTable.tooFull at full
        rw [decide_eq_true_eq, ef] at full
        rw [hl1]
        omega
    have both : ∀ b : Bool, wpAny (model P w) A (do
        storeSet a es1 (if b = true then t1 else { t1 with plain := false })
        if (!false && (if b = true then t1 else { t1 with plain := false }).tooFull) = true then do
            setRelay a (SetTable.grown (es.size + 1))
            pure true
          else pure true) Q E s := fun b => by
      cases b with
      | true => exact rest t1 w3 w4 w5 hfill
      | false => exact rest { t1 with plain := false } (tab_plain w3 false) w4 w5 hfill
    by_cases pl : t1.plain = true
    · first
        | refine wpAny_bind (wp_if_pos pl (by_value hx fun b => ?_))
        | refine wp_if_pos pl (wpAny_bind (by_value hx fun b => ?_))
      exact both b
    · first
        | refine wpAny_bind (wp_if_neg pl (wpAny_pure ?_))
        | refine wp_if_neg pl (wpAny_bind (wpAny_pure ?_))
      exact both true
end
end TX
end
section
set_option Elab.async false
set_option linter.all false
set_option autoImplicit false
set_option maxRecDepth 100000
set_option maxHeartbeats 3200000
namespace TX
open PySem PySem.Spec PyProof.Rows L2
/-- ms are the members of ks, each text row once -/
structure Has (ks ms : List Mem) : Prop where
  sub : ∀ m ∈ ms, m ∈ ks
  all : ∀ m ∈ ks, m.2 ∈ ms.map Prod.snd
  len : ms.length ≤ ks.length
theorem Has.nil : Has [] [] := ⟨(fun _ m => nomatch m), (fun _ m => nomatch m), Nat.le_refl _⟩
theorem Has.old {ks ms : List Mem} {x : Mem} (g : Has ks ms) (hx : x.2 ∈ ms.map Prod.snd) : Has (ks ++ [x]) ms := by
  refine ⟨fun m hm => List.mem_append_left _ (g.sub m hm), fun m hm => ?_, by rw [List.length_append]; exact Nat.le_succ_of_le g.len⟩
  rcases List.mem_append.mp hm with z | z
  · exact g.all m z
  · rw [List.mem_singleton.mp z]
    exact hx
theorem Has.new {ks ms ms' : List Mem} {x : Mem} (g : Has ks ms) (pm : ms'.Perm (x :: ms)) : Has (ks ++ [x]) ms' := by
  refine ⟨fun m hm => ?_, fun m hm => (pm.map Prod.snd).mem_iff.mpr ?_, by rw [pm.length_eq, List.length_append]; exact Nat.succ_le_succ g.len⟩
  · rcases List.mem_cons.mp (pm.mem_iff.mp hm) with rfl | z
    · exact List.mem_append_right _ (.head _)
    · exact List.mem_append_left _ (g.sub m z)
  · rcases List.mem_append.mp hm with z | z
    · exact .tail _ (g.all m z)
    · rw [List.mem_singleton.mp z]
      exact .head _
def Keeps (h h' : Heap) : Prop := ∀ b u, h.get? b = some u → h'.get? b = some u
section
variable {P : Program} {w : World} {A : Around} {E : Value → Shared → Prop} {s : Shared}
theorem Laid.keep {h h' : Heap} {a : Addr} {ms : List Mem} {es : Array (Int × Value)} {ep : Nat} {t : SetTable} (l : Laid P w h a ms es ep t) (ka : ∀ u, h.get? a = some u → h'.get? a = some u) (kt : ∀ m ∈ ms, says P w h' m) : Laid P w h' a ms es ep t := by
  obtain ⟨u, hu, r⟩ := l.obj
  exact ⟨⟨u, ka u hu, r⟩, l.ents, l.good, kt⟩
abbrev freshTab (w : World) : SetTable := .fresh 0 0 (!w.params.followText "set-order")
abbrev freshSet (w : World) : Obj := { cls := .type "set", dict := none, data := .set #[] 0 (freshTab w) }
theorem Laid.fresh {h : Heap} {a : Addr} (ho : h.get? a = some (freshSet w)) : Laid P w h a [] #[] 0 (freshTab w) := by
  refine ⟨⟨_, ho, ⟨rfl, rfl, rfl⟩, rfl⟩, rfl, ⟨⟨.nil, rfl, rfl, .inl rfl, fun _ m => (by cases m), fun _ _ _ e => (by cases e)⟩, .nil, ?_, (by show 0 < 21; decide), (by show 0 < 64; decide)⟩, (fun _ m => nomatch m)⟩
  show _ ∨ (!w.params.followText "set-order") = true
  cases w.params.followText "set-order"
  · exact .inr rfl
  · exact .inl rfl
/-- the loop of set.update -/
theorem update_loop {I : Addr} {fp wr : List Addr} {G : Array GenState → Array GenState → Prop} {n : Nat} {Pv : Nat → Value → Prop} {St : Nat → Shared → Prop} {R : Result → Shared → Prop}
    (W : WalksS P w A.in1 I fp wr G n Pv St) {S : Addr} (hS : S ∉ fp) {ks : List Mem} (hn : ks.length = n) (few : n < 64) (val : ∀ i v, Pv i v → ∃ m, ks[i]? = some m ∧ v = .ref m.1)
    {h0 : Heap} (txt : ∀ m ∈ ks, says P w h0 m) (hS0 : h0.get? S = none) (hw0 : ∀ b ∈ wr, h0.get? b = none) (hu : A.in1.units < cLine) (left : Nat) :
    ∀ (i : Nat) (s : Shared), i + left = n → St i s → Keeps h0 s.heap → (∃ ms es ep t, Laid P w s.heap S ms es ep t ∧ Has (ks.take i) ms) →
      (∀ s' ms es ep t, Moved (S :: wr) G s s' → Laid P w s'.heap S ms es ep t → Has ks ms → Keeps h0 s'.heap → R (.ok (.ret .none)) s') →
      codeAny (model P w) A (.builtin "set.update.loop" ⟨[.ref S, .ref I], []⟩) R s := by
  have moves : ∀ {s s' : Shared}, Moved wr G s s' → Keeps h0 s.heap → Keeps h0 s'.heap := fun mv kp b u e =>
    mv.heap b u (fun hb => by rw [hw0 b hb] at e; cases e) (kp b u e)
  have wide : ∀ b ∈ wr, b ∈ S :: wr := fun b hb => .tail _ hb
  have away : S ∉ wr := fun z => hS (W.sub _ z)
  induction left with
  | zero =>
    intro i s hi st kp ⟨ms, es, ep, t, l, g⟩ k
    have ei : i = n := hi
    subst ei
    refine codeAny_builtin F.entry_set_update_loop ?_
    rw [Around.under_plainId F.plain_set_update_loop _]
    show wpAny _ A.in1 (pyNext (.ref I) >>= _) _ _ s
    refine wpAny_bind (W.done s _ _ st fun s' mv => ?_)
    rw [← hn, List.take_length] at g
    have kp' := moves mv kp
    show wpAny _ A.in1 (ret Value.none) _ _ s'
    exact wpAny_pure (k s' ms es ep t (mv.mono wide) (l.keep (fun u e => mv.heap S u away e) fun m hm => says_keep (txt m (g.sub m hm)) kp') g kp')
  | succ left ih =>
    intro i s hi st kp ⟨ms, es, ep, t, l, g⟩ k
    have lt : i < n := by omega
    refine codeAny_builtin F.entry_set_update_loop ?_
    rw [Around.under_plainId F.plain_set_update_loop _]
    show wpAny _ A.in1 (pyNext (.ref I) >>= _) _ _ s
    refine wpAny_bind (W.item i s _ _ lt st fun v s' hv st' mv => ?_)
    obtain ⟨x, hx, rfl⟩ := val i v hv
    have kp' := moves mv kp
    have l' : Laid P w s'.heap S ms es ep t := l.keep (fun u e => mv.heap S u away e) fun m hm => says_keep (txt m (List.mem_of_mem_take (g.sub m hm))) kp'
    have sx := says_keep (txt x (List.mem_of_getElem? hx)) kp'
    have len := g.len
    rw [List.length_take] at len
    show wpAny _ A.in1 (holding [Value.ref x.1] (setAdd S (.ref x.1)) >>= _) _ _ s'
    refine wpAny_bind (wpAny_holding ?_)
    unfold setAdd
    refine wpAny_holding (wpAny_bind (wpAny_pyHash_tuple hu sx ?_))
    refine add (s := { s' with toks := s'.toks + (x.2.length + 1) }) l' sx hu (by omega) fun b h' ms' es' ep' t' sb l2 c1 c2 => ?_
    have et : ks.take (i + 1) = ks.take i ++ [x] := by
      rw [List.take_add_one, hx]
      rfl
    have g2 : Has (ks.take (i + 1)) ms' := by
      rw [et]
      by_cases c : x.2 ∈ ms.map Prod.snd
      · rw [c1 c]
        exact g.old c
      · exact g.new (c2 c)
    have kp2 : Keeps h0 h' := fun b u e => (sb.2 b (fun z => by rw [z, hS0] at e; cases e)).trans (kp' b u e)
    refine wpAny_pure ⟨plainId_quiet F.plain_set_update_loop _, ih (i + 1) _ (by omega) (W.frame _ s' _ _ st' (Nat.le_add_right _ _) fun b hb u e => ?_) kp2 ⟨ms', es', ep', t', l2, g2⟩ fun s'' ms2 es2 ep2 t2 mv2 l3 g3 kp3 => ?_⟩
    · rw [sb.2 b fun z => hS (z ▸ hb)]
      exact e
    · refine k s'' ms2 es2 ep2 t2 (Moved.trans W.gtrans ((mv.mono wide).then_heap (Nat.le_add_right _ _) fun b u hb e => ?_) mv2) l3 g3 kp3
      rw [sb.2 b fun z => hb (z ▸ .head _)]
      exact e
end
end TX
end
section
set_option Elab.async false
set_option linter.all false
set_option autoImplicit false
set_option maxRecDepth 100000
set_option maxHeartbeats 3200000
namespace TX
open PySem PySem.Spec PyProof.Rows L2
section
variable {P : Program} {w : World} {A : Around} {E : Value → Shared → Prop} {s : Shared}
/-- set(xs), xs a list of tuples of texts -/
theorem call_set {l : Addr} {items : Array Value} {ks : List Mem} {Q : Value → Shared → Prop} (hh : A.handled = none) (hl : s.heap.IsList l items) (hit : items.toList = ks.map fun m => Value.ref m.1)
    (txt : ∀ m ∈ ks, says P w s.heap m) (few : ks.length < 64) (hu : A.units + 3 < cLine)
    (q : ∀ (h' : Heap) (tk : Nat) ms es ep t, Laid P w h' s.heap.objs.size ms es ep t → Has ks ms → Keeps s.heap h' → Q (.ref s.heap.objs.size) { s with heap := h', toks := tk }) :
    wpAny (model P w) A (call (.type "set") [.ref l]) Q E s := by
  have size : items.size = ks.length := by rw [← Array.length_toList, hit, List.length_map]
  have blank : ∀ b, s.heap.objs.size ≤ b → s.heap.get? b = none := fun b hb => by
    cases e : s.heap.get? b with
    | none => rfl
    | some o => exact absurd (Heap.lt_size e) (Nat.not_lt_of_le hb)
  have value : ∀ (i : Nat) (v : Value), items[i]? = some v → ∃ m, ks[i]? = some m ∧ v = .ref m.1 := fun i v hv => by
    rw [← Array.getElem?_toList, hit, List.getElem?_map] at hv
    obtain ⟨m, hm, rfl⟩ := Option.map_eq_some_iff.mp hv
    exact ⟨m, hm, rfl⟩
  obtain ⟨c0, tl, hmro⟩ := F.called_set.mro
  have hmade := F.called_set.made
  have hsub := F.called_set.sub
  refine wpAny_call (codeAny_of_tree ?_)
  show wpAny _ _ (callAny (.type "set") _) _ _ _
  refine wpAny_pure ⟨Code.quiet_builtin _ (by decide +kernel), codeAny_builtin F.entry_type_call ?_⟩
  rw [Around.under_plain (weight_type_call_type "set" [.ref l] []) rfl]
  have n1 := F.called_set.notType
  have n2 := F.called_set.canCreate
  have n3 := F.typeCall_set_1 (.ref l)
  repeat (any_goals (first | assumption | wp_step))
  refine codeAny_mono (code_set_led1 (.ref l) (E := E) (Q₁ := fun v z => v = .ref s.heap.objs.size ∧ z = { s with heap := s.heap.push (freshSet w) }) ⟨rfl, rfl⟩) fun r s₁ hr => ?_
  have ok1 : ∀ v, r = .ok (.ret v) → v = .ref s.heap.objs.size ∧ s₁ = { s with heap := s.heap.push (freshSet w) } := fun v e => by
    rw [e] at hr
    exact hr
  cases r with
  | error e => exact hr
  | ok fl =>
   cases fl with
   | ret v =>
    obtain ⟨rfl, rfl⟩ := ok1 v rfl
    have atS : (s.heap.push (freshSet w)).get? s.heap.objs.size = some (freshSet w) := Heap.get?_push_size _ rfl
    have tyS : Shared.TypeIs { s with heap := s.heap.push (freshSet w) } (.ref s.heap.objs.size) "set" := ⟨_, atS, rfl⟩
    have n4 := F.called_set.init.lookup
    have n5 := F.called_set.init.bind (.ref s.heap.objs.size)
    repeat (any_goals (first | assumption | wp_step))
    refine codeAny_mono (codeAny_call_builtin (R := wants (fun r z => r = .none ∧ ∃ h' tk ms es ep t, z = { s with heap := h', toks := tk } ∧ Laid P w h' s.heap.objs.size ms es ep t ∧ Has ks ms ∧ Keeps s.heap h') E) F.called_set.init.plain F.entry_set_init (check_set_init_1 tyS ?_)) fun r₂ s₂ hr₂ => ?_
    · obtain ⟨⟨oc, od, odat, osl⟩, ho, hc, nl, hd⟩ := hl
      dsimp only at hc hd
      subst hc
      subst hd
      have hlt : l < s.heap.objs.size := Heap.lt_size ho
      have hl1 : (s.heap.push (freshSet w)).IsList l items := ⟨_, Heap.get?_push_of_some _ ho, rfl, nl, rfl⟩
      have gl := Heap.get?_push_of_some (freshSet w) ho
      have b1 := F.sub_list_set
      have b2 := F.sub_list_frozenset
      have b3 : (Value.type "list" == Value.type "dict") = false := by decide
      unfold Builtin.«set.__init__» noKeywords Builtin.Frozenset.updateFrom
      generalize hPI : pyIter = PI
      wp_walk
      subst hPI
      refine wpAny_pyIter_list hl1 (wpAny_bind (wpAny_runValue ?_))
      have hz : (s.heap.push (freshSet w)).objs.size = s.heap.objs.size + 1 := Heap.size_push ..
      have h3 : A.in1.in1.in1.handled = none := by simp [hh]
      have neI : l ≠ (s.heap.push (freshSet w)).objs.size := by
        rw [hz]
        exact Nat.ne_of_lt (Nat.lt_succ_of_lt hlt)
      have hS : s.heap.objs.size ∉ [(s.heap.push (freshSet w)).objs.size, l] := by
        rw [hz]
        simp only [List.mem_cons, List.not_mem_nil, or_false, not_or]
        exact ⟨Nat.ne_of_lt (Nat.lt_succ_self _), Nat.ne_of_gt hlt⟩
      have atS2 := Heap.get?_push_of_some { cls := .type "list_iterator", data := .fields #[.ref l, .int 0 0] } atS
      refine update_loop (P := P) (w := w) ((Walks.list h3 _ l neI items).toS) hS size.symm (by rw [size]; exact few) value txt (blank _ (Nat.le_refl _)) (fun b hb => blank b ?_) hu items.size 0 _ (Nat.zero_add _)
        ⟨⟨_, Heap.get?_push_size _ rfl, rfl, rfl⟩, hl1.push _⟩ (fun b u e => Heap.get?_push_of_some _ (Heap.get?_push_of_some _ e)) ⟨[], #[], 0, _, Laid.fresh atS2, Has.nil⟩ ?_
      · rw [List.mem_singleton.mp hb, hz]
        exact Nat.le_succ _
      · intro s' ms es ep t mv lay g kp
        obtain ⟨h', g2, d', tk', os'⟩ := s'
        have eg : g2 = s.gens := mv.gens
        have ed : d' = s.drawn := mv.drawn
        have eo : os' = s.os := mv.os
        subst eg
        subst ed
        subst eo
        show wpAny _ _ _ _ _ _
        refine wpAny_pure ?_
        show wpAny _ _ (ret Value.none) _ _ _
        exact wpAny_pure ⟨rfl, h', tk', ms, es, ep, t, rfl, lay, g, kp⟩
    · cases r₂ with
      | error e => exact hr₂
      | ok fl2 =>
        cases fl2 with
        | ret v2 =>
          obtain ⟨rfl, h', tk, ms, es, ep, t, rfl, lay, g, kp⟩ := hr₂
          repeat (any_goals (first | assumption | wp_step))
          exact q _ _ _ _ _ _ lay g kp
        | _ => exact hr₂.elim
   | _ => exact hr.elim
end
end TX
end
section
set_option Elab.async false
set_option linter.all false
set_option autoImplicit false
set_option maxRecDepth 100000
set_option maxHeartbeats 3200000
namespace TX
open PySem PySem.Spec PyProof.Rows L2
abbrev Txt : Type := List PySem.Str
def encT (k : Txt) : PyData := .tuple (k.map .str)
/-- Python's order of tuples of texts -/
def leT : Txt → Txt → Bool := PySem.W.dataLe false encT
theorem leT_total : PySem.W.TotalLe leT := PySem.W.sortLe_total _ false _
theorem alike_strs : ∀ xs ys : Txt, PySem.W.alikeAll (xs.map .str) (ys.map .str) = true
  | [], _ => by simp [PySem.W.alikeAll]
  | _ :: _, [] => by simp [PySem.W.alikeAll]
  | x :: xs, y :: ys => by
    show PySem.W.alikeAll (.str x :: xs.map .str) (.str y :: ys.map .str) = true
    rw [PySem.W.alikeAll, alike_strs xs ys]
    simp [PySem.W.alike]
theorem alikeT (x y : Txt) : PySem.W.alike (encT x) (encT y) = true := by
  show PySem.W.alike (.tuple (x.map .str)) (.tuple (y.map .str)) = true
  rw [PySem.W.alike]
  exact alike_strs x y
theorem depthT : ∀ k : Txt, PyData.depthAll (k.map .str) = 0
  | [] => by simp [PyData.depthAll]
  | x :: xs => by
    show PyData.depthAll (.str x :: xs.map .str) = 0
    rw [PyData.depthAll, depthT xs]
    simp [PyData.depth]
theorem depth_enc (k : Txt) : (encT k).depth ≤ 1 := by
  unfold encT
  rw [PyData.depth, depthT]
  exact Nat.le_refl _
theorem toks_inj : ∀ x y : Txt, PySem.W.keyToksAll (x.map .str) = PySem.W.keyToksAll (y.map .str) → x = y
  | [], [], _ => rfl
  | [], y :: ys, h => by
    have h' : PySem.W.keyToksAll [] = PySem.W.keyToksAll (.str y :: ys.map .str) := h
    rw [PySem.W.toks_all_cons, PySem.W.keyToksAll] at h'
    simp at h'
  | x :: xs, [], h => by
    have h' : PySem.W.keyToksAll (.str x :: xs.map .str) = PySem.W.keyToksAll [] := h
    rw [PySem.W.toks_all_cons, PySem.W.keyToksAll] at h'
    simp at h'
  | x :: xs, y :: ys, h => by
    have h' : PySem.W.keyToksAll (.str x :: xs.map .str) = PySem.W.keyToksAll (.str y :: ys.map .str) := h
    rw [PySem.W.toks_all_cons, PySem.W.toks_all_cons] at h'
    have e1 : PySem.W.keyToks (.str x) = [Sum.inr x.cps.toList] := by rw [PySem.W.keyToks]
    have e2 : PySem.W.keyToks (.str y) = [Sum.inr y.cps.toList] := by rw [PySem.W.keyToks]
    rw [e1, e2] at h'
    simp only [List.cons_append, List.nil_append, List.cons.injEq, Sum.inr.injEq, true_and] at h'
    rw [PySem.W.str_of_cps h'.1, toks_inj xs ys h'.2]
theorem leT_anti (x y : Txt) (h1 : leT x y = true) (h2 : leT y x = true) : x = y := by
  have h1' : (!PySem.W.dataLt (encT y) (encT x)) = true := h1
  have h2' : (!PySem.W.dataLt (encT x) (encT y)) = true := h2
  rw [Bool.not_eq_true'] at h1' h2'
  have e : PySem.W.keyToks (encT x) = PySem.W.keyToks (encT y) := (listOrd _).total _ _ h2' h1'
  unfold encT at e
  rw [PySem.W.keyToks, PySem.W.keyToks] at e
  first
    | exact toks_inj x y e
    | (simp only [List.cons.injEq, true_and] at e; exact toks_inj x y e)
/-- es: the members of ks, each once, in order -/
structure Srt (ks es : List Txt) : Prop where
  pw : es.Pairwise (fun x y => leT x y = true)
  nd : es.Nodup
  mem : ∀ k, k ∈ es ↔ k ∈ ks
theorem Srt.one {ks ks' es es' : List Txt} (h : Srt ks es) (h' : Srt ks' es') (e : ∀ k, k ∈ ks ↔ k ∈ ks') : es = es' := by
  have pm : es.Perm es' := (List.perm_ext_iff_of_nodup h.nd h'.nd).mpr fun k => (h.mem k).trans ((e k).trans (h'.mem k).symm)
  have f1 := PySem.W.sort_unique leT_total h.pw (l := es) fun _ => rfl
  have f2 : es'.mergeSort leT = es' := (PySem.W.sort_unique leT_total h'.pw (l := es') fun _ => rfl).symm
  have cls : ∀ c : Txt, es.filter (PySem.W.sameRank leT c) = es'.filter (PySem.W.sameRank leT c) := fun c => by
    have one : ∀ l : List Txt, l.Nodup → l.filter (PySem.W.sameRank leT c) = if c ∈ l then [c] else [] := by
      intro l
      induction l with
      | nil => exact fun _ => rfl
      | cons x r ih =>
        intro nd
        obtain ⟨n1, n2⟩ := List.nodup_cons.mp nd
        by_cases z : c = x
        · subst z
          rw [List.filter_cons_of_pos (PySem.W.sameRank_self leT_total c), ih n2, if_neg n1, if_pos (.head _)]
        · have ne : ¬ PySem.W.sameRank leT c x = true := fun q => by
            unfold PySem.W.sameRank at q
            rw [Bool.and_eq_true] at q
            exact z (leT_anti _ _ q.1 q.2)
          rw [List.filter_cons_of_neg ne, ih n2]
          by_cases m : c ∈ r
          · rw [if_pos m, if_pos (.tail _ m)]
          · rw [if_neg m, if_neg fun q => by
              rcases List.mem_cons.mp q with q | q
              · exact z q
              · exact m q]
    rw [one es h.nd, one es' h'.nd]
    by_cases m : c ∈ es
    · rw [if_pos m, if_pos (pm.mem_iff.mp m)]
    · rw [if_neg m, if_neg fun q => m (pm.mem_iff.mpr q)]
  exact PySem.W.sort_one leT_total es es' h.pw h'.pw cls
section
variable {P : Program} {w : World} {A : Around} {E : Value → Shared → Prop} {s : Shared}
theorem reads_txt {h : Heap} {m : Mem} (hm : says P w h m) : Reads h (.ref m.1) (encT m.2) [] := by
  obtain ⟨o, its, n, ho, hc, hd, hi⟩ := hm
  have key : ∀ {k : Txt} {vs : List Value}, ItemsAre (PySem.strKind P w) k vs → ReadsAll h vs (k.map .str) [] := fun {k vs} hi => by
    induction hi with
    | nil => exact .nil
    | cons h0 _ ih =>
      obtain ⟨u, rfl⟩ := Value.isStrOf_shape h0
      exact .cons (as := []) (bs := []) (.str _ u) ih
  exact .tuple ho hc hd (key hi)
theorem each_self : ∀ ms : List Mem, PySem.W.EachIs (fun v (m : Mem) => v = Value.ref m.1) (ms.map fun m => Value.ref m.1) ms
  | [] => .nil
  | _ :: r => .cons rfl (each_self r)
theorem each_reads {h : Heap} {b : Addr} : ∀ {ms : List Mem}, (∀ m ∈ ms, says P w h m) → PySem.W.EachIs (fun v (m : Mem) => ∃ as, Reads h v (encT m.2) as ∧ b ∉ as) (ms.map fun m => Value.ref m.1) ms
  | [], _ => .nil
  | m :: r, k => .cons ⟨[], reads_txt (k m (.head _)), fun z => nomatch z⟩ (each_reads fun x hx => k x (.tail _ hx))
theorem each_out : ∀ {vs : List Value} {ms : List Mem}, PySem.W.EachIs (fun v (m : Mem) => v = Value.ref m.1) vs ms → vs = ms.map fun m => Value.ref m.1
  | _, _, .nil => rfl
  | _, _, .cons e t => by rw [List.map_cons, e, each_out t]
/-- sorted(s), s such a set -/
theorem sorted_set {a : Addr} {ms : List Mem} {es : Array (Int × Value)} {ep : Nat} {t : SetTable} {Q : Value → Shared → Prop} (l : Laid P w s.heap a ms es ep t) (hh : A.handled = none) (hne : ∀ m ∈ ms, m.2 ≠ []) (hu : A.units + 10 < cLine)
    (q : ∀ s' p (out : Array Value) (c : Nat) (ms' : List Mem), Keeps s.heap s'.heap → s'.gens = s.gens → s'.os = s.os → s.heap.objs.size ≤ p → s'.heap.get? p = some (seqObj "list" out c) →
      out.toList = ms'.map (fun m => Value.ref m.1) → ms'.Perm ms → (ms'.map Prod.snd).Pairwise (fun x y => leT x y = true) → Q (.ref p) s') :
    wpAny (model P w) A (call (.builtin "sorted") [.ref a]) Q E s := by
  obtain ⟨o, ho, hex, hd⟩ := l.obj
  have few := l.good.few
  have hz := ents_len l.ents
  refine Calls.call_function_entry kind_sorted plain_sorted entry_sorted (args_sorted1 _) ?_
  unfold Builtin.«sorted»
  refine wpAny_bind (m := checkCount "sorted" 1 1 _) (wpAny_pure ?_)
  refine wpAny_bind (collect_set (A := A.in1) hh ⟨o, ho, hex.1, hd⟩ l.fits (by unfold scanBound; omega) l.good.tab.ris l.good.led fun s1 vs k1 z1 g1 o1 pm => ?_)
  have hes : es.toList.map (·.2) = ms.map fun m => Value.ref m.1 := by
    rw [l.ents, List.map_map]
    rfl
  rw [hes] at pm
  obtain ⟨m1, hv, pm1⟩ : ∃ m1 : List Mem, vs = m1.map (fun m => Value.ref m.1) ∧ m1.Perm ms := Lo.perm_map pm
  have n1 : m1.length = ms.length := pm1.length_eq
  have nv : vs.length = ms.length := by rw [hv, List.length_map, n1]
  subst hv
  refine wpAny_bind (wpAny_newList ?_ (by rw [sizeLine_eq]; omega))
  have hoL : (s1.heap.push (seqObj "list" (m1.map fun m => Value.ref m.1).toArray 0)).get? s1.heap.objs.size = some (seqObj "list" (m1.map fun m => Value.ref m.1).toArray 0) := Heap.get?_push_size _ rfl
  have kL : Keeps s.heap (s1.heap.push (seqObj "list" (m1.map fun m => Value.ref m.1).toArray 0)) := fun b u e => Heap.get?_push_of_some _ (k1 b u e)
  have tx : ∀ m ∈ m1, says P w (s1.heap.push (seqObj "list" (m1.map fun m => Value.ref m.1).toArray 0)) m := fun m hm => says_keep (l.txt m (pm1.mem_iff.mp hm)) kL
  refine wpAny_bind (wpAny_holding (PySem.W.list_sort_data (s := { s1 with heap := s1.heap.push (seqObj "list" (m1.map fun m => Value.ref m.1).toArray 0) }) (R := fun v (m : Mem) => v = Value.ref m.1) (enc := fun m : Mem => encT m.2) (bs := m1) hoL (each_self m1) (each_reads (P := P) (w := w) tx)
    (PySem.W.AllAlike.of fun m m' => alikeT m.2 m'.2) (.inl fun d hd => ?_) (by rw [sizeLine_eq]; omega) (fun m _ => ?_) fun out hlen heach => ?_))
  · obtain ⟨m, hm, rfl⟩ := List.mem_map.mp hd
    have ne := hne m (pm1.mem_iff.mp hm)
    show ∃ x r, PyData.tuple (m.2.map .str) = .tuple (x :: r)
    cases e : m.2 with
    | nil => exact absurd e ne
    | cons x r => exact ⟨_, _, rfl⟩
  · have dp := depth_enc m.2
    show A.units + 1 + 1 + (encT m.2).depth < cLine
    omega
  · obtain ⟨c, hc⟩ := sortedHeap_at (vs := m1.map fun m => Value.ref m.1) (out := out.toArray) hoL
    refine wpAny_pure ⟨_, rfl, q _ s1.heap.objs.size out.toArray c (m1.mergeSort (PySem.W.dataLe false fun m : Mem => encT m.2)) (fun b u e => ?_) g1 o1 z1 hc (each_out heach) ((List.mergeSort_perm _ _).trans pm1) ?_⟩
    · have lt := Heap.lt_size (k1 b u e)
      show (sortedHeap (s1.heap.push (seqObj "list" (m1.map fun m => Value.ref m.1).toArray 0)) s1.heap.objs.size (m1.map fun m => Value.ref m.1) out.toArray).get? b = some u
      rw [sortedHeap_old (Nat.ne_of_lt lt) (by rw [size_push']; exact Nat.lt_succ_of_lt lt)]
      exact kL b u e
    · rw [List.pairwise_map]
      exact PySem.W.sort_pairwise (PySem.W.sortLe_total _ false _) m1
end
end TX
end
section
set_option Elab.async false
set_option linter.all false
set_option autoImplicit false
set_option maxRecDepth 100000
set_option maxHeartbeats 1000000
namespace TX
open PySem PySem.Spec PyProof.Rows L2
section
variable {P : Program} {w : World}
/-- a set object, told without its members' texts -/
def Bare (P : Program) (w : World) (h : Heap) (a : Addr) (ms : List Mem) : Prop :=
  ∃ (es : Array (Int × Value)) (ep : Nat) (t : SetTable), (∃ o, h.get? a = some o ∧ o.ExactSet ∧ o.data = .set es ep t) ∧ es.toList = ms.map (ent P w) ∧ Good P w ms t
theorem Bare.full {h : Heap} {a : Addr} {ms : List Mem} (b : Bare P w h a ms) (txt : ∀ m ∈ ms, says P w h m) : ∃ es ep t, Laid P w h a ms es ep t :=
  let ⟨es, ep, t, o, e, g⟩ := b
  ⟨es, ep, t, o, e, g, txt⟩
theorem Laid.bare {h : Heap} {a : Addr} {ms : List Mem} {es : Array (Int × Value)} {ep : Nat} {t : SetTable} (l : Laid P w h a ms es ep t) : Bare P w h a ms := ⟨es, ep, t, l.obj, l.ents, l.good⟩
def setO (P : Program) (w : World) (ms : List Mem) (a : Addr) : HO := .ext fun h => Bare P w h a ms
theorem Bare.ok {H : Hp} {h : Heap} {a : Addr} {ms : List Mem} (b : Bare P w h a ms) : ObjOk P w H h a (setO P w ms a) := by
  obtain ⟨_, _, _, ⟨o, ho, _⟩, _⟩ := id b
  refine ⟨b, ⟨o, ho⟩, fun h1 h2 p k => ?_⟩
  obtain ⟨es, ep, t, ⟨o', ho', r⟩, q⟩ : Bare P w h1 a ms := p
  exact ⟨es, ep, t, ⟨o', k o' ho', r⟩, q⟩
theorem items_txt : ∀ {k : Txt} {us : List Value}, Vals (k.map V.str) us → ItemsAre (PySem.strKind P w) k us
  | [], _, .nil => .nil
  | z :: k, _, .cons r t => by
    obtain ⟨u, rfl⟩ := r
    refine .cons ?_ (items_txt t)
    show Value.isStrOf z (.str z u) = true
    simp [Value.isStrOf]
theorem refs_eq : ∀ {ks : List Mem} {us : List Value}, Vals (ks.map fun m => V.ref m.1) us → us = ks.map fun m => Value.ref m.1
  | [], _, .nil => rfl
  | _ :: _, _, .cons r t => by
    cases r
    rw [refs_eq t]
    rfl
theorem refs_vals : ∀ ks : List Mem, Vals (ks.map fun m => V.ref m.1) (ks.map fun m => Value.ref m.1)
  | [] => .nil
  | _ :: ks => .cons rfl (refs_vals ks)
end
section
variable {X : Cx}
theorem inv_says {pins : List (Addr × Obj)} {σ : L2.St} {H : Hp} {s : Shared} {m : Mem} (I : Inv X pins σ H s) (h : SqT X.K H m.1 (m.2.map V.str)) : says X.prog X.w s.heap m := by
  obtain ⟨its, r, ⟨o, ho, hc, n, hd⟩, _⟩ := I.tuple h
  exact ⟨o, its.toArray, n, ho, hc, hd, by simpa using items_txt r⟩
/-- set(xs) -/
def rSetTx (K : PySem.W.Frag) (P : Program) (w : World) : List V → Hp → VK → Prop := fun xs H Q => ∃ (l : Addr) (ks : List Mem), xs = [V.ref l] ∧ SqL K H l (ks.map fun m => V.ref m.1) ∧ (∀ m ∈ ks, SqT K H m.1 (m.2.map V.str)) ∧ ks.length < 64 ∧
  ∀ a ms, H a = none → Has ks ms → (ms.map Prod.snd).Nodup → Q (.ref a) (upd H a (setO P w ms a))
theorem cr_setTx (hc : X.calm = true) (hu : X.A.units + 64 < cLine) : CallR X (.type "set") (rSetTx X.K X.prog X.w) := by
  intro pins s σ H xs us Q I r ⟨l, ks, e, hl, ht, few, q⟩
  subst e
  rw [Vals.ref1 r]
  obtain ⟨its, rv, pl, _⟩ := I.list hl
  refine call_set (P := X.prog) (w := X.w) (ks := ks) (I.ok.hd hc) pl.isList (by simpa using refs_eq rv) (fun m hm => inv_says I (ht m hm)) few (by omega) fun h' tk ms es ep t lay g k => ?_
  have hn : H s.heap.objs.size = none := I.hok.fresh (Nat.le_refl _)
  exact ⟨.ref s.heap.objs.size, upd H s.heap.objs.size (setO X.prog X.w ms s.heap.objs.size), I.laid (t' := tk) k (Nat.le_refl _) lay.bare.ok, rfl, q _ ms hn g lay.good.nd⟩
/-- sorted(such a set) -/
def rSortTx (K : PySem.W.Frag) (P : Program) (w : World) : List V → Hp → VK → Prop := fun vs H Q => ∃ (a : Addr) (ms : List Mem), vs = [V.ref a] ∧ H a = some (setO P w ms a) ∧ (∀ m ∈ ms, SqT K H m.1 (m.2.map V.str) ∧ m.2 ≠ []) ∧
  ∀ (ms' : List Mem) (p : Addr), ms'.Perm ms → (ms'.map Prod.snd).Pairwise (fun x y => leT x y = true) → H p = none → Q (.ref p) (upd H p (.lst (ms'.map fun m => V.ref m.1)))
theorem cr_sortTx (hc : X.calm = true) (hu : X.A.units + 64 < cLine) : CallR X (.builtin "sorted") (rSortTx X.K X.prog X.w) := by
  intro pins s σ H vs us Q I r ⟨a, ms, e, ha, ht, q⟩
  subst e
  rw [Vals.ref1 r]
  have b : Bare X.prog X.w s.heap a ms := (I.hok a _ ha).1
  obtain ⟨es, ep, t, l⟩ := b.full fun m hm => inv_says I (ht m hm).1
  have few := l.good.few
  refine sorted_set l (I.ok.hd hc) (fun m hm => (ht m hm).2) (by omega) fun s' p out c ms' k g o hp hg hout pm pw => ?_
  have n1 : (ms'.map fun m => V.ref m.1).length ≤ sizeLine := by
    rw [List.length_map, pm.length_eq, sizeLine_eq]
    omega
  have hn : H p = none := I.hok.fresh hp
  have hv : Vals (ms'.map fun m => V.ref m.1) out.toList := by
    rw [hout]
    exact refs_vals ms'
  have J : Inv X pins σ (upd H p (.lst (ms'.map fun m => V.ref m.1))) { s with heap := s'.heap, gens := s'.gens, drawn := s'.drawn, toks := s'.toks } :=
    I.call (ch := []) (Un.laid k hp hn) (I.hok.laid k hp ⟨n1, out.toList, c, hv, hg⟩) (by rw [g]; exact I.bare) (fun _ z => nomatch z)
  have es' : s' = { s with heap := s'.heap, gens := s'.gens, drawn := s'.drawn, toks := s'.toks } := by
    obtain ⟨h1, g1, d1, t1, o1⟩ := s'
    cases o
    rfl
  rw [es']
  exact ⟨.ref p, _, J, rfl, q ms' p pm pw hn⟩
end
end TX
end
section
set_option Elab.async false
set_option linter.all false
set_option autoImplicit false
set_option maxRecDepth 100000
set_option maxHeartbeats 1000000
/-! sorted(set(tuples of texts)) -/
namespace Lo
open PySem PySem.Spec PyProof.Rows L2 Evl
abbrev txtD (e : List PySem.Str) : D := .tup (e.map D.str)
theorem RepL.txts {T : Tb} {G : Hp} : ∀ {e : List PySem.Str} {vs : List V}, RepL T G (e.map D.str) vs → vs = e.map V.str
  | [], _, r => r
  | z :: e, _, ⟨v, w, e1, e2, r⟩ => by
    have e2' : v = .str z := e2
    rw [e1, e2', RepL.txts r]
    rfl
theorem RepL.ofTxts {T : Tb} {G : Hp} : ∀ e : List PySem.Str, RepL T G (e.map D.str) (e.map V.str)
  | [] => rfl
  | z :: e => ⟨.str z, _, rfl, rfl, RepL.ofTxts e⟩
section
variable {T : Tb} {b : Bd} {own : List OW} {ds : List (Option SV)} {P : PSv}
theorem txts_rep {G : Hp} : ∀ {es : List (List PySem.Str)} {vs : List V}, RepL T G (es.map txtD) vs → ∃ ks : List TX.Mem, vs = ks.map (fun p => V.ref p.1) ∧ ks.map Prod.snd = es ∧ ∀ p ∈ ks, SqT T.K G p.1 (p.2.map V.str)
  | [], _, r => ⟨[], r, rfl, fun _ h => nomatch h⟩
  | e :: es, _, ⟨v, w, e0, ⟨a, us, ev, hs, hr⟩, h2⟩ => by
    obtain ⟨ks, e1, e2, h3⟩ := txts_rep h2
    have eu := RepL.txts hr
    subst eu
    refine ⟨(a, e) :: ks, by rw [e0, ev, e1]; rfl, by rw [List.map_cons, e2], fun p m => ?_⟩
    rcases List.mem_cons.mp m with rfl | m
    · exact hs
    · exact h3 p m
theorem rep_txts {G : Hp} : ∀ {ks : List TX.Mem}, (∀ p ∈ ks, SqT T.K G p.1 (p.2.map V.str)) → RepL T G ((ks.map Prod.snd).map txtD) (ks.map fun p => V.ref p.1)
  | [], _ => rfl
  | p :: ks, h => ⟨.ref p.1, _, rfl, ⟨p.1, _, rfl, h p (.head _), RepL.ofTxts p.2⟩, rep_txts fun q m => h q (.tail _ m)⟩
theorem we_ssetTx {K : PySem.W.Frag} {pr : Program} {w : World} (hK : T.K = K) {ta : TA}
    (h : WA T b ta own ds fun ss o => ∃ es : List (List PySem.Str), ss = [.d (.lst (es.map txtD))] ∧ es.length < 64 ∧ (∀ e ∈ es, e ≠ []) ∧ ∀ es', TX.Srt es es' → ∀ f : Addr → HO, P (.d (.lst (es'.map txtD))) (o ++ [.ho f])) :
    WE T b (tCB (TX.rSortTx K pr w) (tCons (tCB (TX.rSetTx K pr w) ta) tNil)) own ds P := fun W σ ha sl Q q => by
  subst hK
  refine h W σ ha sl _ fun vs ss o1 W1 ha1 l1 r1 ⟨es, e, h64, hne, p⟩ => ?_
  subst e
  obtain ⟨v, r, rfl, ⟨a, us, rfl, hs, hrr⟩, rfl⟩ := r1
  obtain ⟨ks, rfl, rfl, hks⟩ := txts_rep hrr
  refine ⟨a, ks, rfl, sq_of (ha1.gh _ _ hs), fun p m => ex_t ha1.gh (hks p m), by simpa using h64, fun c ms hc g nd => ?_⟩
  obtain ⟨ha2, l2⟩ := ha1.allocHO (o := .ho (TX.setO pr w ms)) (u := TX.setO pr w ms c) hc fun W' l e g bb n => ⟨g, bb, n, e⟩
  refine ⟨c, ms, rfl, upd_same, fun p m => ⟨ex_t ha2.gh (hks p (g.sub p m)), hne p.2 (List.mem_map.mpr ⟨p, g.sub p m, rfl⟩)⟩, fun ms' t pm hw ht => ?_⟩
  obtain ⟨ha3, l3⟩ := ha2.alloc (o := .lst (ms'.map fun q => V.ref q.1)) ht
  have hin : ∀ q ∈ ms', SqT T.K W1.G q.1 (q.2.map V.str) := fun q m => hks q (g.sub q (pm.subset m))
  refine q _ (.d (.lst ((ms'.map Prod.snd).map txtD))) _ _ ha3 ((l1.trans l2).trans l3) ⟨t, _, rfl, upd_same, RepL.mono l3.g (rep_txts hin)⟩ (p (ms'.map Prod.snd) ⟨hw, (pm.map Prod.snd).nodup_iff.mpr nd, fun k => ⟨fun m => ?_, fun m => ?_⟩⟩ _)
  · obtain ⟨q, hq, rfl⟩ := List.mem_map.mp m
    exact List.mem_map.mpr ⟨q, g.sub q (pm.subset hq), rfl⟩
  · obtain ⟨q, hq, rfl⟩ := List.mem_map.mp m
    exact (pm.map Prod.snd).symm.subset (g.all q hq)
end
end Lo
end
section
set_option Elab.async false
set_option linter.all false
set_option maxRecDepth 100000
set_option maxHeartbeats 1000000
namespace L3
open PySem PySem.Spec PyProof.Rows L2 PySem.W PySem.Calls Lo
def topS (i : Nat) : Stmt := PySem.Challenge.pw_looseorder_k02_stocks_of_nouns.main.body.getD i (.Pass ⟨0, 0, 0, 0⟩)
abbrev s_BadStock___init__ : Stmt := inClass (topS 2) 0
theorem ss_BadStock___init__ : LX.SupS ["self", "what"] (defScope s_BadStock___init__) := ⟨by decide +kernel, rfl, rfl, rfl, by decide +kernel, by decide +kernel, by decide +kernel, rfl, rfl⟩
abbrev s_BadFrame___init__ : Stmt := inClass (topS 3) 0
theorem ss_BadFrame___init__ : LX.SupS ["self", "what"] (defScope s_BadFrame___init__) := ⟨by decide +kernel, rfl, rfl, rfl, by decide +kernel, by decide +kernel, by decide +kernel, rfl, rfl⟩
abbrev s_is_whole : Stmt := topS 6
abbrev N_is_whole : List PySem.Str := ["thing", "low", "high"]
theorem sc_is_whole : FnScope N_is_whole ["thing", "low", "high"] (defScope s_is_whole) := ⟨rfl, rfl, rfl, by decide +kernel, rfl, by decide +kernel, by decide +kernel⟩
abbrev s_is_row : Stmt := topS 7
abbrev N_is_row : List PySem.Str := ["thing", "low", "high"]
theorem sc_is_row : FnScope N_is_row ["thing", "low", "high"] (defScope s_is_row) := ⟨rfl, rfl, rfl, by decide +kernel, rfl, by decide +kernel, by decide +kernel⟩
abbrev s_are_letters : Stmt := topS 8
abbrev N_are_letters : List PySem.Str := ["text", "letter"]
theorem sc_are_letters : FnScope N_are_letters ["text"] (defScope s_are_letters) := ⟨rfl, rfl, rfl, by decide +kernel, rfl, by decide +kernel, by decide +kernel⟩
abbrev s_is_name : Stmt := topS 9
abbrev N_is_name : List PySem.Str := ["thing", "most"]
theorem sc_is_name : FnScope N_is_name ["thing", "most"] (defScope s_is_name) := ⟨rfl, rfl, rfl, by decide +kernel, rfl, by decide +kernel, by decide +kernel⟩
abbrev s_is_part : Stmt := topS 10
abbrev N_is_part : List PySem.Str := ["thing"]
theorem sc_is_part : FnScope N_is_part ["thing"] (defScope s_is_part) := ⟨rfl, rfl, rfl, by decide +kernel, rfl, by decide +kernel, by decide +kernel⟩
abbrev s_is_ending : Stmt := topS 11
abbrev N_is_ending : List PySem.Str := ["thing", "part"]
theorem sc_is_ending : FnScope N_is_ending ["thing"] (defScope s_is_ending) := ⟨rfl, rfl, rfl, by decide +kernel, rfl, by decide +kernel, by decide +kernel⟩
abbrev s_number_rank : Stmt := topS 12
abbrev N_number_rank : List PySem.Str := ["number"]
theorem sc_number_rank : FnScope N_number_rank ["number"] (defScope s_number_rank) := ⟨rfl, rfl, rfl, by decide +kernel, rfl, by decide +kernel, by decide +kernel⟩
abbrev s__checked_table : Stmt := topS 14
abbrev N__checked_table : List PySem.Str := ["table", "last", "row", "role", "one", "many"]
theorem sc__checked_table : FnScope N__checked_table ["table"] (defScope s__checked_table) := ⟨rfl, rfl, rfl, by decide +kernel, rfl, by decide +kernel, by decide +kernel⟩
abbrev s_Stock___init__ : Stmt := inClass (topS 15) 0
abbrev N_Stock___init__ : List PySem.Str := ["self", "name", "table"]
theorem sc_Stock___init__ : FnScope N_Stock___init__ ["self", "name", "table"] (defScope s_Stock___init__) := ⟨rfl, rfl, rfl, by decide +kernel, rfl, by decide +kernel, by decide +kernel⟩
abbrev s_Stock___eq__ : Stmt := inClass (topS 15) 1
abbrev N_Stock___eq__ : List PySem.Str := ["self", "other"]
theorem sc_Stock___eq__ : FnScope N_Stock___eq__ ["self", "other"] (defScope s_Stock___eq__) := ⟨rfl, rfl, rfl, by decide +kernel, rfl, by decide +kernel, by decide +kernel⟩
abbrev s_Stock_borne : Stmt := inClass (topS 15) 2
abbrev N_Stock_borne : List PySem.Str := ["self", "row"]
theorem sc_Stock_borne : FnScope N_Stock_borne ["self"] (defScope s_Stock_borne) := ⟨rfl, rfl, rfl, by decide +kernel, rfl, by decide +kernel, by decide +kernel⟩
abbrev s_Stock_endings : Stmt := inClass (topS 15) 3
abbrev N_Stock_endings : List PySem.Str := ["self", "row", "ending"]
theorem sc_Stock_endings : FnScope N_Stock_endings ["self"] (defScope s_Stock_endings) := ⟨rfl, rfl, rfl, by decide +kernel, rfl, by decide +kernel, by decide +kernel⟩
abbrev s_Stock_ending_for : Stmt := inClass (topS 15) 4
abbrev N_Stock_ending_for : List PySem.Str := ["self", "role", "number", "row"]
theorem sc_Stock_ending_for : FnScope N_Stock_ending_for ["self", "role", "number"] (defScope s_Stock_ending_for) := ⟨rfl, rfl, rfl, by decide +kernel, rfl, by decide +kernel, by decide +kernel⟩
abbrev s__law_hand : Stmt := topS 17
abbrev N__law_hand : List PySem.Str := ["_law_script", "_law_total", "_law_cells", "_law_cell"]
theorem sc__law_hand : FnScope N__law_hand ["_law_script"] (defScope s__law_hand) := ⟨rfl, rfl, rfl, by decide +kernel, rfl, by decide +kernel, by decide +kernel⟩
abbrev s__law_mixed : Stmt := topS 18
abbrev N__law_mixed : List PySem.Str := ["_law_number", "_law_turn", "_law_once", "_law_twice"]
theorem sc__law_mixed : FnScope N__law_mixed ["_law_number", "_law_turn"] (defScope s__law_mixed) := ⟨rfl, rfl, rfl, by decide +kernel, rfl, by decide +kernel, by decide +kernel⟩
abbrev s__law_take : Stmt := topS 19
abbrev N__law_take : List PySem.Str := ["_law_hand_here", "_law_many", "_law_cell", "_law_rest"]
theorem sc__law_take : FnScope N__law_take ["_law_hand_here", "_law_many"] (defScope s__law_take) := ⟨rfl, rfl, rfl, by decide +kernel, rfl, by decide +kernel, by decide +kernel⟩
abbrev s__law_shuffled : Stmt := topS 20
abbrev N__law_shuffled : List PySem.Str := ["_law_hand_here", "_law_row", "_law_left", "_law_found"]
theorem sc__law_shuffled : FnScope N__law_shuffled ["_law_hand_here", "_law_row"] (defScope s__law_shuffled) := ⟨rfl, rfl, rfl, by decide +kernel, rfl, by decide +kernel, by decide +kernel⟩
abbrev s__law_some : Stmt := topS 21
abbrev N__law_some : List PySem.Str := ["_law_hand_here", "_law_row", "_law_many"]
theorem sc__law_some : FnScope N__law_some ["_law_hand_here", "_law_row", "_law_many"] (defScope s__law_some) := ⟨rfl, rfl, rfl, by decide +kernel, rfl, by decide +kernel, by decide +kernel⟩
abbrev s__law_pool : Stmt := topS 22
abbrev N__law_pool : List PySem.Str := ["_law_hand_here", "_law_count", "_law_letters", "_law_found", "_law_k", "_law_shape"]
theorem sc__law_pool : FnScope N__law_pool ["_law_hand_here", "_law_count"] (defScope s__law_pool) := ⟨rfl, rfl, rfl, by decide +kernel, rfl, by decide +kernel, by decide +kernel⟩
abbrev s__law_table : Stmt := topS 23
abbrev N__law_table : List PySem.Str := ["_law_hand_here", "_law_borne", "_law_pool_here", "_law_role"]
theorem sc__law_table : FnScope N__law_table ["_law_hand_here", "_law_borne", "_law_pool_here"] (defScope s__law_table) := ⟨rfl, rfl, rfl, by decide +kernel, rfl, by decide +kernel, by decide +kernel⟩
abbrev s__law_word : Stmt := topS 24
abbrev N__law_word : List PySem.Str := ["_law_hand_here", "_law_longest", "_law_k"]
theorem sc__law_word : FnScope N__law_word ["_law_hand_here", "_law_longest"] (defScope s__law_word) := ⟨rfl, rfl, rfl, by decide +kernel, rfl, by decide +kernel, by decide +kernel⟩
abbrev s__law_as_list : Stmt := topS 25
abbrev N__law_as_list : List PySem.Str := ["_law_hand_here", "_law_row"]
theorem sc__law_as_list : FnScope N__law_as_list ["_law_hand_here", "_law_row"] (defScope s__law_as_list) := ⟨rfl, rfl, rfl, by decide +kernel, rfl, by decide +kernel, by decide +kernel⟩
abbrev s__law_no_role : Stmt := topS 26
abbrev N__law_no_role : List PySem.Str := ["_law_hand_here", "_law_many", "_law_draw"]
theorem sc__law_no_role : FnScope N__law_no_role ["_law_hand_here", "_law_many"] (defScope s__law_no_role) := ⟨rfl, rfl, rfl, by decide +kernel, rfl, by decide +kernel, by decide +kernel⟩
abbrev s__law_no_ending : Stmt := topS 27
abbrev N__law_no_ending : List PySem.Str := ["_law_hand_here", "_law_draw"]
theorem sc__law_no_ending : FnScope N__law_no_ending ["_law_hand_here"] (defScope s__law_no_ending) := ⟨rfl, rfl, rfl, by decide +kernel, rfl, by decide +kernel, by decide +kernel⟩
abbrev s__law_told : Stmt := topS 28
abbrev N__law_told : List PySem.Str := ["_law_name", "_law_table_here", "_law_told_here", "wrong"]
theorem sc__law_told : FnScope N__law_told ["_law_name", "_law_table_here"] (defScope s__law_told) := ⟨rfl, rfl, rfl, by decide +kernel, rfl, by decide +kernel, by decide +kernel⟩
abbrev s__law_shows : Stmt := topS 29
abbrev N__law_shows : List PySem.Str := ["_law_stock", "_law_name", "_law_table_here", "_law_row", "_law_endings", "_law_ending", "_law_role", "_law_rows", "_law_number", "_law_due"]
theorem sc__law_shows : FnScope N__law_shows ["_law_stock", "_law_name", "_law_table_here"] (defScope s__law_shows) := ⟨rfl, rfl, rfl, by decide +kernel, rfl, by decide +kernel, by decide +kernel⟩
abbrev s__law_spoilt : Stmt := topS 30
abbrev N__law_spoilt : List PySem.Str := ["_law_hand_here", "_law_rows", "_law_place", "_law_draw"]
theorem sc__law_spoilt : FnScope N__law_spoilt ["_law_hand_here", "_law_rows", "_law_place"] (defScope s__law_spoilt) := ⟨rfl, rfl, rfl, by decide +kernel, rfl, by decide +kernel, by decide +kernel⟩
abbrev s_law : Stmt := topS 31
abbrev N_law : List PySem.Str := ["_law_script", "_law_hand_here", "_law_turn", "_law_name", "_law_borne", "_law_table_here", "_law_rows", "_law_row", "_law_good", "_law_kept", "_law_told_here", "_law_again", "_law_least", "_law_word_here", "_law_place", "_law_thing", "_law_other"]
theorem sc_law : FnScope N_law ["_law_script"] (defScope s_law) := ⟨rfl, rfl, rfl, by decide +kernel, rfl, by decide +kernel, by decide +kernel⟩
structure Ad where
  f_BadStock___init__ : Addr
  f_is_whole : Addr
  f_is_row : Addr
  f_are_letters : Addr
  f_is_name : Addr
  f_is_part : Addr
  f_is_ending : Addr
  f_number_rank : Addr
  f__checked_table : Addr
  f_Stock___init__ : Addr
  f_Stock___eq__ : Addr
  f_Stock_borne : Addr
  f_Stock_endings : Addr
  f_Stock_ending_for : Addr
  f__law_hand : Addr
  f__law_mixed : Addr
  f__law_take : Addr
  f__law_shuffled : Addr
  f__law_some : Addr
  f__law_pool : Addr
  f__law_table : Addr
  f__law_word : Addr
  f__law_as_list : Addr
  f__law_no_role : Addr
  f__law_no_ending : Addr
  f__law_told : Addr
  f__law_shows : Addr
  f__law_spoilt : Addr
  f_law : Addr
  C_TongueError : Addr
  C_BadStock : Addr
  C_BadFrame : Addr
  C_Stock : Addr
  p_Stock_borne : Addr
  p_Stock_endings : Addr
/-- what the top has written -/
structure Txt (P : Program) (K : PySem.W.Frag) (mg : PySem.Str → Option Value) (a : Ad) : Prop where
  F_is_whole : ∃ fd, DefAt K "is_whole" "is_whole" s_is_whole [.non, .non] a.f_is_whole fd
  A_is_whole : At K mg "is_whole" a.f_is_whole
  F_is_row : ∃ fd, DefAt K "is_row" "is_row" s_is_row [.int (0), .non] a.f_is_row fd
  A_is_row : At K mg "is_row" a.f_is_row
  F_are_letters : ∃ fd, DefAt K "are_letters" "are_letters" s_are_letters [] a.f_are_letters fd
  A_are_letters : At K mg "are_letters" a.f_are_letters
  F_is_name : ∃ fd, DefAt K "is_name" "is_name" s_is_name [] a.f_is_name fd
  A_is_name : At K mg "is_name" a.f_is_name
  F_is_part : ∃ fd, DefAt K "is_part" "is_part" s_is_part [] a.f_is_part fd
  A_is_part : At K mg "is_part" a.f_is_part
  F_is_ending : ∃ fd, DefAt K "is_ending" "is_ending" s_is_ending [] a.f_is_ending fd
  A_is_ending : At K mg "is_ending" a.f_is_ending
  F_number_rank : ∃ fd, DefAt K "number_rank" "number_rank" s_number_rank [] a.f_number_rank fd
  A_number_rank : At K mg "number_rank" a.f_number_rank
  F__checked_table : ∃ fd, DefAt K "_checked_table" "_checked_table" s__checked_table [] a.f__checked_table fd
  A__checked_table : At K mg "_checked_table" a.f__checked_table
  F_Stock___init__ : ∃ fd, DefAt K "__init__" "Stock.__init__" s_Stock___init__ [] a.f_Stock___init__ fd
  F_Stock___eq__ : ∃ fd, DefAt K "__eq__" "Stock.__eq__" s_Stock___eq__ [] a.f_Stock___eq__ fd
  F_Stock_borne : ∃ fd, DefAt K "borne" "Stock.borne" s_Stock_borne [] a.f_Stock_borne fd
  F_Stock_endings : ∃ fd, DefAt K "endings" "Stock.endings" s_Stock_endings [] a.f_Stock_endings fd
  F_Stock_ending_for : ∃ fd, DefAt K "ending_for" "Stock.ending_for" s_Stock_ending_for [] a.f_Stock_ending_for fd
  F__law_hand : ∃ fd, DefAt K "_law_hand" "_law_hand" s__law_hand [] a.f__law_hand fd
  A__law_hand : At K mg "_law_hand" a.f__law_hand
  F__law_mixed : ∃ fd, DefAt K "_law_mixed" "_law_mixed" s__law_mixed [] a.f__law_mixed fd
  A__law_mixed : At K mg "_law_mixed" a.f__law_mixed
  F__law_take : ∃ fd, DefAt K "_law_take" "_law_take" s__law_take [] a.f__law_take fd
  A__law_take : At K mg "_law_take" a.f__law_take
  F__law_shuffled : ∃ fd, DefAt K "_law_shuffled" "_law_shuffled" s__law_shuffled [] a.f__law_shuffled fd
  A__law_shuffled : At K mg "_law_shuffled" a.f__law_shuffled
  F__law_some : ∃ fd, DefAt K "_law_some" "_law_some" s__law_some [] a.f__law_some fd
  A__law_some : At K mg "_law_some" a.f__law_some
  F__law_pool : ∃ fd, DefAt K "_law_pool" "_law_pool" s__law_pool [] a.f__law_pool fd
  A__law_pool : At K mg "_law_pool" a.f__law_pool
  F__law_table : ∃ fd, DefAt K "_law_table" "_law_table" s__law_table [] a.f__law_table fd
  A__law_table : At K mg "_law_table" a.f__law_table
  F__law_word : ∃ fd, DefAt K "_law_word" "_law_word" s__law_word [] a.f__law_word fd
  A__law_word : At K mg "_law_word" a.f__law_word
  F__law_as_list : ∃ fd, DefAt K "_law_as_list" "_law_as_list" s__law_as_list [] a.f__law_as_list fd
  A__law_as_list : At K mg "_law_as_list" a.f__law_as_list
  F__law_no_role : ∃ fd, DefAt K "_law_no_role" "_law_no_role" s__law_no_role [] a.f__law_no_role fd
  A__law_no_role : At K mg "_law_no_role" a.f__law_no_role
  F__law_no_ending : ∃ fd, DefAt K "_law_no_ending" "_law_no_ending" s__law_no_ending [] a.f__law_no_ending fd
  A__law_no_ending : At K mg "_law_no_ending" a.f__law_no_ending
  F__law_told : ∃ fd, DefAt K "_law_told" "_law_told" s__law_told [] a.f__law_told fd
  A__law_told : At K mg "_law_told" a.f__law_told
  F__law_shows : ∃ fd, DefAt K "_law_shows" "_law_shows" s__law_shows [] a.f__law_shows fd
  A__law_shows : At K mg "_law_shows" a.f__law_shows
  F__law_spoilt : ∃ fd, DefAt K "_law_spoilt" "_law_spoilt" s__law_spoilt [] a.f__law_spoilt fd
  A__law_spoilt : At K mg "_law_spoilt" a.f__law_spoilt
  F_law : ∃ fd, DefAt K "law" "law" s_law [] a.f_law fd
  A_law : At K mg "law" a.f_law
  M_Stock : MkAt K mg "Stock" a.C_Stock a.f_Stock___init__
  cl_Stock : Cls K a.C_Stock
  no_Stock_name : NoAttr K a.C_Stock "name"
  no_Stock_table : NoAttr K a.C_Stock "table"
  eq_Stock : LX.EqC K a.C_Stock a.f_Stock___eq__
  mt_Stock_ending_for : Meth K a.C_Stock "ending_for" a.f_Stock_ending_for
  pr_Stock_borne : PropOf K a.C_Stock "borne" a.p_Stock_borne a.f_Stock_borne
  pr_Stock_endings : PropOf K a.C_Stock "endings" a.p_Stock_endings a.f_Stock_endings
  ty_Stock : PySem.W.findIn K (.ref a.C_Stock) "__class__" = some (some (.builtin "object.__class__")) ∧ PySem.W.specialIn K (.builtin "object.__class__") "__get__" = some (some (.builtin "getset_descriptor.__get__")) ∧ PySem.W.takesIn K (.builtin "object.__class__") = some true ∧ PySem.W.mroIn K a.C_Stock (.type "object") = some true
  is_Stock_Stock : PySem.W.kitOne K (.ref a.C_Stock) (.ref a.C_Stock) = some true
  nf_Stock_NoneType : PySem.W.notFirst K a.C_Stock (.type "NoneType") = true
  it_Stock_NoneType : PySem.W.kitOne K (.type "NoneType") (.ref a.C_Stock) = some false
  nf_Stock_bool : PySem.W.notFirst K a.C_Stock (.type "bool") = true
  it_Stock_bool : PySem.W.kitOne K (.type "bool") (.ref a.C_Stock) = some false
  nf_Stock_int : PySem.W.notFirst K a.C_Stock (.type "int") = true
  it_Stock_int : PySem.W.kitOne K (.type "int") (.ref a.C_Stock) = some false
  nf_Stock_str : PySem.W.notFirst K a.C_Stock (.type "str") = true
  it_Stock_str : PySem.W.kitOne K (.type "str") (.ref a.C_Stock) = some false
  nf_Stock_list : PySem.W.notFirst K a.C_Stock (.type "list") = true
  it_Stock_list : PySem.W.kitOne K (.type "list") (.ref a.C_Stock) = some false
  nf_Stock_tuple : PySem.W.notFirst K a.C_Stock (.type "tuple") = true
  it_Stock_tuple : PySem.W.kitOne K (.type "tuple") (.ref a.C_Stock) = some false
  g_TongueError : mg "TongueError" = some (.ref a.C_TongueError)
  g_BadStock : mg "BadStock" = some (.ref a.C_BadStock)
  g_BadFrame : mg "BadFrame" = some (.ref a.C_BadFrame)
  g_Stock : mg "Stock" = some (.ref a.C_Stock)
  ox_BadStock : OexC K a.C_BadStock
  ec_BadStock : ExcC K a.C_BadStock
  xf_BadStock : XfC K a.C_BadStock
  xno_BadStock_what : PySem.W.findIn K (.ref a.C_BadStock) "what" = some none
  xi_BadStock : PySem.W.findIn K (.ref a.C_BadStock) "__init__" = some (some (.ref a.f_BadStock___init__))
  xti_BadStock : PySem.W.typeIn K (.ref a.f_BadStock___init__) = some (.type "function")
  su_BadStock : ∃ cc cda, LX.SupC P K mg a.C_BadStock a.f_BadStock___init__ cc cda "BadStock.__init__" (defArgs s_BadStock___init__) (defBody s_BadStock___init__) (defScope s_BadStock___init__)
  xl_BadStock : ∃ (oc kV dc pm ct : Value) (od an : Option Addr) (sl : Array (Option Value)) (cda cc : Addr), K.lookup a.f_BadStock___init__ = some ⟨oc, od, .func (ksFn "__init__" "BadStock.__init__" (defArgs s_BadStock___init__) (defBody s_BadStock___init__) (defScope s_BadStock___init__) .none kV dc pm an (.ref cda) ct cc), sl⟩
  xis_BadStock_BadStock : PySem.W.kitOne K (.ref a.C_BadStock) (.ref a.C_BadStock) = some true
  xis_BadStock_BadFrame : PySem.W.kitOne K (.ref a.C_BadStock) (.ref a.C_BadFrame) = some false
  xis_BadStock_ValueError : PySem.W.kitOne K (.ref a.C_BadStock) (.type "ValueError") = some true
  xex_BadStock_TongueError : PySem.W.exmOne K (.ref a.C_BadStock) (.ref a.C_TongueError) = some true
  c_NAME_MOST : ∃ t, mg "NAME_MOST" = some (.int 8 t)
  n_ValueError : mg "ValueError" = none
  n_all : mg "all" = none
  n_bool : mg "bool" = none
  n_int : mg "int" = none
  n_isinstance : mg "isinstance" = none
  n_len : mg "len" = none
  n_list : mg "list" = none
  n_property : mg "property" = none
  n_range : mg "range" = none
  n_repr : mg "repr" = none
  n_set : mg "set" = none
  n_sorted : mg "sorted" = none
  n_str : mg "str" = none
  n_super : mg "super" = none
  n_tuple : mg "tuple" = none
abbrev TT (K : Frag) (a : Ad) : Tb := ⟨K, fun c => match c with | 0 => a.C_Stock | _ => a.C_BadStock, fun _ => ["name", "table"]⟩
end L3
end
section
set_option Elab.async false
set_option linter.all false
set_option maxRecDepth 100000
set_option maxHeartbeats 1000000
namespace L3
open PySem PySem.Spec PyProof.Rows L2 PySem.W PySem.Calls Lo
local macro_rules | `(tactic| walk_at "sd") => `(tactic| first | exact .d | rfl | assumption | (with_reducible decide) | omega | exact .nil | exact AllD.nil)
local macro_rules | `(tactic| walk_at "we") => `(tactic| first
  | ((with_reducible refine' we_var ?hv ?_); (case hv => rfl))
  | (with_reducible refine we_int ?_)
  | (with_reducible refine we_op ?_)
  | (with_reducible refine we_str ?_)
  | (with_reducible refine we_isi ?_)
  | (with_reducible refine we_isi2 ?_)
  | (with_reducible refine we_cb ?_)
  | (with_reducible refine we_andV ?_)
  | (with_reducible refine we_orV ?_)
  | (with_reducible refine we_notV ?_)
  | (with_reducible refine we_non ?_)
  | (with_reducible refine we_bl ?_)
  | (with_reducible refine we_if ?_)
  | (with_reducible refine we_un ?_)
  | (with_reducible refine we_cal0 ?_)
  | (with_reducible refine we_cal2 ?_)
  | (with_reducible refine we_calH ?_)
  | (with_reducible refine we_prp ?_)
  | (with_reducible refine we_tup ?_)
  | (with_reducible refine we_chain ?_))
local macro_rules | `(tactic| walk_at "ws") => `(tactic| first
  | (with_reducible refine ws_seq ?_)
  | (with_reducible refine ws_if ?_)
  | (with_reducible refine ws_set ?_)
  | (with_reducible refine ws_ret ?_)
  | (with_reducible refine ws_next ?_)
  | (with_reducible refine ws_drop ?_)
  | (with_reducible refine ws_retN ?_))
local macro_rules | `(tactic| walk_at "wt") => `(tactic| first
  | (with_reducible refine wt_test ?_)
  | (with_reducible refine wt_B ?_)
  | (with_reducible refine wt_and ?_)
  | (with_reducible refine wt_or ?_)
  | (with_reducible refine wt_not ?_))
local macro_rules | `(tactic| walk_at "wr") => `(tactic| first
  | (with_reducible refine wr_addI ?_)
  | (with_reducible refine wr_leI ?_)
  | (with_reducible refine wr_B0 ?_)
  | (with_reducible refine wr_I0 ?_)
  | (with_reducible refine wr_isN ?_)
  | (with_reducible refine wr_notN ?_)
  | (with_reducible refine wr_leS ?_)
  | ((with_reducible refine' wr_ixL ?hv ?_); (case hv => rfl))
  | ((with_reducible refine' wr_ixT ?hv ?_); (case hv => rfl))
  | ((with_reducible refine' wr_ixO ?hv ?hw ?_); (case hv => rfl); (case hw => rfl))
  | ((with_reducible refine' wr_eqD ?h1 ?h2 ?h3 ?h4 ?_); (case h1 => exact .d); (case h2 => exact .d); (case h3 => rfl); (case h4 => rfl))
  | ((with_reducible refine' wr_neD ?h1 ?h2 ?h3 ?h4 ?_); (case h1 => exact .d); (case h2 => exact .d); (case h3 => rfl); (case h4 => rfl)))
local macro_rules | `(tactic| walk_at "da") => `(tactic| first
  | (with_reducible refine ⟨_, rfl, ?_⟩)
  | (with_reducible refine ⟨fun _ => ?_, fun h => Bool.noConfusion h⟩)
  | (with_reducible refine ⟨fun h => Bool.noConfusion h, fun _ => ?_⟩)
  | (with_reducible refine ⟨_, rfl, ?_, ?_⟩)
  | ((with_reducible refine' ⟨_, _, .d, ?h1, ?h2, ?_⟩); (case h1 => walk_at "sd"); (case h2 => rfl))
  | ((with_reducible refine' ⟨_, _, _, .d, ?h1, ?h2, ?h3, ?_⟩); (case h1 => walk_at "sd"); (case h2 => rfl); (case h3 => rfl))
  | (with_reducible refine ⟨fun hk => ?_, fun hk => ?_⟩)
  | (show ∃ d, SV.d _ = SV.d d ∧ _; with_reducible refine ⟨_, rfl, ?_⟩))
local macro_rules | `(tactic| walk_at "lo") => `(tactic| first
  | ((with_reducible show Lo.WE _ _ _ _ _ _); walk_at "we")
  | ((with_reducible show Lo.WA _ _ _ _ _ _); first | (with_reducible refine wa_cons ?_) | (with_reducible refine wa_nil ?_))
  | ((with_reducible show Lo.WS _ _ _ _ _ _); walk_at "ws")
  | ((with_reducible show Lo.WT _ _ _ _ _ _); walk_at "wt")
  | ((with_reducible show Lo.WR _ _ _ _ _ _ _); walk_at "wr")
  | ((with_reducible show Lo.WU _ _ _ _ _ _); (with_reducible refine wu_neg ?_))
  | ((with_reducible show Lo.WC _ _ _ _ _ _); first | ((with_reducible refine' wc_len ?hv ?_); (case hv => rfl)) | (with_reducible refine wc_int ?_))
  | walk_at "da")
local macro_rules | `(tactic| walk_at "wq") => `(tactic| first
  | (with_reducible refine ws_seq (t := tAsg _ _) ?_)
  | (with_reducible refine ws_seq (t := tDrop _) ?_)
  | (with_reducible refine ws_set ?_)
  | (with_reducible refine ws_ret ?_)
  | (with_reducible refine ws_next ?_)
  | (with_reducible refine ws_drop ?_)
  | (with_reducible refine ws_retN ?_))
local macro_rules | `(tactic| walk_at "lq") => `(tactic| first
  | ((with_reducible show Lo.WE _ _ _ _ _ _); walk_at "we")
  | ((with_reducible show Lo.WA _ _ _ _ _ _); first | (with_reducible refine wa_cons ?_) | (with_reducible refine wa_nil ?_))
  | ((with_reducible show Lo.WS _ _ _ _ _ _); walk_at "wq")
  | ((with_reducible show Lo.WT _ _ _ _ _ _); walk_at "wt")
  | ((with_reducible show Lo.WR _ _ _ _ _ _ _); walk_at "wr")
  | ((with_reducible show Lo.WU _ _ _ _ _ _); (with_reducible refine wu_neg ?_))
  | ((with_reducible show Lo.WC _ _ _ _ _ _); first | ((with_reducible refine' wc_len ?hv ?_); (case hv => rfl)) | (with_reducible refine wc_int ?_))
  | walk_at "da")
local macro_rules | `(tactic| walk_at "ws") => `(tactic| (with_reducible refine ws_sub ?_))
local macro_rules | `(tactic| walk_at "wq") => `(tactic| (with_reducible refine ws_sub ?_))
local macro_rules | `(tactic| walk_at "da") => `(tactic| ((with_reducible show ∃ (i : Int) (j : Nat) (ss : List SV), SV.d (D.int _) = SV.d (D.int i) ∧ _); refine ⟨_, _, _, rfl, (rfl : _ = some (OW.lst _)), rfl, ?_⟩))
local macro_rules | `(tactic| walk_at "da") => `(tactic| ((with_reducible show ∃ (k : Nat) (ss : List SV), SV.p _ = SV.p k ∧ _); refine ⟨_, _, rfl, (rfl : _ = some (OW.lst _)), ?_⟩))
local macro_rules | `(tactic| walk_at "we") => `(tactic| (with_reducible refine we_bm ?_))
local macro_rules | `(tactic| walk_at "lo") => `(tactic| ((with_reducible show Lo.WC _ _ (Lo.rLen _) _ [SV.p _] _); refine wc_lenO (rfl : _ = some (OW.lst _)) ?_))
local macro_rules | `(tactic| walk_at "lq") => `(tactic| ((with_reducible show Lo.WC _ _ (Lo.rLen _) _ [SV.p _] _); refine wc_lenO (rfl : _ = some (OW.lst _)) ?_))
local macro_rules | `(tactic| walk_at "da") => `(tactic| ((with_reducible show ∃ (k : Nat) (sr : List SV) (xs : List D), [SV.p _] = SV.p k :: sr ∧ _); refine ⟨_, _, _, rfl, (rfl : _ = some OW.hand), .nil, ?_⟩))
local macro_rules | `(tactic| walk_at "da") => `(tactic| ((with_reducible show ∃ (k : Nat) (sr : List SV) (xs : List D), [SV.p _, SV.d _] = SV.p k :: sr ∧ _); refine ⟨_, _, _, rfl, (rfl : _ = some OW.hand), .cons .nil, ?_⟩))
local macro_rules | `(tactic| walk_at "da") => `(tactic| ((with_reducible show ∃ (k : Nat) (sr : List SV) (xs : List D), [SV.p _, SV.d _, SV.d _] = SV.p k :: sr ∧ _); refine ⟨_, _, _, rfl, (rfl : _ = some OW.hand), .cons (.cons .nil), ?_⟩))
local macro_rules | `(tactic| walk_at "da") => `(tactic| ((with_reducible show ∃ (xs : List D), AllD [] xs ∧ _); refine ⟨_, .nil, ?_⟩))
local macro_rules | `(tactic| walk_at "da") => `(tactic| ((with_reducible show ∃ (xs : List D), AllD [SV.d _] xs ∧ _); refine ⟨_, .cons .nil, ?_⟩))
local macro_rules | `(tactic| walk_at "da") => `(tactic| ((with_reducible show ∃ (xs : List D), AllD [SV.d _, SV.d _] xs ∧ _); refine ⟨_, .cons (.cons .nil), ?_⟩))
local macro_rules | `(tactic| walk_at "da") => `(tactic| ((with_reducible show ∃ (xs : List D), AllD [SV.d _, SV.d _, SV.d _] xs ∧ _); refine ⟨_, .cons (.cons (.cons .nil)), ?_⟩))
local macro_rules | `(tactic| walk_at "da") => `(tactic| ((with_reducible show ∃ (xs : List D), AllD [SV.d _, SV.d _, SV.d _, SV.d _] xs ∧ _); refine ⟨_, .cons (.cons (.cons (.cons .nil))), ?_⟩))
local macro_rules | `(tactic| walk_at "lo") => `(tactic| ((with_reducible show Lo.WO _ _ _ _ _ _); first | (with_reducible refine wo_none ?_) | (with_reducible refine wo_some ?_)))
local macro_rules | `(tactic| walk_at "lq") => `(tactic| ((with_reducible show Lo.WO _ _ _ _ _ _); first | (with_reducible refine wo_none ?_) | (with_reducible refine wo_some ?_)))
local macro_rules | `(tactic| walk_at "da") => `(tactic| first | ((with_reducible refine' takeG ?h ?_); (case h => (constructor <;> omega)); (intro k h0 h1)) | fail "no")
local macro_rules | `(tactic| walk_at "wr") => `(tactic| first | ((with_reducible refine' wr_pow ?h ?_); (case h => exact ⟨by decide, by decide, by decide⟩)) | fail "no")
local macro_rules | `(tactic| walk_at "we") => `(tactic| first | (with_reducible refine we_dnew ?_) | (with_reducible refine we_setd ?_) | (with_reducible refine we_dget ?_) | (with_reducible refine we_dget2 ?_) | (with_reducible refine we_sadd ?_) | fail "no")
local macro_rules | `(tactic| walk_at "lo") => `(tactic| ((with_reducible show Lo.WC _ _ (rSet0 _) _ _ _); refine wc_set0 ?_))
local macro_rules | `(tactic| walk_at "da") => `(tactic| ((with_reducible show ∃ (ks : List L2.Key) (vs : List D), SV.d (D.dct _ _) = SV.d (D.dct ks vs) ∧ _); refine ⟨_, _, rfl, ?_⟩))
local macro_rules | `(tactic| walk_at "da") => `(tactic| ((with_reducible show ∃ (dy : D) (key : L2.Key), SV.d (D.int _) = SV.d dy ∧ _); refine ⟨_, _, rfl, rfl, ?_⟩))
local macro_rules | `(tactic| walk_at "we") => `(tactic| first | (with_reducible refine we_bm0 ?_) | fail "no")
local macro_rules | `(tactic| walk_at "wr") => `(tactic| first | ((with_reducible show WR _ _ (rSNotIn _) _ _ _ _); refine wr_snotin (rfl : _ = some (oSet _ _ _)) ?_) | fail "no")
local macro_rules | `(tactic| walk_at "da") => `(tactic| ((with_reducible show ∃ (k : Nat) (S : Int → Bool) (n : Nat), SV.p _ = SV.p k ∧ _); refine ⟨_, _, _, rfl, (rfl : _ = some (oSet _ _ _)), ?_⟩))

section
variable {P : Program} {w : World} {K : Frag} {mg : Str → Option Value} {base : Heap} {a : Ad}
abbrev F_is_whole : DF := Fv (ι := D × Option Int × Option Int) (fun i => [i.1, oi i.2.1, oi i.2.2]) (fun i => i.1.isO = false) (fun i d => d = .bl (isWhole i.1 i.2.1 i.2.2)) noErr
theorem ok_is_whole {fd} (X : Txt P K mg a) (F : DefAt K "is_whole" "is_whole" s_is_whole [.non, .non] a.f_is_whole fd) : FnOk P w K mg base (L2.CX P w) 1 a.f_is_whole fd ["thing", "low", "high"] (SpP (TT K a) F_is_whole) := by
  refine okP (fun i => [some (.d (i.1)), some (.d (oi i.2.1)), some (.d (oi i.2.2))]) F sc_is_whole (fun _ => rfl) fun cdv A outer s H E hr => 
   have hu := hr.units
   ⟨_, 
   (pss_cons (ps_if (PW.pt (pw_or (pt_val (pe_callB call_isi (by rfl) X.n_isinstance (by decide +kernel) (pa_cons (pv 0) (pa_cons (pe_bltn (v := .ty "bool") rfl X.n_bool (by decide +kernel) rfl) pa_nil)))) (pw_or1 (pt_not (pt_val (pe_callB call_isi (by rfl) X.n_isinstance (by decide +kernel) (pa_cons (pv 0) (pa_cons (pe_bltn (v := .ty "int") rfl X.n_int (by decide +kernel) rfl) pa_nil))))))))
  (pss_one (ps_ret pe_bl))
  pss_nil)
  (pss_one (ps_ret (pe_and (pe_or (pe_cmpR op_isN1 (pv 1) pe_non (nomark _)) (pe_one (pe_cmpR op_ge (pv 0) (pv 1) (nomark _)))) (pe_one (pe_or (pe_cmpR op_isN1 (pv 2) pe_non (nomark _)) (pe_one (pe_cmpR op_leA (pv 0) (pv 2) (nomark _))))))))), fun b ⟨t, lo, hi⟩ hp hx => ?_⟩
  dsimp only [CxB, L2.cxOf] at hp ⊢
  cases t with
  | obj c fs => cases hp
  | int n =>
    cases lo <;> cases hi <;> dsimp only [oi] <;> (repeat' walk_at "lo")
    all_goals (refine bl_post ?_; dsimp only [isWhole]; first | (simp_all; done) | (simp_all; omega))
  | _ => (repeat' walk_at "lo"); rfl
theorem cal_is_whole1 (X : Txt P K mg a) : Cal P w K mg base 1 a.f_is_whole ["thing", "low", "high"] (SpP (TT K a) F_is_whole) [.non, .non] := by
  obtain ⟨fd, F⟩ := X.F_is_whole
  obtain ⟨ds, hd, hb⟩ := FunD.binds1 (ps := ["thing", "low", "high"]) F 1 0 (by simp) (by simp) (fun T kV doc pm an cdv ct us its hu hi => match us, its, hu, hi with | [_], [_, _], _, _ => ⟨_, rfl, rfl⟩)
  exact ⟨fd, ds, ok_is_whole X F, hd, hb⟩
theorem cal_is_whole2 (X : Txt P K mg a) : Cal P w K mg base 1 a.f_is_whole ["thing", "low", "high"] (SpP (TT K a) F_is_whole) [.non] := by
  obtain ⟨fd, F⟩ := X.F_is_whole
  obtain ⟨ds, hd, hb⟩ := FunD.binds1 (ps := ["thing", "low", "high"]) F 2 1 (by simp) (by simp) (fun T kV doc pm an cdv ct us its hu hi => match us, its, hu, hi with | [_, _], [_, _], _, _ => ⟨_, rfl, rfl⟩)
  exact ⟨fd, ds, ok_is_whole X F, hd, hb⟩
theorem cal_is_whole (X : Txt P K mg a) : Cal P w K mg base 1 a.f_is_whole ["thing", "low", "high"] (SpP (TT K a) F_is_whole) [] := by
  obtain ⟨fd, F⟩ := X.F_is_whole
  obtain ⟨ds, hd, hb⟩ := FunD.binds1 (ps := ["thing", "low", "high"]) F 3 2 (by simp) (by simp) (fun T kV doc pm an cdv ct us its hu hi => match us, its, hu, hi with | [_, _, _], [_, _], _, _ => ⟨_, rfl, rfl⟩)
  exact ⟨fd, ds, ok_is_whole X F, hd, hb⟩
abbrev F_is_row : DF := Fv (ι := D × Int × Int) (fun i => [i.1, .int i.2.1, .int i.2.2]) (fun i => i.1.isO = false) (fun i d => d = .bl (isRow i.1 i.2.1 i.2.2)) noErr
theorem ok_is_row {fd} (X : Txt P K mg a) (F : DefAt K "is_row" "is_row" s_is_row [.int (0), .non] a.f_is_row fd) : FnOk P w K mg base (L2.CX P w) 1 a.f_is_row fd ["thing", "low", "high"] (SpP (TT K a) F_is_row) := by
  refine okP (fun i => [some (.d (i.1)), some (.d (.int i.2.1)), some (.d (.int i.2.2))]) F sc_is_row (fun _ => rfl) fun cdv A outer s H E hr => 
   have hu := hr.units
   ⟨_, 
   (pss_one (ps_ret (pe_and (pe_callB call_isiT (by rfl) X.n_isinstance (by decide +kernel) (pa_cons (pv 0) (pa_cons (pe_tup (pa_cons (pe_bltn (v := .ty "list") rfl X.n_list (by decide +kernel) rfl) (pa_cons (pe_bltn (v := .ty "tuple") rfl X.n_tuple (by decide +kernel) rfl) pa_nil))) pa_nil))) (pe_and (pe_cmpR op_ge (pe_callB call_lenA (by rfl) X.n_len PySem.boot_len (pa_cons (pv 0) pa_nil)) (pv 1) (nomark _)) (pe_one (pe_or (pe_cmpR op_isN1 (pv 2) pe_non (nomark _)) (pe_one (pe_cmpR op_leA (pe_callB call_lenA (by rfl) X.n_len PySem.boot_len (pa_cons (pv 0) pa_nil)) (pv 2) (nomark _))))))))), fun b ⟨t, lo, hi⟩ hp hx => ?_⟩
  dsimp only [CxB, L2.cxOf] at hp ⊢
  cases t with
  | obj c fs => cases hp
  | lst xs => 
    repeat' walk_at "lo"
    all_goals (refine bl_post ?_; dsimp only [isRow, items]; first | (simp_all; done) | (simp_all; omega))
  | tup xs =>
    repeat' walk_at "lo"
    all_goals (refine bl_post ?_; dsimp only [isRow, items]; first | (simp_all; done) | (simp_all; omega))
  | _ => (repeat' walk_at "lo"); rfl
theorem cal_is_row1 (X : Txt P K mg a) : Cal P w K mg base 1 a.f_is_row ["thing", "low", "high"] (SpP (TT K a) F_is_row) [.int (0), .non] := by
  obtain ⟨fd, F⟩ := X.F_is_row
  obtain ⟨ds, hd, hb⟩ := FunD.binds1 (ps := ["thing", "low", "high"]) F 1 0 (by simp) (by simp) (fun T kV doc pm an cdv ct us its hu hi => match us, its, hu, hi with | [_], [_, _], _, _ => ⟨_, rfl, rfl⟩)
  exact ⟨fd, ds, ok_is_row X F, hd, hb⟩
theorem cal_is_row2 (X : Txt P K mg a) : Cal P w K mg base 1 a.f_is_row ["thing", "low", "high"] (SpP (TT K a) F_is_row) [.non] := by
  obtain ⟨fd, F⟩ := X.F_is_row
  obtain ⟨ds, hd, hb⟩ := FunD.binds1 (ps := ["thing", "low", "high"]) F 2 1 (by simp) (by simp) (fun T kV doc pm an cdv ct us its hu hi => match us, its, hu, hi with | [_, _], [_, _], _, _ => ⟨_, rfl, rfl⟩)
  exact ⟨fd, ds, ok_is_row X F, hd, hb⟩
theorem cal_is_row (X : Txt P K mg a) : Cal P w K mg base 1 a.f_is_row ["thing", "low", "high"] (SpP (TT K a) F_is_row) [] := by
  obtain ⟨fd, F⟩ := X.F_is_row
  obtain ⟨ds, hd, hb⟩ := FunD.binds1 (ps := ["thing", "low", "high"]) F 3 2 (by simp) (by simp) (fun T kV doc pm an cdv ct us its hu hi => match us, its, hu, hi with | [_, _, _], [_, _], _, _ => ⟨_, rfl, rfl⟩)
  exact ⟨fd, ds, ok_is_row X F, hd, hb⟩
abbrev F_are_letters : DF := Fv (ι := Str) (fun i => [.str i]) (fun i => i.length ≤ 100000) (fun i d => d = .bl (lett i)) noErr
theorem ok_are_letters {fd} (X : Txt P K mg a) (F : DefAt K "are_letters" "are_letters" s_are_letters [] a.f_are_letters fd) : FnOk P w K mg base (L2.CX P w) 1 a.f_are_letters fd ["text"] (SpP (TT K a) F_are_letters) := by
  refine okP (fun i => [some (.d (.str i)), none]) F sc_are_letters (fun _ => rfl) fun cdv A outer s H E hr => 
   have hu := hr.units
   ⟨_, 
   (pss_one (ps_ret (pe_callB (cr_all rfl) (by rfl) X.n_all (by decide +kernel) (pa_cons (pe_lc (own := [("letter", 1)]) (by rfl) sc_are_letters.nd (pi_str (pv 0)) (blkOk_by (own := [("letter", 1)]) (N := N_are_letters) (sc := defScope s_are_letters) (by decide +kernel)) (fun _ _ _ _ _ => (pg_name (i := 1) sc_are_letters.nd rfl (Or.inl rfl))) (fun _ _ _ _ _ => pts_nil) (fun _ _ _ _ _ => (pe_chain op_leA op_leA pe_str (pv 1) pe_str))) pa_nil)))), fun b z hp hx => ?_⟩
  dsimp only [CxB, L2.cxOf] at hp ⊢
  repeat' walk_at "lo"
  refine we_lcf (js := [1]) (by decide) (fun d => .bl (letF d)) (wi_str ?_)
  repeat' walk_at "lo"
  refine ⟨Nat.zero_le _, OwP_nil, by unfold signsD; rw [List.length_map]; exact hp, fun x acc hm => ?_, ?_⟩
  · obtain ⟨c, _, rfl⟩ := List.mem_map.mp hm
    refine wg_name ?_
    repeat' walk_at "lo"
    all_goals (refine ⟨congrArg (fun k => SV.d (D.bl k)) ?_, rfl⟩; simp_all [letF])
  · repeat' walk_at "lo"
    have e : List.map (fun d => D.bl (letF d)) (signsD z) = (z.cps.toList.map fun c => letF (.str ⟨#[c]⟩)).map D.bl := by
      unfold signsD
      rw [List.map_map, List.map_map]
      rfl
    rw [e]
    refine wc_all ?_
    rw [lett_all]
    exact ⟨_, rfl, rfl⟩
theorem cal_are_letters (X : Txt P K mg a) : Cal P w K mg base 1 a.f_are_letters ["text"] (SpP (TT K a) F_are_letters) [] := by
  obtain ⟨fd, F⟩ := X.F_are_letters
  exact ⟨fd, [], ok_are_letters X F, .nil, F.bindsN fun _ _ _ _ _ _ us hl => match us, hl with | [_], _ => rfl⟩
abbrev F_is_name : DF := Fv (ι := D × Int) (fun i => [i.1, .int i.2]) (fun i => okStr i.1) (fun i d => d = .bl (isName i.1 i.2)) noErr
theorem ok_is_name {fd} (X : Txt P K mg a) (F : DefAt K "is_name" "is_name" s_is_name [] a.f_is_name fd) : FnOk P w K mg base (L2.CX P w) 2 a.f_is_name fd ["thing", "most"] (SpP (TT K a) F_is_name) := by
  refine okP (fun i => [some (.d (i.1)), some (.d (.int i.2))]) F sc_is_name (fun _ => rfl) fun cdv A outer s H E hr => 
   have hu := hr.units
   ⟨_, 
   (pss_one (ps_ret (pe_and (pe_callB call_isi (by rfl) X.n_isinstance (by decide +kernel) (pa_cons (pv 0) (pa_cons (pe_bltn (v := .ty "str") rfl X.n_str (by decide +kernel) rfl) pa_nil))) (pe_and (pe_chain op_leA op_leA pe_int (pe_callB call_lenA (by rfl) X.n_len PySem.boot_len (pa_cons (pv 0) pa_nil)) (pv 1)) (pe_one (pe_cal X.A_are_letters (cal_are_letters X) hr (by rfl) passL (pa_cons (pv 0) pa_nil))))))), fun b ⟨t, m⟩ hp hx => ?_⟩
  dsimp only [CxB, L2.cxOf] at hp ⊢
  obtain ⟨hp, hz⟩ := hp
  cases t with
  | obj c fs => cases hp
  | str z =>
    have hl := hz z rfl
    have el : D.lenN (.str z) = some z.length := if_pos hl
    repeat' walk_at "lo"
    refine wc_len el ?_
    repeat' walk_at "lo"
    · refine ⟨hl, fun _ z => z, ?_⟩
      rintro d rfl
      refine ⟨_, rfl, ?_⟩
      refine bl_post ?_
      dsimp only [isName]
      simp_all
    all_goals (refine bl_post ?_; dsimp only [isName]; first | (simp_all; done) | (simp_all; omega))
  | _ => (repeat' walk_at "lo"); rfl
theorem cal_is_name (X : Txt P K mg a) : Cal P w K mg base 2 a.f_is_name ["thing", "most"] (SpP (TT K a) F_is_name) [] := by
  obtain ⟨fd, F⟩ := X.F_is_name
  exact ⟨fd, [], ok_is_name X F, .nil, F.bindsN fun _ _ _ _ _ _ us hl => match us, hl with | [_, _], _ => rfl⟩
abbrev F_is_part : DF := Fv (ι := D) (fun i => [i]) (fun i => okStr i) (fun i d => d = .bl (isPart i)) noErr
theorem ok_is_part {fd} (X : Txt P K mg a) (F : DefAt K "is_part" "is_part" s_is_part [] a.f_is_part fd) : FnOk P w K mg base (L2.CX P w) 2 a.f_is_part fd ["thing"] (SpP (TT K a) F_is_part) := by
  refine okP (fun i => [some (.d (i))]) F sc_is_part (fun _ => rfl) fun cdv A outer s H E hr => 
   have hu := hr.units
   ⟨_, 
   (pss_one (ps_ret (pe_and (pe_callB call_isi (by rfl) X.n_isinstance (by decide +kernel) (pa_cons (pv 0) (pa_cons (pe_bltn (v := .ty "str") rfl X.n_str (by decide +kernel) rfl) pa_nil))) (pe_and (pe_cmpR op_leA (pe_callB call_lenA (by rfl) X.n_len PySem.boot_len (pa_cons (pv 0) pa_nil)) pe_int (nomark _)) (pe_one (pe_cal X.A_are_letters (cal_are_letters X) hr (by rfl) passL (pa_cons (pv 0) pa_nil))))))), fun b t hp hx => ?_⟩
  dsimp only [CxB, L2.cxOf] at hp ⊢
  obtain ⟨hp, hz⟩ := hp
  cases t with
  | obj c fs => cases hp
  | str z =>
    have hl := hz z rfl
    have el : D.lenN (.str z) = some z.length := if_pos hl
    repeat' walk_at "lo"
    refine wc_len el ?_
    repeat' walk_at "lo"
    · refine ⟨hl, fun _ z => z, ?_⟩
      rintro d rfl
      refine ⟨_, rfl, ?_⟩
      refine bl_post ?_
      dsimp only [isPart]
      simp_all
    all_goals (refine bl_post ?_; dsimp only [isPart]; first | (simp_all; done) | (simp_all; omega))
  | _ => (repeat' walk_at "lo"); rfl
theorem cal_is_part (X : Txt P K mg a) : Cal P w K mg base 2 a.f_is_part ["thing"] (SpP (TT K a) F_is_part) [] := by
  obtain ⟨fd, F⟩ := X.F_is_part
  exact ⟨fd, [], ok_is_part X F, .nil, F.bindsN fun _ _ _ _ _ _ us hl => match us, hl with | [_], _ => rfl⟩
abbrev F_is_ending : DF := Fv (ι := D) (fun i => [i]) (fun i => okRow i) (fun i d => d = .bl (isEnding i)) noErr
theorem ok_is_ending {fd} (X : Txt P K mg a) (F : DefAt K "is_ending" "is_ending" s_is_ending [] a.f_is_ending fd) : FnOk P w K mg base (L2.CX P w) 3 a.f_is_ending fd ["thing"] (SpP (TT K a) F_is_ending) := by
  refine okP (fun i => [some (.d (i)), none]) F sc_is_ending (fun _ => rfl) fun cdv A outer s H E hr => 
   have hu := hr.units
   ⟨_, 
   (pss_one (ps_ret (pe_and (pe_cal X.A_is_row (cal_is_row X) hr (by rfl) passL (pa_cons (pv 0) (pa_cons pe_int (pa_cons pe_int pa_nil)))) (pe_one (pe_callB (cr_all rfl) (by rfl) X.n_all (by decide +kernel) (pa_cons (pe_lc (own := [("part", 1)]) (by rfl) sc_is_ending.nd (pi_seq (pv 0)) (blkOk_by (own := [("part", 1)]) (N := N_is_ending) (sc := defScope s_is_ending) (by decide +kernel)) (fun _ _ _ _ _ => (pg_name (i := 1) sc_is_ending.nd rfl (Or.inl rfl))) (fun _ _ _ _ _ => pts_nil) (fun _ _ _ _ _ => (pe_cal X.A_is_part (cal_is_part X) hr (by rfl) passL (pa_cons (pv 1) pa_nil)))) pa_nil)))))), fun b t hp hx => ?_⟩
  dsimp only [CxB, L2.cxOf] at hp ⊢
  obtain ⟨hp, hz⟩ := hp
  repeat' walk_at "lo"
  refine ⟨(t, 1, 4), rfl, hp, fun _ z => z, ?_⟩
  rintro d rfl
  repeat' walk_at "lo"
  · rename_i hk
    obtain ⟨xs, hxs⟩ : ∃ xs, items t = some xs := by
      cases h : items t with
      | none => simp [isRow, h] at hk
      | some xs => exact ⟨xs, rfl⟩
    obtain ⟨hl, hx⟩ := hz xs hxs
    refine we_lcf (js := [1]) (by decide) (fun d => .bl (isPart d)) (wi_seq ?_)
    repeat' walk_at "lo"
    refine ⟨xs, (items_of hxs).imp (fun e => by rw [e]) (fun e => by rw [e]), Nat.zero_le _, OwP_nil, hl, fun x acc hm => wg_name ?_, ?_⟩
    · repeat' walk_at "lo"
      refine ⟨hx x hm, fun _ z => z, ?_⟩
      rintro d rfl
      exact ⟨rfl, rfl⟩
    · repeat' walk_at "lo"
      have e : xs.map (fun d => D.bl (isPart d)) = (xs.map isPart).map D.bl := by
        rw [List.map_map]
        rfl
      rw [e]
      refine wc_all ?_
      refine ⟨_, rfl, bl_post ?_⟩
      unfold isEnding
      rw [hk, hxs, List.all_map]
      rfl
  · rename_i hk
    refine bl_post ?_
    unfold isEnding
    rw [hk]
    rfl
theorem cal_is_ending (X : Txt P K mg a) : Cal P w K mg base 3 a.f_is_ending ["thing"] (SpP (TT K a) F_is_ending) [] := by
  obtain ⟨fd, F⟩ := X.F_is_ending
  exact ⟨fd, [], ok_is_ending X F, .nil, F.bindsN fun _ _ _ _ _ _ us hl => match us, hl with | [_], _ => rfl⟩
end
end L3
end
section
set_option Elab.async false
set_option linter.all false
set_option maxRecDepth 100000
set_option maxHeartbeats 1000000
namespace L3
open PySem PySem.Spec PyProof.Rows L2 PySem.W PySem.Calls Lo
local macro_rules | `(tactic| walk_at "sd") => `(tactic| first | exact .d | rfl | assumption | (with_reducible decide) | omega | exact .nil | exact AllD.nil)
local macro_rules | `(tactic| walk_at "we") => `(tactic| first
  | ((with_reducible refine' we_var ?hv ?_); (case hv => rfl))
  | (with_reducible refine we_int ?_)
  | (with_reducible refine we_op ?_)
  | (with_reducible refine we_str ?_)
  | (with_reducible refine we_isi ?_)
  | (with_reducible refine we_isi2 ?_)
  | (with_reducible refine we_cb ?_)
  | (with_reducible refine we_andV ?_)
  | (with_reducible refine we_orV ?_)
  | (with_reducible refine we_notV ?_)
  | (with_reducible refine we_non ?_)
  | (with_reducible refine we_bl ?_)
  | (with_reducible refine we_if ?_)
  | (with_reducible refine we_un ?_)
  | (with_reducible refine we_cal0 ?_)
  | (with_reducible refine we_cal2 ?_)
  | (with_reducible refine we_calH ?_)
  | (with_reducible refine we_prp ?_)
  | (with_reducible refine we_tup ?_)
  | (with_reducible refine we_chain ?_))
local macro_rules | `(tactic| walk_at "ws") => `(tactic| first
  | (with_reducible refine ws_seq ?_)
  | (with_reducible refine ws_if ?_)
  | (with_reducible refine ws_set ?_)
  | (with_reducible refine ws_ret ?_)
  | (with_reducible refine ws_next ?_)
  | (with_reducible refine ws_drop ?_)
  | (with_reducible refine ws_retN ?_))
local macro_rules | `(tactic| walk_at "wt") => `(tactic| first
  | (with_reducible refine wt_test ?_)
  | (with_reducible refine wt_B ?_)
  | (with_reducible refine wt_and ?_)
  | (with_reducible refine wt_or ?_)
  | (with_reducible refine wt_not ?_))
local macro_rules | `(tactic| walk_at "wr") => `(tactic| first
  | (with_reducible refine wr_addI ?_)
  | (with_reducible refine wr_leI ?_)
  | (with_reducible refine wr_B0 ?_)
  | (with_reducible refine wr_I0 ?_)
  | (with_reducible refine wr_isN ?_)
  | (with_reducible refine wr_notN ?_)
  | (with_reducible refine wr_leS ?_)
  | ((with_reducible refine' wr_ixL ?hv ?_); (case hv => rfl))
  | ((with_reducible refine' wr_ixT ?hv ?_); (case hv => rfl))
  | ((with_reducible refine' wr_ixO ?hv ?hw ?_); (case hv => rfl); (case hw => rfl))
  | ((with_reducible refine' wr_eqD ?h1 ?h2 ?h3 ?h4 ?_); (case h1 => exact .d); (case h2 => exact .d); (case h3 => rfl); (case h4 => rfl))
  | ((with_reducible refine' wr_neD ?h1 ?h2 ?h3 ?h4 ?_); (case h1 => exact .d); (case h2 => exact .d); (case h3 => rfl); (case h4 => rfl)))
local macro_rules | `(tactic| walk_at "da") => `(tactic| first
  | (with_reducible refine ⟨_, rfl, ?_⟩)
  | (with_reducible refine ⟨fun _ => ?_, fun h => Bool.noConfusion h⟩)
  | (with_reducible refine ⟨fun h => Bool.noConfusion h, fun _ => ?_⟩)
  | (with_reducible refine ⟨_, rfl, ?_, ?_⟩)
  | ((with_reducible refine' ⟨_, _, .d, ?h1, ?h2, ?_⟩); (case h1 => walk_at "sd"); (case h2 => rfl))
  | ((with_reducible refine' ⟨_, _, _, .d, ?h1, ?h2, ?h3, ?_⟩); (case h1 => walk_at "sd"); (case h2 => rfl); (case h3 => rfl))
  | (with_reducible refine ⟨fun hk => ?_, fun hk => ?_⟩)
  | (show ∃ d, SV.d _ = SV.d d ∧ _; with_reducible refine ⟨_, rfl, ?_⟩))
local macro_rules | `(tactic| walk_at "lo") => `(tactic| first
  | ((with_reducible show Lo.WE _ _ _ _ _ _); walk_at "we")
  | ((with_reducible show Lo.WA _ _ _ _ _ _); first | (with_reducible refine wa_cons ?_) | (with_reducible refine wa_nil ?_))
  | ((with_reducible show Lo.WS _ _ _ _ _ _); walk_at "ws")
  | ((with_reducible show Lo.WT _ _ _ _ _ _); walk_at "wt")
  | ((with_reducible show Lo.WR _ _ _ _ _ _ _); walk_at "wr")
  | ((with_reducible show Lo.WU _ _ _ _ _ _); (with_reducible refine wu_neg ?_))
  | ((with_reducible show Lo.WC _ _ _ _ _ _); first | ((with_reducible refine' wc_len ?hv ?_); (case hv => rfl)) | (with_reducible refine wc_int ?_))
  | walk_at "da")
local macro_rules | `(tactic| walk_at "wq") => `(tactic| first
  | (with_reducible refine ws_seq (t := tAsg _ _) ?_)
  | (with_reducible refine ws_seq (t := tDrop _) ?_)
  | (with_reducible refine ws_set ?_)
  | (with_reducible refine ws_ret ?_)
  | (with_reducible refine ws_next ?_)
  | (with_reducible refine ws_drop ?_)
  | (with_reducible refine ws_retN ?_))
local macro_rules | `(tactic| walk_at "lq") => `(tactic| first
  | ((with_reducible show Lo.WE _ _ _ _ _ _); walk_at "we")
  | ((with_reducible show Lo.WA _ _ _ _ _ _); first | (with_reducible refine wa_cons ?_) | (with_reducible refine wa_nil ?_))
  | ((with_reducible show Lo.WS _ _ _ _ _ _); walk_at "wq")
  | ((with_reducible show Lo.WT _ _ _ _ _ _); walk_at "wt")
  | ((with_reducible show Lo.WR _ _ _ _ _ _ _); walk_at "wr")
  | ((with_reducible show Lo.WU _ _ _ _ _ _); (with_reducible refine wu_neg ?_))
  | ((with_reducible show Lo.WC _ _ _ _ _ _); first | ((with_reducible refine' wc_len ?hv ?_); (case hv => rfl)) | (with_reducible refine wc_int ?_))
  | walk_at "da")
local macro_rules | `(tactic| walk_at "ws") => `(tactic| (with_reducible refine ws_sub ?_))
local macro_rules | `(tactic| walk_at "wq") => `(tactic| (with_reducible refine ws_sub ?_))
local macro_rules | `(tactic| walk_at "da") => `(tactic| ((with_reducible show ∃ (i : Int) (j : Nat) (ss : List SV), SV.d (D.int _) = SV.d (D.int i) ∧ _); refine ⟨_, _, _, rfl, (rfl : _ = some (OW.lst _)), rfl, ?_⟩))
local macro_rules | `(tactic| walk_at "da") => `(tactic| ((with_reducible show ∃ (k : Nat) (ss : List SV), SV.p _ = SV.p k ∧ _); refine ⟨_, _, rfl, (rfl : _ = some (OW.lst _)), ?_⟩))
local macro_rules | `(tactic| walk_at "we") => `(tactic| (with_reducible refine we_bm ?_))
local macro_rules | `(tactic| walk_at "lo") => `(tactic| ((with_reducible show Lo.WC _ _ (Lo.rLen _) _ [SV.p _] _); refine wc_lenO (rfl : _ = some (OW.lst _)) ?_))
local macro_rules | `(tactic| walk_at "lq") => `(tactic| ((with_reducible show Lo.WC _ _ (Lo.rLen _) _ [SV.p _] _); refine wc_lenO (rfl : _ = some (OW.lst _)) ?_))
local macro_rules | `(tactic| walk_at "da") => `(tactic| ((with_reducible show ∃ (k : Nat) (sr : List SV) (xs : List D), [SV.p _] = SV.p k :: sr ∧ _); refine ⟨_, _, _, rfl, (rfl : _ = some OW.hand), .nil, ?_⟩))
local macro_rules | `(tactic| walk_at "da") => `(tactic| ((with_reducible show ∃ (k : Nat) (sr : List SV) (xs : List D), [SV.p _, SV.d _] = SV.p k :: sr ∧ _); refine ⟨_, _, _, rfl, (rfl : _ = some OW.hand), .cons .nil, ?_⟩))
local macro_rules | `(tactic| walk_at "da") => `(tactic| ((with_reducible show ∃ (k : Nat) (sr : List SV) (xs : List D), [SV.p _, SV.d _, SV.d _] = SV.p k :: sr ∧ _); refine ⟨_, _, _, rfl, (rfl : _ = some OW.hand), .cons (.cons .nil), ?_⟩))
local macro_rules | `(tactic| walk_at "da") => `(tactic| ((with_reducible show ∃ (xs : List D), AllD [] xs ∧ _); refine ⟨_, .nil, ?_⟩))
local macro_rules | `(tactic| walk_at "da") => `(tactic| ((with_reducible show ∃ (xs : List D), AllD [SV.d _] xs ∧ _); refine ⟨_, .cons .nil, ?_⟩))
local macro_rules | `(tactic| walk_at "da") => `(tactic| ((with_reducible show ∃ (xs : List D), AllD [SV.d _, SV.d _] xs ∧ _); refine ⟨_, .cons (.cons .nil), ?_⟩))
local macro_rules | `(tactic| walk_at "da") => `(tactic| ((with_reducible show ∃ (xs : List D), AllD [SV.d _, SV.d _, SV.d _] xs ∧ _); refine ⟨_, .cons (.cons (.cons .nil)), ?_⟩))
local macro_rules | `(tactic| walk_at "da") => `(tactic| ((with_reducible show ∃ (xs : List D), AllD [SV.d _, SV.d _, SV.d _, SV.d _] xs ∧ _); refine ⟨_, .cons (.cons (.cons (.cons .nil))), ?_⟩))
local macro_rules | `(tactic| walk_at "lo") => `(tactic| ((with_reducible show Lo.WO _ _ _ _ _ _); first | (with_reducible refine wo_none ?_) | (with_reducible refine wo_some ?_)))
local macro_rules | `(tactic| walk_at "lq") => `(tactic| ((with_reducible show Lo.WO _ _ _ _ _ _); first | (with_reducible refine wo_none ?_) | (with_reducible refine wo_some ?_)))
local macro_rules | `(tactic| walk_at "da") => `(tactic| first | ((with_reducible refine' takeG ?h ?_); (case h => (constructor <;> omega)); (intro k h0 h1)) | fail "no")
local macro_rules | `(tactic| walk_at "wr") => `(tactic| first | ((with_reducible refine' wr_pow ?h ?_); (case h => exact ⟨by decide, by decide, by decide⟩)) | fail "no")
local macro_rules | `(tactic| walk_at "we") => `(tactic| first | (with_reducible refine we_dnew ?_) | (with_reducible refine we_setd ?_) | (with_reducible refine we_dget ?_) | (with_reducible refine we_dget2 ?_) | (with_reducible refine we_sadd ?_) | fail "no")
local macro_rules | `(tactic| walk_at "lo") => `(tactic| ((with_reducible show Lo.WC _ _ (rSet0 _) _ _ _); refine wc_set0 ?_))
local macro_rules | `(tactic| walk_at "da") => `(tactic| ((with_reducible show ∃ (ks : List L2.Key) (vs : List D), SV.d (D.dct _ _) = SV.d (D.dct ks vs) ∧ _); refine ⟨_, _, rfl, ?_⟩))
local macro_rules | `(tactic| walk_at "da") => `(tactic| ((with_reducible show ∃ (dy : D) (key : L2.Key), SV.d (D.int _) = SV.d dy ∧ _); refine ⟨_, _, rfl, rfl, ?_⟩))
local macro_rules | `(tactic| walk_at "we") => `(tactic| first | (with_reducible refine we_bm0 ?_) | fail "no")
local macro_rules | `(tactic| walk_at "wr") => `(tactic| first | ((with_reducible show WR _ _ (rSNotIn _) _ _ _ _); refine wr_snotin (rfl : _ = some (oSet _ _ _)) ?_) | fail "no")
local macro_rules | `(tactic| walk_at "da") => `(tactic| ((with_reducible show ∃ (k : Nat) (S : Int → Bool) (n : Nat), SV.p _ = SV.p k ∧ _); refine ⟨_, _, _, rfl, (rfl : _ = some (oSet _ _ _)), ?_⟩))

local macro_rules | `(tactic| walk_at "lo") => `(tactic| ((with_reducible show List.length _ ≤ 100000 ∧ _); first | (refine ⟨Nat.le_of_ble_eq_true rfl, ?_⟩) | fail "no"))
local macro_rules | `(tactic| walk_at "lq") => `(tactic| ((with_reducible show List.length _ ≤ 100000 ∧ _); first | (refine ⟨Nat.le_of_ble_eq_true rfl, ?_⟩) | fail "no"))
local macro_rules | `(tactic| walk_at "lo") => `(tactic| ((with_reducible show ∃ (xs : List D), AllD [SV.d _, SV.d _, SV.d _, SV.d _, SV.d _] xs ∧ _); refine ⟨_, .cons (.cons (.cons (.cons (.cons .nil)))), ?_⟩))
local macro_rules | `(tactic| walk_at "lq") => `(tactic| ((with_reducible show ∃ (xs : List D), AllD [SV.d _, SV.d _, SV.d _, SV.d _, SV.d _] xs ∧ _); refine ⟨_, .cons (.cons (.cons (.cons (.cons .nil)))), ?_⟩))
local macro_rules | `(tactic| walk_at "lo") => `(tactic| ((with_reducible show ∃ (xs : List D), AllD [SV.d _, SV.d _, SV.d _, SV.d _, SV.d _, SV.d _] xs ∧ _); refine ⟨_, .cons (.cons (.cons (.cons (.cons (.cons .nil))))), ?_⟩))
local macro_rules | `(tactic| walk_at "lq") => `(tactic| ((with_reducible show ∃ (xs : List D), AllD [SV.d _, SV.d _, SV.d _, SV.d _, SV.d _, SV.d _] xs ∧ _); refine ⟨_, .cons (.cons (.cons (.cons (.cons (.cons .nil))))), ?_⟩))
local macro_rules | `(tactic| walk_at "lo") => `(tactic| ((with_reducible show ∃ (xs : List D), AllD [SV.d _, SV.d _, SV.d _, SV.d _, SV.d _, SV.d _, SV.d _] xs ∧ _); refine ⟨_, .cons (.cons (.cons (.cons (.cons (.cons (.cons .nil)))))), ?_⟩))
local macro_rules | `(tactic| walk_at "lq") => `(tactic| ((with_reducible show ∃ (xs : List D), AllD [SV.d _, SV.d _, SV.d _, SV.d _, SV.d _, SV.d _, SV.d _] xs ∧ _); refine ⟨_, .cons (.cons (.cons (.cons (.cons (.cons (.cons .nil)))))), ?_⟩))
local macro_rules | `(tactic| walk_at "lo") => `(tactic| ((with_reducible show ∃ (xs : List D), AllD [SV.d _, SV.d _, SV.d _, SV.d _, SV.d _, SV.d _, SV.d _, SV.d _] xs ∧ _); refine ⟨_, .cons (.cons (.cons (.cons (.cons (.cons (.cons (.cons .nil))))))), ?_⟩))
local macro_rules | `(tactic| walk_at "lq") => `(tactic| ((with_reducible show ∃ (xs : List D), AllD [SV.d _, SV.d _, SV.d _, SV.d _, SV.d _, SV.d _, SV.d _, SV.d _] xs ∧ _); refine ⟨_, .cons (.cons (.cons (.cons (.cons (.cons (.cons (.cons .nil))))))), ?_⟩))
local macro_rules | `(tactic| walk_at "lo") => `(tactic| ((with_reducible show Lo.WE _ _ (tLst (tCons _ _)) _ _ _); refine we_lst ?_))
local macro_rules | `(tactic| walk_at "lq") => `(tactic| ((with_reducible show Lo.WE _ _ (tLst (tCons _ _)) _ _ _); refine we_lst ?_))
local macro_rules | `(tactic| walk_at "lo") => `(tactic| ((with_reducible show Lo.WE _ _ (tDisp [(tC (V.str _), tC (V.str _))]) _ _ _); refine we_disp1 (d := .str _) (fun _ => rfl) ?_))
local macro_rules | `(tactic| walk_at "lq") => `(tactic| ((with_reducible show Lo.WE _ _ (tDisp [(tC (V.str _), tC (V.str _))]) _ _ _); refine we_disp1 (d := .str _) (fun _ => rfl) ?_))
local macro_rules | `(tactic| walk_at "lo") => `(tactic| ((with_reducible show Lo.WE _ _ (tDisp [(tC (V.str _), tC (V.int _))]) _ _ _); refine we_disp1 (d := .int _) (fun _ => rfl) ?_))
local macro_rules | `(tactic| walk_at "lq") => `(tactic| ((with_reducible show Lo.WE _ _ (tDisp [(tC (V.str _), tC (V.int _))]) _ _ _); refine we_disp1 (d := .int _) (fun _ => rfl) ?_))
local macro_rules | `(tactic| walk_at "wr") => `(tactic| first | (with_reducible refine wr_notB ?_) | (with_reducible refine wr_isB ?_) | fail "no")
local macro_rules | `(tactic| walk_at "we") => `(tactic| first | (with_reducible refine we_calK ?_) | fail "no")
local macro_rules | `(tactic| walk_at "da") => `(tactic| ((with_reducible show ∃ (x : D), [SV.d _] = [SV.d x] ∧ _); refine ⟨_, rfl, ?_⟩))

def rankOf (t : D) : Int := match t with | .str z => if z = "many" then 1 else 0 | _ => 0
section
variable {P : Program} {w : World} {K : Frag} {mg : Str → Option Value} {base : Heap} {a : Ad}
theorem fmt_le {x z : Str} (n : Nat) (h : x.length ≤ n) (hz : z.length ≤ 1000) : (x ++ z).length ≤ n + 1000 := by
  show (x.cps ++ z.cps).size ≤ n + 1000
  rw [Array.size_append]
  exact Nat.add_le_add h hz
def erF (ds : List D) : List (Str × V) := match ds with | [.str z] => [("what", .str z)] | _ => []
def erP (ds : List D) : Prop := ∃ z : Str, ds = [.str z] ∧ z.length ≤ 1000
theorem cal_BadStock___init__ (X : Txt P K mg a) : Cal P w K mg base 2 a.f_BadStock___init__ ["self", "what"] (SpX (TT K a) 1 erF erP) [] := by
  obtain ⟨cc, cda, S⟩ := X.su_BadStock
  obtain ⟨fd, hlk, F⟩ := LX.fn_sup (k := 1) (w := w) (base := base) (CX := L2.CX P w) (sp := SpX (TT K a) 1 erF erP) ss_BadStock___init__ rfl rfl S
    (fun vs H Q E h => by
      obtain ⟨x, ds, ws, rfl, _, r, ⟨z, rfl, _⟩, _⟩ := h
      rw [List.length_cons, r.len]
      rfl)
    (fun fd s us hl hfd => by
      obtain ⟨oc, od, osl, hfd⟩ := hfd
      obtain ⟨oc2, kV, dc, pm, ct, od2, an, sl2, cda2, cc2, l2⟩ := X.xl_BadStock
      rw [l2] at hfd
      cases hfd
      exact match us, hl with | [_, _], _ => .of_eq rfl)
    (hbody := fun A outer s H vs Q E hr h => by
      obtain ⟨x, ds, ws, rfl, ha, r, ⟨z, rfl, hz⟩, k⟩ := h
      obtain ⟨v, ws', rfl, rv, rfl⟩ := r
      have rv' : v = .str z := rv
      subst rv'
      refine ⟨x, _, _, _, rfl, ha, pe_joined (.cons pe_str (.cons (pe_fmt (pv 1)) .nil)), pss_one (ps_ost (pv 0) (pv 1)), fun H' R ex hR => ?_, fun H' ex => ?_⟩
      · refine ⟨_, rfl, ?_, _, rfl, .inl ⟨z, rfl, ?_, _, rfl, ?_, hR _⟩⟩
        · exact Nat.le_trans (by decide +kernel : _ ≤ 1000) (by decide)
        · exact Nat.le_trans hz (by decide)
        · exact Nat.le_trans (fmt_le 7 (by decide +kernel) hz) (by decide)
      · refine ⟨_, rfl, _, rfl, x, a.C_BadStock, rfl, X.ox_BadStock, X.xno_BadStock_what, .inl ⟨ex _ _ ha, fun dx nd ne => ?_⟩⟩
        refine k dx _ ?_ (fun y o ny hy => ?_) upd_same ((upd_ne ne).trans upd_same)
        · cases q : H dx with
          | none => rfl
          | some o =>
            rw [ex _ _ q] at nd
            cases nd
        · have q := ex _ _ hy
          rw [upd_ne ny, upd_ne (fun z => by rw [z, nd] at q; cases q)]
          exact q)
  refine ⟨fd, [], F, .nil, fun s us _ hl => ?_⟩
  obtain ⟨oc, od, osl, hlk⟩ := hlk
  obtain ⟨oc2, kV, dc, pm, ct, od2, an, sl2, cda2, cc2, l2⟩ := X.xl_BadStock
  rw [l2] at hlk
  cases hlk
  rw [List.append_nil] at hl ⊢
  exact match us, hl with | [_, _], _ => .of_eq rfl
abbrev F_number_rank : DF := Fv (ι := D) (fun i => [i]) (fun i => i = .non ∨ ∃ z, i = .str z ∧ okSt z = true) (fun i d => d = .int (rankOf i)) noErr
theorem ok_number_rank {fd} (X : Txt P K mg a) (F : DefAt K "number_rank" "number_rank" s_number_rank [] a.f_number_rank fd) : FnOk P w K mg base (L2.CX P w) 1 a.f_number_rank fd ["number"] (SpP (TT K a) F_number_rank) := by
  refine okP (fun i => [some (.d (i))]) F sc_number_rank (fun _ => rfl) fun cdv A outer s H E hr => 
   have hu := hr.units
   ⟨_, 
   (pss_one (ps_ret (pe_ifExp (pt_cmpR (op_eqD hu) (pv 0) pe_str (nomark _)) pe_int pe_int))), fun b t hp hx => ?_⟩
  dsimp only [CxB, L2.cxOf] at hp ⊢
  rcases hp with rfl | ⟨z, rfl, hz⟩
  · repeat' walk_at "lo"
    refine wr_eqD .d .d okd_non (by decide +kernel) ?_
    repeat' walk_at "lo"
    rfl
  · repeat' walk_at "lo"
    refine wr_eqD .d .d (okd_str hz) (by decide +kernel) ?_
    rw [eqv_str]
    repeat' walk_at "lo"
    · rename_i hk
      exact congrArg D.int (if_pos (of_decide_eq_true hk)).symm
    · rename_i hk
      exact congrArg D.int (if_neg (of_decide_eq_false hk)).symm
theorem cal_number_rank (X : Txt P K mg a) : Cal P w K mg base 1 a.f_number_rank ["number"] (SpP (TT K a) F_number_rank) [] := by
  obtain ⟨fd, F⟩ := X.F_number_rank
  exact ⟨fd, [], ok_number_rank X F, .nil, F.bindsN fun _ _ _ _ _ _ us hl => match us, hl with | [_], _ => rfl⟩

end
end L3
end
section
set_option Elab.async false
set_option linter.all false
set_option maxRecDepth 100000
set_option maxHeartbeats 1000000
namespace L3
open PySem PySem.Spec PyProof.Rows L2 PySem.W PySem.Calls Lo
local macro_rules | `(tactic| walk_at "sd") => `(tactic| first | exact .d | rfl | assumption | (with_reducible decide) | omega | exact .nil | exact AllD.nil)
local macro_rules | `(tactic| walk_at "we") => `(tactic| first
  | ((with_reducible refine' we_var ?hv ?_); (case hv => rfl))
  | (with_reducible refine we_int ?_)
  | (with_reducible refine we_op ?_)
  | (with_reducible refine we_str ?_)
  | (with_reducible refine we_isi ?_)
  | (with_reducible refine we_isi2 ?_)
  | (with_reducible refine we_cb ?_)
  | (with_reducible refine we_andV ?_)
  | (with_reducible refine we_orV ?_)
  | (with_reducible refine we_notV ?_)
  | (with_reducible refine we_non ?_)
  | (with_reducible refine we_bl ?_)
  | (with_reducible refine we_if ?_)
  | (with_reducible refine we_un ?_)
  | (with_reducible refine we_cal0 ?_)
  | (with_reducible refine we_cal2 ?_)
  | (with_reducible refine we_calH ?_)
  | (with_reducible refine we_prp ?_)
  | (with_reducible refine we_tup ?_)
  | (with_reducible refine we_chain ?_))
local macro_rules | `(tactic| walk_at "ws") => `(tactic| first
  | (with_reducible refine ws_seq ?_)
  | (with_reducible refine ws_if ?_)
  | (with_reducible refine ws_set ?_)
  | (with_reducible refine ws_ret ?_)
  | (with_reducible refine ws_next ?_)
  | (with_reducible refine ws_drop ?_)
  | (with_reducible refine ws_retN ?_))
local macro_rules | `(tactic| walk_at "wt") => `(tactic| first
  | (with_reducible refine wt_test ?_)
  | (with_reducible refine wt_B ?_)
  | (with_reducible refine wt_and ?_)
  | (with_reducible refine wt_or ?_)
  | (with_reducible refine wt_not ?_))
local macro_rules | `(tactic| walk_at "wr") => `(tactic| first
  | (with_reducible refine wr_addI ?_)
  | (with_reducible refine wr_leI ?_)
  | (with_reducible refine wr_B0 ?_)
  | (with_reducible refine wr_I0 ?_)
  | (with_reducible refine wr_isN ?_)
  | (with_reducible refine wr_notN ?_)
  | (with_reducible refine wr_leS ?_)
  | ((with_reducible refine' wr_ixL ?hv ?_); (case hv => rfl))
  | ((with_reducible refine' wr_ixT ?hv ?_); (case hv => rfl))
  | ((with_reducible refine' wr_ixO ?hv ?hw ?_); (case hv => rfl); (case hw => rfl))
  | ((with_reducible refine' wr_eqD ?h1 ?h2 ?h3 ?h4 ?_); (case h1 => exact .d); (case h2 => exact .d); (case h3 => rfl); (case h4 => rfl))
  | ((with_reducible refine' wr_neD ?h1 ?h2 ?h3 ?h4 ?_); (case h1 => exact .d); (case h2 => exact .d); (case h3 => rfl); (case h4 => rfl)))
local macro_rules | `(tactic| walk_at "da") => `(tactic| first
  | (with_reducible refine ⟨_, rfl, ?_⟩)
  | (with_reducible refine ⟨fun _ => ?_, fun h => Bool.noConfusion h⟩)
  | (with_reducible refine ⟨fun h => Bool.noConfusion h, fun _ => ?_⟩)
  | (with_reducible refine ⟨_, rfl, ?_, ?_⟩)
  | ((with_reducible refine' ⟨_, _, .d, ?h1, ?h2, ?_⟩); (case h1 => walk_at "sd"); (case h2 => rfl))
  | ((with_reducible refine' ⟨_, _, _, .d, ?h1, ?h2, ?h3, ?_⟩); (case h1 => walk_at "sd"); (case h2 => rfl); (case h3 => rfl))
  | (with_reducible refine ⟨fun hk => ?_, fun hk => ?_⟩)
  | (show ∃ d, SV.d _ = SV.d d ∧ _; with_reducible refine ⟨_, rfl, ?_⟩))
local macro_rules | `(tactic| walk_at "lo") => `(tactic| first
  | ((with_reducible show Lo.WE _ _ _ _ _ _); walk_at "we")
  | ((with_reducible show Lo.WA _ _ _ _ _ _); first | (with_reducible refine wa_cons ?_) | (with_reducible refine wa_nil ?_))
  | ((with_reducible show Lo.WS _ _ _ _ _ _); walk_at "ws")
  | ((with_reducible show Lo.WT _ _ _ _ _ _); walk_at "wt")
  | ((with_reducible show Lo.WR _ _ _ _ _ _ _); walk_at "wr")
  | ((with_reducible show Lo.WU _ _ _ _ _ _); (with_reducible refine wu_neg ?_))
  | ((with_reducible show Lo.WC _ _ _ _ _ _); first | ((with_reducible refine' wc_len ?hv ?_); (case hv => rfl)) | (with_reducible refine wc_int ?_))
  | walk_at "da")
local macro_rules | `(tactic| walk_at "wq") => `(tactic| first
  | (with_reducible refine ws_seq (t := tAsg _ _) ?_)
  | (with_reducible refine ws_seq (t := tDrop _) ?_)
  | (with_reducible refine ws_set ?_)
  | (with_reducible refine ws_ret ?_)
  | (with_reducible refine ws_next ?_)
  | (with_reducible refine ws_drop ?_)
  | (with_reducible refine ws_retN ?_))
local macro_rules | `(tactic| walk_at "lq") => `(tactic| first
  | ((with_reducible show Lo.WE _ _ _ _ _ _); walk_at "we")
  | ((with_reducible show Lo.WA _ _ _ _ _ _); first | (with_reducible refine wa_cons ?_) | (with_reducible refine wa_nil ?_))
  | ((with_reducible show Lo.WS _ _ _ _ _ _); walk_at "wq")
  | ((with_reducible show Lo.WT _ _ _ _ _ _); walk_at "wt")
  | ((with_reducible show Lo.WR _ _ _ _ _ _ _); walk_at "wr")
  | ((with_reducible show Lo.WU _ _ _ _ _ _); (with_reducible refine wu_neg ?_))
  | ((with_reducible show Lo.WC _ _ _ _ _ _); first | ((with_reducible refine' wc_len ?hv ?_); (case hv => rfl)) | (with_reducible refine wc_int ?_))
  | walk_at "da")
local macro_rules | `(tactic| walk_at "ws") => `(tactic| (with_reducible refine ws_sub ?_))
local macro_rules | `(tactic| walk_at "wq") => `(tactic| (with_reducible refine ws_sub ?_))
local macro_rules | `(tactic| walk_at "da") => `(tactic| ((with_reducible show ∃ (i : Int) (j : Nat) (ss : List SV), SV.d (D.int _) = SV.d (D.int i) ∧ _); refine ⟨_, _, _, rfl, (rfl : _ = some (OW.lst _)), rfl, ?_⟩))
local macro_rules | `(tactic| walk_at "da") => `(tactic| ((with_reducible show ∃ (k : Nat) (ss : List SV), SV.p _ = SV.p k ∧ _); refine ⟨_, _, rfl, (rfl : _ = some (OW.lst _)), ?_⟩))
local macro_rules | `(tactic| walk_at "we") => `(tactic| (with_reducible refine we_bm ?_))
local macro_rules | `(tactic| walk_at "lo") => `(tactic| ((with_reducible show Lo.WC _ _ (Lo.rLen _) _ [SV.p _] _); refine wc_lenO (rfl : _ = some (OW.lst _)) ?_))
local macro_rules | `(tactic| walk_at "lq") => `(tactic| ((with_reducible show Lo.WC _ _ (Lo.rLen _) _ [SV.p _] _); refine wc_lenO (rfl : _ = some (OW.lst _)) ?_))
local macro_rules | `(tactic| walk_at "da") => `(tactic| ((with_reducible show ∃ (k : Nat) (sr : List SV) (xs : List D), [SV.p _] = SV.p k :: sr ∧ _); refine ⟨_, _, _, rfl, (rfl : _ = some OW.hand), .nil, ?_⟩))
local macro_rules | `(tactic| walk_at "da") => `(tactic| ((with_reducible show ∃ (k : Nat) (sr : List SV) (xs : List D), [SV.p _, SV.d _] = SV.p k :: sr ∧ _); refine ⟨_, _, _, rfl, (rfl : _ = some OW.hand), .cons .nil, ?_⟩))
local macro_rules | `(tactic| walk_at "da") => `(tactic| ((with_reducible show ∃ (k : Nat) (sr : List SV) (xs : List D), [SV.p _, SV.d _, SV.d _] = SV.p k :: sr ∧ _); refine ⟨_, _, _, rfl, (rfl : _ = some OW.hand), .cons (.cons .nil), ?_⟩))
local macro_rules | `(tactic| walk_at "da") => `(tactic| ((with_reducible show ∃ (xs : List D), AllD [] xs ∧ _); refine ⟨_, .nil, ?_⟩))
local macro_rules | `(tactic| walk_at "da") => `(tactic| ((with_reducible show ∃ (xs : List D), AllD [SV.d _] xs ∧ _); refine ⟨_, .cons .nil, ?_⟩))
local macro_rules | `(tactic| walk_at "da") => `(tactic| ((with_reducible show ∃ (xs : List D), AllD [SV.d _, SV.d _] xs ∧ _); refine ⟨_, .cons (.cons .nil), ?_⟩))
local macro_rules | `(tactic| walk_at "da") => `(tactic| ((with_reducible show ∃ (xs : List D), AllD [SV.d _, SV.d _, SV.d _] xs ∧ _); refine ⟨_, .cons (.cons (.cons .nil)), ?_⟩))
local macro_rules | `(tactic| walk_at "da") => `(tactic| ((with_reducible show ∃ (xs : List D), AllD [SV.d _, SV.d _, SV.d _, SV.d _] xs ∧ _); refine ⟨_, .cons (.cons (.cons (.cons .nil))), ?_⟩))
local macro_rules | `(tactic| walk_at "lo") => `(tactic| ((with_reducible show Lo.WO _ _ _ _ _ _); first | (with_reducible refine wo_none ?_) | (with_reducible refine wo_some ?_)))
local macro_rules | `(tactic| walk_at "lq") => `(tactic| ((with_reducible show Lo.WO _ _ _ _ _ _); first | (with_reducible refine wo_none ?_) | (with_reducible refine wo_some ?_)))
local macro_rules | `(tactic| walk_at "da") => `(tactic| first | ((with_reducible refine' takeG ?h ?_); (case h => (constructor <;> omega)); (intro k h0 h1)) | fail "no")
local macro_rules | `(tactic| walk_at "wr") => `(tactic| first | ((with_reducible refine' wr_pow ?h ?_); (case h => exact ⟨by decide, by decide, by decide⟩)) | fail "no")
local macro_rules | `(tactic| walk_at "we") => `(tactic| first | (with_reducible refine we_dnew ?_) | (with_reducible refine we_setd ?_) | (with_reducible refine we_dget ?_) | (with_reducible refine we_dget2 ?_) | (with_reducible refine we_sadd ?_) | fail "no")
local macro_rules | `(tactic| walk_at "lo") => `(tactic| ((with_reducible show Lo.WC _ _ (rSet0 _) _ _ _); refine wc_set0 ?_))
local macro_rules | `(tactic| walk_at "da") => `(tactic| ((with_reducible show ∃ (ks : List L2.Key) (vs : List D), SV.d (D.dct _ _) = SV.d (D.dct ks vs) ∧ _); refine ⟨_, _, rfl, ?_⟩))
local macro_rules | `(tactic| walk_at "da") => `(tactic| ((with_reducible show ∃ (dy : D) (key : L2.Key), SV.d (D.int _) = SV.d dy ∧ _); refine ⟨_, _, rfl, rfl, ?_⟩))
local macro_rules | `(tactic| walk_at "we") => `(tactic| first | (with_reducible refine we_bm0 ?_) | fail "no")
local macro_rules | `(tactic| walk_at "wr") => `(tactic| first | ((with_reducible show WR _ _ (rSNotIn _) _ _ _ _); refine wr_snotin (rfl : _ = some (oSet _ _ _)) ?_) | fail "no")
local macro_rules | `(tactic| walk_at "da") => `(tactic| ((with_reducible show ∃ (k : Nat) (S : Int → Bool) (n : Nat), SV.p _ = SV.p k ∧ _); refine ⟨_, _, _, rfl, (rfl : _ = some (oSet _ _ _)), ?_⟩))

local macro_rules | `(tactic| walk_at "lo") => `(tactic| ((with_reducible show List.length _ ≤ 100000 ∧ _); first | (refine ⟨Nat.le_of_ble_eq_true rfl, ?_⟩) | fail "no"))
local macro_rules | `(tactic| walk_at "lq") => `(tactic| ((with_reducible show List.length _ ≤ 100000 ∧ _); first | (refine ⟨Nat.le_of_ble_eq_true rfl, ?_⟩) | fail "no"))
local macro_rules | `(tactic| walk_at "lo") => `(tactic| ((with_reducible show ∃ (xs : List D), AllD [SV.d _, SV.d _, SV.d _, SV.d _, SV.d _] xs ∧ _); refine ⟨_, .cons (.cons (.cons (.cons (.cons .nil)))), ?_⟩))
local macro_rules | `(tactic| walk_at "lq") => `(tactic| ((with_reducible show ∃ (xs : List D), AllD [SV.d _, SV.d _, SV.d _, SV.d _, SV.d _] xs ∧ _); refine ⟨_, .cons (.cons (.cons (.cons (.cons .nil)))), ?_⟩))
local macro_rules | `(tactic| walk_at "lo") => `(tactic| ((with_reducible show ∃ (xs : List D), AllD [SV.d _, SV.d _, SV.d _, SV.d _, SV.d _, SV.d _] xs ∧ _); refine ⟨_, .cons (.cons (.cons (.cons (.cons (.cons .nil))))), ?_⟩))
local macro_rules | `(tactic| walk_at "lq") => `(tactic| ((with_reducible show ∃ (xs : List D), AllD [SV.d _, SV.d _, SV.d _, SV.d _, SV.d _, SV.d _] xs ∧ _); refine ⟨_, .cons (.cons (.cons (.cons (.cons (.cons .nil))))), ?_⟩))
local macro_rules | `(tactic| walk_at "lo") => `(tactic| ((with_reducible show ∃ (xs : List D), AllD [SV.d _, SV.d _, SV.d _, SV.d _, SV.d _, SV.d _, SV.d _] xs ∧ _); refine ⟨_, .cons (.cons (.cons (.cons (.cons (.cons (.cons .nil)))))), ?_⟩))
local macro_rules | `(tactic| walk_at "lq") => `(tactic| ((with_reducible show ∃ (xs : List D), AllD [SV.d _, SV.d _, SV.d _, SV.d _, SV.d _, SV.d _, SV.d _] xs ∧ _); refine ⟨_, .cons (.cons (.cons (.cons (.cons (.cons (.cons .nil)))))), ?_⟩))
local macro_rules | `(tactic| walk_at "lo") => `(tactic| ((with_reducible show ∃ (xs : List D), AllD [SV.d _, SV.d _, SV.d _, SV.d _, SV.d _, SV.d _, SV.d _, SV.d _] xs ∧ _); refine ⟨_, .cons (.cons (.cons (.cons (.cons (.cons (.cons (.cons .nil))))))), ?_⟩))
local macro_rules | `(tactic| walk_at "lq") => `(tactic| ((with_reducible show ∃ (xs : List D), AllD [SV.d _, SV.d _, SV.d _, SV.d _, SV.d _, SV.d _, SV.d _, SV.d _] xs ∧ _); refine ⟨_, .cons (.cons (.cons (.cons (.cons (.cons (.cons (.cons .nil))))))), ?_⟩))
local macro_rules | `(tactic| walk_at "lo") => `(tactic| ((with_reducible show Lo.WE _ _ (tLst (tCons _ _)) _ _ _); refine we_lst ?_))
local macro_rules | `(tactic| walk_at "lq") => `(tactic| ((with_reducible show Lo.WE _ _ (tLst (tCons _ _)) _ _ _); refine we_lst ?_))
local macro_rules | `(tactic| walk_at "lo") => `(tactic| ((with_reducible show Lo.WE _ _ (tDisp [(tC (V.str _), tC (V.str _))]) _ _ _); refine we_disp1 (d := .str _) (fun _ => rfl) ?_))
local macro_rules | `(tactic| walk_at "lq") => `(tactic| ((with_reducible show Lo.WE _ _ (tDisp [(tC (V.str _), tC (V.str _))]) _ _ _); refine we_disp1 (d := .str _) (fun _ => rfl) ?_))
local macro_rules | `(tactic| walk_at "lo") => `(tactic| ((with_reducible show Lo.WE _ _ (tDisp [(tC (V.str _), tC (V.int _))]) _ _ _); refine we_disp1 (d := .int _) (fun _ => rfl) ?_))
local macro_rules | `(tactic| walk_at "lq") => `(tactic| ((with_reducible show Lo.WE _ _ (tDisp [(tC (V.str _), tC (V.int _))]) _ _ _); refine we_disp1 (d := .int _) (fun _ => rfl) ?_))
local macro_rules | `(tactic| walk_at "wr") => `(tactic| first | (with_reducible refine wr_notB ?_) | (with_reducible refine wr_isB ?_) | fail "no")
local macro_rules | `(tactic| walk_at "we") => `(tactic| first | (with_reducible refine we_calK ?_) | fail "no")
local macro_rules | `(tactic| walk_at "da") => `(tactic| ((with_reducible show ∃ (x : D), [SV.d _] = [SV.d x] ∧ _); refine ⟨_, rfl, ?_⟩))

def roleOf (u : D) : Int := match items u with | some (.int n :: _) => n | _ => 0
/-- what is wrong with a row behind the role last -/
def rowF (last : Int) (u : D) : Option Str := if isRow u 3 3 = false then some "row" else match items u with
  | some [x, y, z] => if isWhole x (some (last + 1)) (some 5) = false then some "role" else if (isEnding y && isEnding z) = false then some "ending" else none
  | _ => none
def tabF (last : Int) : List D → Option Str
  | [] => none
  | u :: r => match rowF last u with | some wd => some wd | none => tabF (roleOf u) r
/-- what is wrong with a table -/
def tabW (t : D) : Option Str := if isRow t 1 6 = false then some "table" else tabF (-1) ((items t).getD [])
def rowT (u : D) : D := match items u with | some [x, y, z] => .tup [x, .tup ((items y).getD []), .tup ((items z).getD [])] | _ => .non
def tabT (t : D) : D := .tup (((items t).getD []).map rowT)
def okRow3 (u : D) : Prop := u.isO = false ∧ ∀ xs, items u = some xs → xs.length ≤ 100000 ∧ ∀ x ∈ xs, okRow x
def okTab (t : D) : Prop := t.isO = false ∧ ∀ xs, items t = some xs → xs.length ≤ 100000 ∧ ∀ u ∈ xs, okRow3 u
def stE (wd : Str) : Er := ⟨1, [("what", .str wd)]⟩
theorem row_some {t : D} {lo hi : Int} (h : isRow t lo hi = true) : ∃ xs, items t = some xs ∧ lo ≤ xs.length ∧ (xs.length : Int) ≤ hi := by
  cases e : items t with
  | none => simp [isRow, e] at h
  | some xs =>
    simp only [isRow, e, Bool.and_eq_true, decide_eq_true_eq] at h
    exact ⟨xs, rfl, h.1, h.2⟩
theorem row3 {u : D} (h : isRow u 3 3 = true) : ∃ x y z, items u = some [x, y, z] := by
  obtain ⟨xs, e, h1, h2⟩ := row_some h
  match xs, e, (show xs.length = 3 by omega) with
  | [x, y, z], e, _ => exact ⟨x, y, z, e⟩
theorem end_seq {t : D} (h : isEnding t = true) : ∃ xs, items t = some xs ∧ (t = .lst xs ∨ t = .tup xs) := by
  unfold isEnding at h
  rw [Bool.and_eq_true] at h
  obtain ⟨xs, e, _⟩ := row_some h.1
  exact ⟨xs, e, items_of e⟩
theorem tabF_all : ∀ {xs : List D} {last : Int}, tabF last xs = none → ∀ u ∈ xs, ∃ n y z, items u = some [.int n, y, z] ∧ isEnding y = true ∧ isEnding z = true
  | u :: r, last, h, v, hv => by
    unfold tabF at h
    cases e : rowF last u with
    | some wd => rw [e] at h; cases h
    | none =>
      rw [e] at h
      rcases List.mem_cons.mp hv with rfl | hv
      · unfold rowF at e
        split at e
        · cases e
        · rename_i hr
          obtain ⟨x, y, z, ei⟩ := row3 (by simpa using hr)
          rw [ei] at e
          dsimp only at e
          split at e
          · cases e
          · rename_i hx
            split at e
            · cases e
            · rename_i hyz
              obtain ⟨n, rfl⟩ : ∃ n, x = .int n := by
                cases x <;> first | exact ⟨_, rfl⟩ | (exact absurd rfl hx)
              have hyz : (isEnding y && isEnding z) = true := by simpa using hyz
              rw [Bool.and_eq_true] at hyz
              exact ⟨n, y, z, ei, hyz.1, hyz.2⟩
      · exact tabF_all h v hv
theorem wr_ixQ {T : Tb} {b : Bd} {own : List OW} {Q : PSv} {K : PySem.W.Frag} (hK : T.K = K) {u x : D} {xs : List D} {i : Int} (hu : u = .lst xs ∨ u = .tup xs) (e : atI xs i = some x) (p : Q (.d x) own) : WR T b (Lo.rIx K) own (.d u) (.d (.int i)) Q := by
  subst hK
  rcases hu with rfl | rfl
  · exact wr_ixL e p
  · exact wr_ixT e p
section
variable {P : Program} {w : World} {K : Frag} {mg : Str → Option Value} {base : Heap} {a : Ad}
abbrev F__checked_table : DF := Fv (ι := D) (fun i => [i]) (fun i => okTab i) (fun i d => tabW i = none ∧ d = tabT i) (fun i e => ∃ wd, tabW i = some wd ∧ e = stE wd)
theorem ok__checked_table {fd} (X : Txt P K mg a) (F : DefAt K "_checked_table" "_checked_table" s__checked_table [] a.f__checked_table fd) : FnOk P w K mg base (L2.CX P w) 4 a.f__checked_table fd ["table"] (SpP (TT K a) F__checked_table) := by
  refine okP (fun i => [some (.d (i)), none, none, none, none, none]) F sc__checked_table (fun _ => rfl) fun cdv A outer s H E hr => 
   have hu := hr.units
   ⟨_, 
   (pss_cons (ps_if (pt_not (pt_val (pe_cal X.A_is_row (cal_is_row X) hr (by rfl) passL (pa_cons (pv 0) (pa_cons pe_int (pa_cons pe_int pa_nil))))))
  (pss_one (ps_raise rfl (takes_of rfl rfl rfl rfl) (pmk_err X.ox_BadStock X.xi_BadStock X.xti_BadStock X.g_BadStock (cal_BadStock___init__ X) hr (by rfl) (pa_cons pe_str pa_nil))))
  pss_nil)
  (pss_cons (ps_set (i := 1) sc__checked_table.nd rfl (Or.inl rfl) (pe_un un_neg pe_int))
  (pss_cons (ps_for (passes_of rfl) rfl (pi_seq (pv 0)) (pg_name (i := 2) sc__checked_table.nd rfl (Or.inl rfl))
  (pss_cons (ps_if (pt_not (pt_val (pe_cal X.A_is_row (cal_is_row X) hr (by rfl) passL (pa_cons (pv 2) (pa_cons pe_int (pa_cons pe_int pa_nil))))))
  (pss_one (ps_raise rfl (takes_of rfl rfl rfl rfl) (pmk_err X.ox_BadStock X.xi_BadStock X.xti_BadStock X.g_BadStock (cal_BadStock___init__ X) hr (by rfl) (pa_cons pe_str pa_nil))))
  pss_nil)
  (pss_cons (ps_if (pt_not (pt_val (pe_cal X.A_is_whole (cal_is_whole X) hr (by rfl) passL (pa_cons (pe_ix ix_any (pv 2) pe_int (fun _ _ => rfl)) (pa_cons (pe_op op_addA (pv 1) pe_int) (pa_cons pe_int pa_nil))))))
  (pss_one (ps_raise rfl (takes_of rfl rfl rfl rfl) (pmk_err X.ox_BadStock X.xi_BadStock X.xti_BadStock X.g_BadStock (cal_BadStock___init__ X) hr (by rfl) (pa_cons pe_str pa_nil))))
  pss_nil)
  (pss_cons (ps_if (pt_not (PW.pt (pw_and (pt_val (pe_cal X.A_is_ending (cal_is_ending X) hr (by rfl) passL (pa_cons (pe_ix ix_any (pv 2) pe_int (fun _ _ => rfl)) pa_nil))) (pw_and1 (pt_val (pe_cal X.A_is_ending (cal_is_ending X) hr (by rfl) passL (pa_cons (pe_ix ix_any (pv 2) pe_int (fun _ _ => rfl)) pa_nil)))))))
  (pss_one (ps_raise rfl (takes_of rfl rfl rfl rfl) (pmk_err X.ox_BadStock X.xi_BadStock X.xti_BadStock X.g_BadStock (cal_BadStock___init__ X) hr (by rfl) (pa_cons pe_str pa_nil))))
  pss_nil)
  (pss_one (ps_set (i := 1) sc__checked_table.nd rfl (Or.inl rfl) (pe_ix ix_any (pv 2) pe_int (fun _ _ => rfl))))))))
  (pss_one (ps_ret (pe_callTy call_tupA (by rfl) X.n_tuple (by decide +kernel) (pa_cons (pe_lc (own := [("role", 3), ("one", 4), ("many", 5)]) (by rfl) sc__checked_table.nd (pi_seq (pv 0)) (blkOk_by (own := [("role", 3), ("one", 4), ("many", 5)]) (N := N__checked_table) (sc := defScope s__checked_table) (by decide +kernel)) (fun _ _ _ _ _ => (LX.pg_seqK K 3 rfl (by rfl) (pgs_cons (pg_name (i := 3) sc__checked_table.nd rfl (Or.inl rfl)) (pgs_cons (pg_name (i := 4) sc__checked_table.nd rfl (Or.inl rfl)) (pgs_cons (pg_name (i := 5) sc__checked_table.nd rfl (Or.inl rfl)) pgs_nil))))) (fun _ _ _ _ _ => pts_nil) (fun _ _ _ _ _ => (pe_tup (pa_cons (pv 3) (pa_cons (pe_callTy (kCa K Lo.rTupA rfl call_tupA) (by rfl) X.n_tuple (by decide +kernel) (pa_cons (pv 4) pa_nil)) (pa_cons (pe_callTy (kCa K Lo.rTupA rfl call_tupA) (by rfl) X.n_tuple (by decide +kernel) (pa_cons (pv 5) pa_nil)) pa_nil)))))) pa_nil))))))), fun b t hp hx => ?_⟩
  dsimp only [CxB, L2.cxOf] at hp ⊢
  obtain ⟨hp, hz⟩ := hp
  repeat' walk_at "lo"
  refine ⟨(t, 1, 6), rfl, hp, fun _ z => z, ?_⟩
  rintro d rfl
  repeat' walk_at "lo"
  · rename_i hk
    refine ws_raise (c := 1) rfl hx ?_
    repeat' walk_at "lo"
    refine ⟨by decide, ⟨"table", rfl, by decide +kernel⟩, "table", ?_, rfl⟩
    unfold tabW
    rw [if_pos (by simpa using hk)]
  rename_i hk
  have hk : isRow t 1 6 = true := by simpa using hk
  obtain ⟨xs, hxs, h1, h6⟩ := row_some hk
  have htx := items_of hxs
  obtain ⟨hl, hx0⟩ := hz xs hxs
  have etab : tabW t = tabF (-1) xs := by
    unfold tabW
    rw [if_neg (by rw [hk]; simp), hxs]
    rfl
  have ett : tabT t = .tup (xs.map rowT) := by
    unfold tabT
    rw [hxs]
    rfl
  rw [etab] at hx ⊢
  rw [ett]
  repeat' walk_at "lo"
  refine ws_for (js := [2]) (fun its i o s => o = [] ∧ ∃ last, s = [some (.d t), some (.d (.int last)), none, none, none, none] ∧ tabF (-1) xs = tabF last (xs.drop i)) (wi_seq (we_var rfl ?_))
  refine ⟨xs, htx.imp (congrArg SV.d) (congrArg SV.d), Nat.le_refl _, ⟨rfl, -1, rfl, rfl⟩, ?_, ?_⟩
  · rintro i u o s hi ⟨rfl, last, rfl, hinv⟩
    have hum := List.mem_of_getElem? hi
    have edrop : xs.drop i = u :: xs.drop (i + 1) := by
      obtain ⟨h, e⟩ := List.getElem?_eq_some_iff.mp hi
      rw [List.drop_eq_getElem_cons h, e]
    have hu3 := hx0 u hum
    have fin : ∀ wd, rowF last u = some wd → tabF (-1) xs = some wd := fun wd h => by
      rw [hinv, edrop]
      unfold tabF
      rw [h]
    have nxt : rowF last u = none → tabF (-1) xs = tabF (roleOf u) (xs.drop (i + 1)) := fun h => by
      rw [hinv, edrop]
      conv => lhs; unfold tabF
      rw [h]
    refine ⟨OwP_nil, Nat.le_refl _, wg_name ?_⟩
    repeat' walk_at "lo"
    refine ⟨(u, 3, 3), rfl, hu3.1, fun _ z => z, ?_⟩
    rintro d rfl
    repeat' walk_at "lo"
    · rename_i hr
      refine ws_raise (c := 1) rfl hx ?_
      repeat' walk_at "lo"
      refine ⟨by decide, ⟨"row", rfl, by decide +kernel⟩, "row", fin _ ?_, rfl⟩
      unfold rowF
      rw [if_pos (by simpa using hr)]
    rename_i hr
    have hr : isRow u 3 3 = true := by simpa using hr
    obtain ⟨x, y, z, eu⟩ := row3 hr
    have hux := items_of eu
    obtain ⟨_, hx3⟩ := hu3.2 _ eu
    have erow : rowF last u = if isWhole x (some (last + 1)) (some 5) = false then some ("role" : Str) else if (isEnding y && isEnding z) = false then some ("ending" : Str) else none := by
      unfold rowF
      rw [if_neg (by rw [hr]; simp), eu]
    repeat' walk_at "lo"
    refine wr_ixQ rfl hux rfl ?_
    repeat' walk_at "lo"
    refine ⟨(x, some (last + 1), some 5), rfl, (hx3 x (by simp)).1, fun _ z => z, ?_⟩
    rintro d rfl
    repeat' walk_at "lo"
    · rename_i hw
      refine ws_raise (c := 1) rfl hx ?_
      repeat' walk_at "lo"
      refine ⟨by decide, ⟨"role", rfl, by decide +kernel⟩, "role", fin _ ?_, rfl⟩
      rw [erow, if_pos (by simpa using hw)]
    rename_i hw
    have hw : isWhole x (some (last + 1)) (some 5) = true := by simpa using hw
    rw [if_neg (by rw [hw]; simp)] at erow
    obtain ⟨n, rfl⟩ : ∃ n, x = .int n := by
      cases x <;> first | exact ⟨_, rfl⟩ | (exact absurd hw (by simp [isWhole]))
    have ern : roleOf u = n := by
      unfold roleOf
      rw [eu]
    repeat' walk_at "lo"
    refine wr_ixQ rfl hux rfl ?_
    repeat' walk_at "lo"
    refine ⟨hx3 y (by simp), fun _ z => z, ?_⟩
    rintro d rfl
    have bad : (isEnding y && isEnding z) = false → tabF (-1) xs = some "ending" := fun h => fin _ (by rw [erow, if_pos h])
    repeat' walk_at "lo"
    · refine wr_ixQ rfl hux rfl ?_
      repeat' walk_at "lo"
      refine ⟨hx3 z (by simp), fun _ z => z, ?_⟩
      rintro d rfl
      repeat' walk_at "lo"
      · rename_i h1 h2
        refine ws_raise (c := 1) rfl hx ?_
        repeat' walk_at "lo"
        refine ⟨by decide, ⟨"ending", rfl, by decide +kernel⟩, "ending", bad ?_, rfl⟩
        simp_all
      · rename_i hy hz'
        refine wr_ixQ rfl hux rfl ?_
        repeat' walk_at "lo"
        refine ⟨_, _, ⟨List.prefix_refl _, .keepd (.keepd (.drop (.drop (.drop (.drop .nil)))))⟩, OwP_nil, Nat.le_refl _, rfl, n, rfl, ?_⟩
        rw [nxt (by rw [erow, if_neg]; simp_all), ern]
    · rename_i hy
      refine ws_raise (c := 1) rfl hx ?_
      repeat' walk_at "lo"
      refine ⟨by decide, ⟨"ending", rfl, by decide +kernel⟩, "ending", bad ?_, rfl⟩
      simp_all
  · rintro o s ⟨rfl, last, rfl, hinv⟩
    rw [List.drop_length] at hinv
    have hnone : tabF (-1) xs = none := hinv
    have hall := tabF_all hnone
    repeat' walk_at "lo"
    refine we_lcf (js := [3, 4, 5]) (by decide) rowT (wi_seq (we_var rfl ?_))
    refine ⟨xs, htx.imp (congrArg SV.d) (congrArg SV.d), Nat.le_refl _, OwP_nil, hl, fun x acc hm => ?_, ?_⟩
    · obtain ⟨n, y, z, eu, hy, hz'⟩ := hall x hm
      obtain ⟨ys, ey, hys⟩ := end_seq hy
      obtain ⟨zs, ez, hzs⟩ := end_seq hz'
      refine wg_seq3 rfl (items_of eu).symm ?_
      repeat' walk_at "lo"
      refine wc_tup hys ?_
      repeat' walk_at "lo"
      refine wc_tup hzs ?_
      repeat' walk_at "lo"
      refine ⟨?_, rfl⟩
      unfold rowT
      rw [eu]
      show _ = SV.d (.tup [_, .tup ((items y).getD []), .tup ((items z).getD [])])
      rw [ey, ez]
      rfl
    · repeat' walk_at "lo"
      refine wc_tup (.inl rfl) ?_
      exact ⟨_, rfl, hnone, rfl⟩
theorem cal__checked_table (X : Txt P K mg a) : Cal P w K mg base 4 a.f__checked_table ["table"] (SpP (TT K a) F__checked_table) [] := by
  obtain ⟨fd, F⟩ := X.F__checked_table
  exact ⟨fd, [], ok__checked_table X F, .nil, F.bindsN fun _ _ _ _ _ _ us hl => match us, hl with | [_], _ => rfl⟩
end
end L3
end
section
set_option Elab.async false
set_option linter.all false
set_option maxRecDepth 100000
set_option maxHeartbeats 1000000
namespace L3
open PySem PySem.Spec PyProof.Rows L2 PySem.W PySem.Calls Lo
local macro_rules | `(tactic| walk_at "sd") => `(tactic| first | exact .d | rfl | assumption | (with_reducible decide) | omega | exact .nil | exact AllD.nil)
local macro_rules | `(tactic| walk_at "we") => `(tactic| first
  | ((with_reducible refine' we_var ?hv ?_); (case hv => rfl))
  | (with_reducible refine we_int ?_)
  | (with_reducible refine we_op ?_)
  | (with_reducible refine we_str ?_)
  | (with_reducible refine we_isi ?_)
  | (with_reducible refine we_isi2 ?_)
  | (with_reducible refine we_cb ?_)
  | (with_reducible refine we_andV ?_)
  | (with_reducible refine we_orV ?_)
  | (with_reducible refine we_notV ?_)
  | (with_reducible refine we_non ?_)
  | (with_reducible refine we_bl ?_)
  | (with_reducible refine we_if ?_)
  | (with_reducible refine we_un ?_)
  | (with_reducible refine we_cal0 ?_)
  | (with_reducible refine we_cal2 ?_)
  | (with_reducible refine we_calH ?_)
  | (with_reducible refine we_prp ?_)
  | (with_reducible refine we_tup ?_)
  | (with_reducible refine we_chain ?_))
local macro_rules | `(tactic| walk_at "ws") => `(tactic| first
  | (with_reducible refine ws_seq ?_)
  | (with_reducible refine ws_if ?_)
  | (with_reducible refine ws_set ?_)
  | (with_reducible refine ws_ret ?_)
  | (with_reducible refine ws_next ?_)
  | (with_reducible refine ws_drop ?_)
  | (with_reducible refine ws_retN ?_))
local macro_rules | `(tactic| walk_at "wt") => `(tactic| first
  | (with_reducible refine wt_test ?_)
  | (with_reducible refine wt_B ?_)
  | (with_reducible refine wt_and ?_)
  | (with_reducible refine wt_or ?_)
  | (with_reducible refine wt_not ?_))
local macro_rules | `(tactic| walk_at "wr") => `(tactic| first
  | (with_reducible refine wr_addI ?_)
  | (with_reducible refine wr_leI ?_)
  | (with_reducible refine wr_B0 ?_)
  | (with_reducible refine wr_I0 ?_)
  | (with_reducible refine wr_isN ?_)
  | (with_reducible refine wr_notN ?_)
  | (with_reducible refine wr_leS ?_)
  | ((with_reducible refine' wr_ixL ?hv ?_); (case hv => rfl))
  | ((with_reducible refine' wr_ixT ?hv ?_); (case hv => rfl))
  | ((with_reducible refine' wr_ixO ?hv ?hw ?_); (case hv => rfl); (case hw => rfl))
  | ((with_reducible refine' wr_eqD ?h1 ?h2 ?h3 ?h4 ?_); (case h1 => exact .d); (case h2 => exact .d); (case h3 => rfl); (case h4 => rfl))
  | ((with_reducible refine' wr_neD ?h1 ?h2 ?h3 ?h4 ?_); (case h1 => exact .d); (case h2 => exact .d); (case h3 => rfl); (case h4 => rfl)))
local macro_rules | `(tactic| walk_at "da") => `(tactic| first
  | (with_reducible refine ⟨_, rfl, ?_⟩)
  | (with_reducible refine ⟨fun _ => ?_, fun h => Bool.noConfusion h⟩)
  | (with_reducible refine ⟨fun h => Bool.noConfusion h, fun _ => ?_⟩)
  | (with_reducible refine ⟨_, rfl, ?_, ?_⟩)
  | ((with_reducible refine' ⟨_, _, .d, ?h1, ?h2, ?_⟩); (case h1 => walk_at "sd"); (case h2 => rfl))
  | ((with_reducible refine' ⟨_, _, _, .d, ?h1, ?h2, ?h3, ?_⟩); (case h1 => walk_at "sd"); (case h2 => rfl); (case h3 => rfl))
  | (with_reducible refine ⟨fun hk => ?_, fun hk => ?_⟩)
  | (show ∃ d, SV.d _ = SV.d d ∧ _; with_reducible refine ⟨_, rfl, ?_⟩))
local macro_rules | `(tactic| walk_at "lo") => `(tactic| first
  | ((with_reducible show Lo.WE _ _ _ _ _ _); walk_at "we")
  | ((with_reducible show Lo.WA _ _ _ _ _ _); first | (with_reducible refine wa_cons ?_) | (with_reducible refine wa_nil ?_))
  | ((with_reducible show Lo.WS _ _ _ _ _ _); walk_at "ws")
  | ((with_reducible show Lo.WT _ _ _ _ _ _); walk_at "wt")
  | ((with_reducible show Lo.WR _ _ _ _ _ _ _); walk_at "wr")
  | ((with_reducible show Lo.WU _ _ _ _ _ _); (with_reducible refine wu_neg ?_))
  | ((with_reducible show Lo.WC _ _ _ _ _ _); first | ((with_reducible refine' wc_len ?hv ?_); (case hv => rfl)) | (with_reducible refine wc_int ?_))
  | walk_at "da")
local macro_rules | `(tactic| walk_at "wq") => `(tactic| first
  | (with_reducible refine ws_seq (t := tAsg _ _) ?_)
  | (with_reducible refine ws_seq (t := tDrop _) ?_)
  | (with_reducible refine ws_set ?_)
  | (with_reducible refine ws_ret ?_)
  | (with_reducible refine ws_next ?_)
  | (with_reducible refine ws_drop ?_)
  | (with_reducible refine ws_retN ?_))
local macro_rules | `(tactic| walk_at "lq") => `(tactic| first
  | ((with_reducible show Lo.WE _ _ _ _ _ _); walk_at "we")
  | ((with_reducible show Lo.WA _ _ _ _ _ _); first | (with_reducible refine wa_cons ?_) | (with_reducible refine wa_nil ?_))
  | ((with_reducible show Lo.WS _ _ _ _ _ _); walk_at "wq")
  | ((with_reducible show Lo.WT _ _ _ _ _ _); walk_at "wt")
  | ((with_reducible show Lo.WR _ _ _ _ _ _ _); walk_at "wr")
  | ((with_reducible show Lo.WU _ _ _ _ _ _); (with_reducible refine wu_neg ?_))
  | ((with_reducible show Lo.WC _ _ _ _ _ _); first | ((with_reducible refine' wc_len ?hv ?_); (case hv => rfl)) | (with_reducible refine wc_int ?_))
  | walk_at "da")
local macro_rules | `(tactic| walk_at "ws") => `(tactic| (with_reducible refine ws_sub ?_))
local macro_rules | `(tactic| walk_at "wq") => `(tactic| (with_reducible refine ws_sub ?_))
local macro_rules | `(tactic| walk_at "da") => `(tactic| ((with_reducible show ∃ (i : Int) (j : Nat) (ss : List SV), SV.d (D.int _) = SV.d (D.int i) ∧ _); refine ⟨_, _, _, rfl, (rfl : _ = some (OW.lst _)), rfl, ?_⟩))
local macro_rules | `(tactic| walk_at "da") => `(tactic| ((with_reducible show ∃ (k : Nat) (ss : List SV), SV.p _ = SV.p k ∧ _); refine ⟨_, _, rfl, (rfl : _ = some (OW.lst _)), ?_⟩))
local macro_rules | `(tactic| walk_at "we") => `(tactic| (with_reducible refine we_bm ?_))
local macro_rules | `(tactic| walk_at "lo") => `(tactic| ((with_reducible show Lo.WC _ _ (Lo.rLen _) _ [SV.p _] _); refine wc_lenO (rfl : _ = some (OW.lst _)) ?_))
local macro_rules | `(tactic| walk_at "lq") => `(tactic| ((with_reducible show Lo.WC _ _ (Lo.rLen _) _ [SV.p _] _); refine wc_lenO (rfl : _ = some (OW.lst _)) ?_))
local macro_rules | `(tactic| walk_at "da") => `(tactic| ((with_reducible show ∃ (k : Nat) (sr : List SV) (xs : List D), [SV.p _] = SV.p k :: sr ∧ _); refine ⟨_, _, _, rfl, (rfl : _ = some OW.hand), .nil, ?_⟩))
local macro_rules | `(tactic| walk_at "da") => `(tactic| ((with_reducible show ∃ (k : Nat) (sr : List SV) (xs : List D), [SV.p _, SV.d _] = SV.p k :: sr ∧ _); refine ⟨_, _, _, rfl, (rfl : _ = some OW.hand), .cons .nil, ?_⟩))
local macro_rules | `(tactic| walk_at "da") => `(tactic| ((with_reducible show ∃ (k : Nat) (sr : List SV) (xs : List D), [SV.p _, SV.d _, SV.d _] = SV.p k :: sr ∧ _); refine ⟨_, _, _, rfl, (rfl : _ = some OW.hand), .cons (.cons .nil), ?_⟩))
local macro_rules | `(tactic| walk_at "da") => `(tactic| ((with_reducible show ∃ (xs : List D), AllD [] xs ∧ _); refine ⟨_, .nil, ?_⟩))
local macro_rules | `(tactic| walk_at "da") => `(tactic| ((with_reducible show ∃ (xs : List D), AllD [SV.d _] xs ∧ _); refine ⟨_, .cons .nil, ?_⟩))
local macro_rules | `(tactic| walk_at "da") => `(tactic| ((with_reducible show ∃ (xs : List D), AllD [SV.d _, SV.d _] xs ∧ _); refine ⟨_, .cons (.cons .nil), ?_⟩))
local macro_rules | `(tactic| walk_at "da") => `(tactic| ((with_reducible show ∃ (xs : List D), AllD [SV.d _, SV.d _, SV.d _] xs ∧ _); refine ⟨_, .cons (.cons (.cons .nil)), ?_⟩))
local macro_rules | `(tactic| walk_at "da") => `(tactic| ((with_reducible show ∃ (xs : List D), AllD [SV.d _, SV.d _, SV.d _, SV.d _] xs ∧ _); refine ⟨_, .cons (.cons (.cons (.cons .nil))), ?_⟩))
local macro_rules | `(tactic| walk_at "lo") => `(tactic| ((with_reducible show Lo.WO _ _ _ _ _ _); first | (with_reducible refine wo_none ?_) | (with_reducible refine wo_some ?_)))
local macro_rules | `(tactic| walk_at "lq") => `(tactic| ((with_reducible show Lo.WO _ _ _ _ _ _); first | (with_reducible refine wo_none ?_) | (with_reducible refine wo_some ?_)))
local macro_rules | `(tactic| walk_at "da") => `(tactic| first | ((with_reducible refine' takeG ?h ?_); (case h => (constructor <;> omega)); (intro k h0 h1)) | fail "no")
local macro_rules | `(tactic| walk_at "wr") => `(tactic| first | ((with_reducible refine' wr_pow ?h ?_); (case h => exact ⟨by decide, by decide, by decide⟩)) | fail "no")
local macro_rules | `(tactic| walk_at "we") => `(tactic| first | (with_reducible refine we_dnew ?_) | (with_reducible refine we_setd ?_) | (with_reducible refine we_dget ?_) | (with_reducible refine we_dget2 ?_) | (with_reducible refine we_sadd ?_) | fail "no")
local macro_rules | `(tactic| walk_at "lo") => `(tactic| ((with_reducible show Lo.WC _ _ (rSet0 _) _ _ _); refine wc_set0 ?_))
local macro_rules | `(tactic| walk_at "da") => `(tactic| ((with_reducible show ∃ (ks : List L2.Key) (vs : List D), SV.d (D.dct _ _) = SV.d (D.dct ks vs) ∧ _); refine ⟨_, _, rfl, ?_⟩))
local macro_rules | `(tactic| walk_at "da") => `(tactic| ((with_reducible show ∃ (dy : D) (key : L2.Key), SV.d (D.int _) = SV.d dy ∧ _); refine ⟨_, _, rfl, rfl, ?_⟩))
local macro_rules | `(tactic| walk_at "we") => `(tactic| first | (with_reducible refine we_bm0 ?_) | fail "no")
local macro_rules | `(tactic| walk_at "wr") => `(tactic| first | ((with_reducible show WR _ _ (rSNotIn _) _ _ _ _); refine wr_snotin (rfl : _ = some (oSet _ _ _)) ?_) | fail "no")
local macro_rules | `(tactic| walk_at "da") => `(tactic| ((with_reducible show ∃ (k : Nat) (S : Int → Bool) (n : Nat), SV.p _ = SV.p k ∧ _); refine ⟨_, _, _, rfl, (rfl : _ = some (oSet _ _ _)), ?_⟩))

local macro_rules | `(tactic| walk_at "lo") => `(tactic| ((with_reducible show List.length _ ≤ 100000 ∧ _); first | (refine ⟨Nat.le_of_ble_eq_true rfl, ?_⟩) | fail "no"))
local macro_rules | `(tactic| walk_at "lq") => `(tactic| ((with_reducible show List.length _ ≤ 100000 ∧ _); first | (refine ⟨Nat.le_of_ble_eq_true rfl, ?_⟩) | fail "no"))
local macro_rules | `(tactic| walk_at "lo") => `(tactic| ((with_reducible show ∃ (xs : List D), AllD [SV.d _, SV.d _, SV.d _, SV.d _, SV.d _] xs ∧ _); refine ⟨_, .cons (.cons (.cons (.cons (.cons .nil)))), ?_⟩))
local macro_rules | `(tactic| walk_at "lq") => `(tactic| ((with_reducible show ∃ (xs : List D), AllD [SV.d _, SV.d _, SV.d _, SV.d _, SV.d _] xs ∧ _); refine ⟨_, .cons (.cons (.cons (.cons (.cons .nil)))), ?_⟩))
local macro_rules | `(tactic| walk_at "lo") => `(tactic| ((with_reducible show ∃ (xs : List D), AllD [SV.d _, SV.d _, SV.d _, SV.d _, SV.d _, SV.d _] xs ∧ _); refine ⟨_, .cons (.cons (.cons (.cons (.cons (.cons .nil))))), ?_⟩))
local macro_rules | `(tactic| walk_at "lq") => `(tactic| ((with_reducible show ∃ (xs : List D), AllD [SV.d _, SV.d _, SV.d _, SV.d _, SV.d _, SV.d _] xs ∧ _); refine ⟨_, .cons (.cons (.cons (.cons (.cons (.cons .nil))))), ?_⟩))
local macro_rules | `(tactic| walk_at "lo") => `(tactic| ((with_reducible show ∃ (xs : List D), AllD [SV.d _, SV.d _, SV.d _, SV.d _, SV.d _, SV.d _, SV.d _] xs ∧ _); refine ⟨_, .cons (.cons (.cons (.cons (.cons (.cons (.cons .nil)))))), ?_⟩))
local macro_rules | `(tactic| walk_at "lq") => `(tactic| ((with_reducible show ∃ (xs : List D), AllD [SV.d _, SV.d _, SV.d _, SV.d _, SV.d _, SV.d _, SV.d _] xs ∧ _); refine ⟨_, .cons (.cons (.cons (.cons (.cons (.cons (.cons .nil)))))), ?_⟩))
local macro_rules | `(tactic| walk_at "lo") => `(tactic| ((with_reducible show ∃ (xs : List D), AllD [SV.d _, SV.d _, SV.d _, SV.d _, SV.d _, SV.d _, SV.d _, SV.d _] xs ∧ _); refine ⟨_, .cons (.cons (.cons (.cons (.cons (.cons (.cons (.cons .nil))))))), ?_⟩))
local macro_rules | `(tactic| walk_at "lq") => `(tactic| ((with_reducible show ∃ (xs : List D), AllD [SV.d _, SV.d _, SV.d _, SV.d _, SV.d _, SV.d _, SV.d _, SV.d _] xs ∧ _); refine ⟨_, .cons (.cons (.cons (.cons (.cons (.cons (.cons (.cons .nil))))))), ?_⟩))
local macro_rules | `(tactic| walk_at "lo") => `(tactic| ((with_reducible show Lo.WE _ _ (tLst (tCons _ _)) _ _ _); refine we_lst ?_))
local macro_rules | `(tactic| walk_at "lq") => `(tactic| ((with_reducible show Lo.WE _ _ (tLst (tCons _ _)) _ _ _); refine we_lst ?_))
local macro_rules | `(tactic| walk_at "lo") => `(tactic| ((with_reducible show Lo.WE _ _ (tDisp [(tC (V.str _), tC (V.str _))]) _ _ _); refine we_disp1 (d := .str _) (fun _ => rfl) ?_))
local macro_rules | `(tactic| walk_at "lq") => `(tactic| ((with_reducible show Lo.WE _ _ (tDisp [(tC (V.str _), tC (V.str _))]) _ _ _); refine we_disp1 (d := .str _) (fun _ => rfl) ?_))
local macro_rules | `(tactic| walk_at "lo") => `(tactic| ((with_reducible show Lo.WE _ _ (tDisp [(tC (V.str _), tC (V.int _))]) _ _ _); refine we_disp1 (d := .int _) (fun _ => rfl) ?_))
local macro_rules | `(tactic| walk_at "lq") => `(tactic| ((with_reducible show Lo.WE _ _ (tDisp [(tC (V.str _), tC (V.int _))]) _ _ _); refine we_disp1 (d := .int _) (fun _ => rfl) ?_))
local macro_rules | `(tactic| walk_at "wr") => `(tactic| first | (with_reducible refine wr_notB ?_) | (with_reducible refine wr_isB ?_) | fail "no")
local macro_rules | `(tactic| walk_at "we") => `(tactic| first | (with_reducible refine we_calK ?_) | fail "no")
local macro_rules | `(tactic| walk_at "da") => `(tactic| ((with_reducible show ∃ (x : D), [SV.d _] = [SV.d x] ∧ _); refine ⟨_, rfl, ?_⟩))

/-- what is wrong with a stock -/
def stW (nm t : D) : Option Str := if isName nm 8 = false then some "name" else tabW t
def stD (nm t : D) : D := .obj 0 [nm, tabT t]
section
variable {P : Program} {w : World} {K : Frag} {mg : Str → Option Value} {base : Heap} {a : Ad}
abbrev F_Stock___init__ : DF := Fv (ι := D × D) (fun i => [i.1, i.2]) (fun i => okStr i.1 ∧ okTab i.2) (fun i d => stW i.1 i.2 = none ∧ d = stD i.1 i.2) (fun i e => ∃ wd, stW i.1 i.2 = some wd ∧ e = stE wd)
theorem ok_Stock___init__ {fd} (X : Txt P K mg a) (F : DefAt K "__init__" "Stock.__init__" s_Stock___init__ [] a.f_Stock___init__ fd) : FnOk P w K mg base (L2.CX P w) 5 a.f_Stock___init__ fd ["self", "name", "table"] (SpI (TT K a) 0 F_Stock___init__) := by
  refine okI (fun i => [some (.p 0), some (.d (i.1)), some (.d (i.2))]) F sc_Stock___init__ (fun _ => rfl) fun cdv A outer s H E hr => 
   have hu := hr.units
   ⟨_, 
   (pss_cons (ps_if (pt_not (pt_val (pe_cal X.A_is_name (cal_is_name X) hr (by rfl) passL (pa_cons (pv 1) (pa_cons (pe_constI rfl X.c_NAME_MOST) pa_nil)))))
  (pss_one (ps_raise rfl (takes_of rfl rfl rfl rfl) (pmk_err X.ox_BadStock X.xi_BadStock X.xti_BadStock X.g_BadStock (cal_BadStock___init__ X) hr (by rfl) (pa_cons pe_str pa_nil))))
  pss_nil)
  (pss_cons (ps_fld (pv 0) (pv 1) rfl)
  (pss_one (ps_fld (pv 0) (pe_cal X.A__checked_table (cal__checked_table X) hr (by rfl) (passes_call (takes_of rfl rfl rfl rfl) fun _ _ _ _ h => h) (pa_cons (pv 2) pa_nil)) rfl)))), fun b ⟨nm, t⟩ hp hx => ?_⟩
  dsimp only [CxB, L2.cxOf] at hp ⊢
  obtain ⟨hnm, htb⟩ := hp
  refine ws_cut (fun o s => o = [.ins 0 []] ∧ s = [some (.p 0), some (.d nm), some (.d t)] ∧ isName nm 8 = true) ?_ ?_
  · repeat' walk_at "lo"
    refine ⟨(nm, 8), rfl, hnm, fun _ z => z, ?_⟩
    rintro d rfl
    repeat' walk_at "lo"
    · rename_i hk
      refine ws_raise (c := 1) rfl hx ?_
      repeat' walk_at "lo"
      refine ⟨by decide, ⟨_, rfl, by decide +kernel⟩, "name", ?_, rfl⟩
      unfold stW
      simp_all
    · simp_all
  rintro o s ⟨rfl, rfl, h1⟩
  have ew : stW nm t = tabW t := by
    unfold stW
    rw [if_neg (by rw [h1]; simp)]
  refine ws_seq (ws_fld ?_)
  repeat' walk_at "lo"
  refine ⟨0, 0, [], rfl, rfl, X.cl_Stock, X.no_Stock_name, by decide +kernel, by decide, ?_⟩
  refine ws_fld (we_calX hx ?_)
  repeat' walk_at "lo"
  refine ⟨htb, ?_, ?_⟩
  · rintro e ⟨wd, h, rfl⟩
    exact ⟨wd, by rw [ew]; exact h, rfl⟩
  rintro d ⟨hw, rfl⟩
  repeat' walk_at "lo"
  refine ⟨0, 0, _, rfl, rfl, X.cl_Stock, X.no_Stock_table, (by show ¬ ("table" : Str) ∈ (["name"] : List Str); decide +kernel), (by show 1 < 900; decide), ?_⟩
  exact ⟨_, _, rfl, rfl, .cons (.cons .nil), by rw [ew]; exact hw, rfl⟩
theorem cal_Stock___init__ (X : Txt P K mg a) : Cal P w K mg base 5 a.f_Stock___init__ ["self", "name", "table"] (SpI (TT K a) 0 F_Stock___init__) [] := by
  obtain ⟨fd, F⟩ := X.F_Stock___init__
  exact ⟨fd, [], ok_Stock___init__ X F, .nil, F.bindsN fun _ _ _ _ _ _ us hl => match us, hl with | [_, _, _], _ => rfl⟩
end
end L3
end
section
set_option Elab.async false
set_option linter.all false
set_option maxRecDepth 100000
set_option maxHeartbeats 1000000
namespace L3
open PySem PySem.Spec PyProof.Rows L2 PySem.W PySem.Calls Lo
local macro_rules | `(tactic| walk_at "sd") => `(tactic| first | exact .d | rfl | assumption | (with_reducible decide) | omega | exact .nil | exact AllD.nil)
local macro_rules | `(tactic| walk_at "we") => `(tactic| first
  | ((with_reducible refine' we_var ?hv ?_); (case hv => rfl))
  | (with_reducible refine we_int ?_)
  | (with_reducible refine we_op ?_)
  | (with_reducible refine we_str ?_)
  | (with_reducible refine we_isi ?_)
  | (with_reducible refine we_isi2 ?_)
  | (with_reducible refine we_cb ?_)
  | (with_reducible refine we_andV ?_)
  | (with_reducible refine we_orV ?_)
  | (with_reducible refine we_notV ?_)
  | (with_reducible refine we_non ?_)
  | (with_reducible refine we_bl ?_)
  | (with_reducible refine we_if ?_)
  | (with_reducible refine we_un ?_)
  | (with_reducible refine we_cal0 ?_)
  | (with_reducible refine we_cal2 ?_)
  | (with_reducible refine we_calH ?_)
  | (with_reducible refine we_prp ?_)
  | (with_reducible refine we_tup ?_)
  | (with_reducible refine we_chain ?_))
local macro_rules | `(tactic| walk_at "ws") => `(tactic| first
  | (with_reducible refine ws_seq ?_)
  | (with_reducible refine ws_if ?_)
  | (with_reducible refine ws_set ?_)
  | (with_reducible refine ws_ret ?_)
  | (with_reducible refine ws_next ?_)
  | (with_reducible refine ws_drop ?_)
  | (with_reducible refine ws_retN ?_))
local macro_rules | `(tactic| walk_at "wt") => `(tactic| first
  | (with_reducible refine wt_test ?_)
  | (with_reducible refine wt_B ?_)
  | (with_reducible refine wt_and ?_)
  | (with_reducible refine wt_or ?_)
  | (with_reducible refine wt_not ?_))
local macro_rules | `(tactic| walk_at "wr") => `(tactic| first
  | (with_reducible refine wr_addI ?_)
  | (with_reducible refine wr_leI ?_)
  | (with_reducible refine wr_B0 ?_)
  | (with_reducible refine wr_I0 ?_)
  | (with_reducible refine wr_isN ?_)
  | (with_reducible refine wr_notN ?_)
  | (with_reducible refine wr_leS ?_)
  | ((with_reducible refine' wr_ixL ?hv ?_); (case hv => rfl))
  | ((with_reducible refine' wr_ixT ?hv ?_); (case hv => rfl))
  | ((with_reducible refine' wr_ixO ?hv ?hw ?_); (case hv => rfl); (case hw => rfl))
  | ((with_reducible refine' wr_eqD ?h1 ?h2 ?h3 ?h4 ?_); (case h1 => exact .d); (case h2 => exact .d); (case h3 => rfl); (case h4 => rfl))
  | ((with_reducible refine' wr_neD ?h1 ?h2 ?h3 ?h4 ?_); (case h1 => exact .d); (case h2 => exact .d); (case h3 => rfl); (case h4 => rfl)))
local macro_rules | `(tactic| walk_at "da") => `(tactic| first
  | (with_reducible refine ⟨_, rfl, ?_⟩)
  | (with_reducible refine ⟨fun _ => ?_, fun h => Bool.noConfusion h⟩)
  | (with_reducible refine ⟨fun h => Bool.noConfusion h, fun _ => ?_⟩)
  | (with_reducible refine ⟨_, rfl, ?_, ?_⟩)
  | ((with_reducible refine' ⟨_, _, .d, ?h1, ?h2, ?_⟩); (case h1 => walk_at "sd"); (case h2 => rfl))
  | ((with_reducible refine' ⟨_, _, _, .d, ?h1, ?h2, ?h3, ?_⟩); (case h1 => walk_at "sd"); (case h2 => rfl); (case h3 => rfl))
  | (with_reducible refine ⟨fun hk => ?_, fun hk => ?_⟩)
  | (show ∃ d, SV.d _ = SV.d d ∧ _; with_reducible refine ⟨_, rfl, ?_⟩))
local macro_rules | `(tactic| walk_at "lo") => `(tactic| first
  | ((with_reducible show Lo.WE _ _ _ _ _ _); walk_at "we")
  | ((with_reducible show Lo.WA _ _ _ _ _ _); first | (with_reducible refine wa_cons ?_) | (with_reducible refine wa_nil ?_))
  | ((with_reducible show Lo.WS _ _ _ _ _ _); walk_at "ws")
  | ((with_reducible show Lo.WT _ _ _ _ _ _); walk_at "wt")
  | ((with_reducible show Lo.WR _ _ _ _ _ _ _); walk_at "wr")
  | ((with_reducible show Lo.WU _ _ _ _ _ _); (with_reducible refine wu_neg ?_))
  | ((with_reducible show Lo.WC _ _ _ _ _ _); first | ((with_reducible refine' wc_len ?hv ?_); (case hv => rfl)) | (with_reducible refine wc_int ?_))
  | walk_at "da")
local macro_rules | `(tactic| walk_at "wq") => `(tactic| first
  | (with_reducible refine ws_seq (t := tAsg _ _) ?_)
  | (with_reducible refine ws_seq (t := tDrop _) ?_)
  | (with_reducible refine ws_set ?_)
  | (with_reducible refine ws_ret ?_)
  | (with_reducible refine ws_next ?_)
  | (with_reducible refine ws_drop ?_)
  | (with_reducible refine ws_retN ?_))
local macro_rules | `(tactic| walk_at "lq") => `(tactic| first
  | ((with_reducible show Lo.WE _ _ _ _ _ _); walk_at "we")
  | ((with_reducible show Lo.WA _ _ _ _ _ _); first | (with_reducible refine wa_cons ?_) | (with_reducible refine wa_nil ?_))
  | ((with_reducible show Lo.WS _ _ _ _ _ _); walk_at "wq")
  | ((with_reducible show Lo.WT _ _ _ _ _ _); walk_at "wt")
  | ((with_reducible show Lo.WR _ _ _ _ _ _ _); walk_at "wr")
  | ((with_reducible show Lo.WU _ _ _ _ _ _); (with_reducible refine wu_neg ?_))
  | ((with_reducible show Lo.WC _ _ _ _ _ _); first | ((with_reducible refine' wc_len ?hv ?_); (case hv => rfl)) | (with_reducible refine wc_int ?_))
  | walk_at "da")
local macro_rules | `(tactic| walk_at "ws") => `(tactic| (with_reducible refine ws_sub ?_))
local macro_rules | `(tactic| walk_at "wq") => `(tactic| (with_reducible refine ws_sub ?_))
local macro_rules | `(tactic| walk_at "da") => `(tactic| ((with_reducible show ∃ (i : Int) (j : Nat) (ss : List SV), SV.d (D.int _) = SV.d (D.int i) ∧ _); refine ⟨_, _, _, rfl, (rfl : _ = some (OW.lst _)), rfl, ?_⟩))
local macro_rules | `(tactic| walk_at "da") => `(tactic| ((with_reducible show ∃ (k : Nat) (ss : List SV), SV.p _ = SV.p k ∧ _); refine ⟨_, _, rfl, (rfl : _ = some (OW.lst _)), ?_⟩))
local macro_rules | `(tactic| walk_at "we") => `(tactic| (with_reducible refine we_bm ?_))
local macro_rules | `(tactic| walk_at "lo") => `(tactic| ((with_reducible show Lo.WC _ _ (Lo.rLen _) _ [SV.p _] _); refine wc_lenO (rfl : _ = some (OW.lst _)) ?_))
local macro_rules | `(tactic| walk_at "lq") => `(tactic| ((with_reducible show Lo.WC _ _ (Lo.rLen _) _ [SV.p _] _); refine wc_lenO (rfl : _ = some (OW.lst _)) ?_))
local macro_rules | `(tactic| walk_at "da") => `(tactic| ((with_reducible show ∃ (k : Nat) (sr : List SV) (xs : List D), [SV.p _] = SV.p k :: sr ∧ _); refine ⟨_, _, _, rfl, (rfl : _ = some OW.hand), .nil, ?_⟩))
local macro_rules | `(tactic| walk_at "da") => `(tactic| ((with_reducible show ∃ (k : Nat) (sr : List SV) (xs : List D), [SV.p _, SV.d _] = SV.p k :: sr ∧ _); refine ⟨_, _, _, rfl, (rfl : _ = some OW.hand), .cons .nil, ?_⟩))
local macro_rules | `(tactic| walk_at "da") => `(tactic| ((with_reducible show ∃ (k : Nat) (sr : List SV) (xs : List D), [SV.p _, SV.d _, SV.d _] = SV.p k :: sr ∧ _); refine ⟨_, _, _, rfl, (rfl : _ = some OW.hand), .cons (.cons .nil), ?_⟩))
local macro_rules | `(tactic| walk_at "da") => `(tactic| ((with_reducible show ∃ (xs : List D), AllD [] xs ∧ _); refine ⟨_, .nil, ?_⟩))
local macro_rules | `(tactic| walk_at "da") => `(tactic| ((with_reducible show ∃ (xs : List D), AllD [SV.d _] xs ∧ _); refine ⟨_, .cons .nil, ?_⟩))
local macro_rules | `(tactic| walk_at "da") => `(tactic| ((with_reducible show ∃ (xs : List D), AllD [SV.d _, SV.d _] xs ∧ _); refine ⟨_, .cons (.cons .nil), ?_⟩))
local macro_rules | `(tactic| walk_at "da") => `(tactic| ((with_reducible show ∃ (xs : List D), AllD [SV.d _, SV.d _, SV.d _] xs ∧ _); refine ⟨_, .cons (.cons (.cons .nil)), ?_⟩))
local macro_rules | `(tactic| walk_at "da") => `(tactic| ((with_reducible show ∃ (xs : List D), AllD [SV.d _, SV.d _, SV.d _, SV.d _] xs ∧ _); refine ⟨_, .cons (.cons (.cons (.cons .nil))), ?_⟩))
local macro_rules | `(tactic| walk_at "lo") => `(tactic| ((with_reducible show Lo.WO _ _ _ _ _ _); first | (with_reducible refine wo_none ?_) | (with_reducible refine wo_some ?_)))
local macro_rules | `(tactic| walk_at "lq") => `(tactic| ((with_reducible show Lo.WO _ _ _ _ _ _); first | (with_reducible refine wo_none ?_) | (with_reducible refine wo_some ?_)))
local macro_rules | `(tactic| walk_at "da") => `(tactic| first | ((with_reducible refine' takeG ?h ?_); (case h => (constructor <;> omega)); (intro k h0 h1)) | fail "no")
local macro_rules | `(tactic| walk_at "wr") => `(tactic| first | ((with_reducible refine' wr_pow ?h ?_); (case h => exact ⟨by decide, by decide, by decide⟩)) | fail "no")
local macro_rules | `(tactic| walk_at "we") => `(tactic| first | (with_reducible refine we_dnew ?_) | (with_reducible refine we_setd ?_) | (with_reducible refine we_dget ?_) | (with_reducible refine we_dget2 ?_) | (with_reducible refine we_sadd ?_) | fail "no")
local macro_rules | `(tactic| walk_at "lo") => `(tactic| ((with_reducible show Lo.WC _ _ (rSet0 _) _ _ _); refine wc_set0 ?_))
local macro_rules | `(tactic| walk_at "da") => `(tactic| ((with_reducible show ∃ (ks : List L2.Key) (vs : List D), SV.d (D.dct _ _) = SV.d (D.dct ks vs) ∧ _); refine ⟨_, _, rfl, ?_⟩))
local macro_rules | `(tactic| walk_at "da") => `(tactic| ((with_reducible show ∃ (dy : D) (key : L2.Key), SV.d (D.int _) = SV.d dy ∧ _); refine ⟨_, _, rfl, rfl, ?_⟩))
local macro_rules | `(tactic| walk_at "we") => `(tactic| first | (with_reducible refine we_bm0 ?_) | fail "no")
local macro_rules | `(tactic| walk_at "wr") => `(tactic| first | ((with_reducible show WR _ _ (rSNotIn _) _ _ _ _); refine wr_snotin (rfl : _ = some (oSet _ _ _)) ?_) | fail "no")
local macro_rules | `(tactic| walk_at "da") => `(tactic| ((with_reducible show ∃ (k : Nat) (S : Int → Bool) (n : Nat), SV.p _ = SV.p k ∧ _); refine ⟨_, _, _, rfl, (rfl : _ = some (oSet _ _ _)), ?_⟩))

local macro_rules | `(tactic| walk_at "lo") => `(tactic| ((with_reducible show List.length _ ≤ 100000 ∧ _); first | (refine ⟨Nat.le_of_ble_eq_true rfl, ?_⟩) | fail "no"))
local macro_rules | `(tactic| walk_at "lq") => `(tactic| ((with_reducible show List.length _ ≤ 100000 ∧ _); first | (refine ⟨Nat.le_of_ble_eq_true rfl, ?_⟩) | fail "no"))
local macro_rules | `(tactic| walk_at "lo") => `(tactic| ((with_reducible show ∃ (xs : List D), AllD [SV.d _, SV.d _, SV.d _, SV.d _, SV.d _] xs ∧ _); refine ⟨_, .cons (.cons (.cons (.cons (.cons .nil)))), ?_⟩))
local macro_rules | `(tactic| walk_at "lq") => `(tactic| ((with_reducible show ∃ (xs : List D), AllD [SV.d _, SV.d _, SV.d _, SV.d _, SV.d _] xs ∧ _); refine ⟨_, .cons (.cons (.cons (.cons (.cons .nil)))), ?_⟩))
local macro_rules | `(tactic| walk_at "lo") => `(tactic| ((with_reducible show ∃ (xs : List D), AllD [SV.d _, SV.d _, SV.d _, SV.d _, SV.d _, SV.d _] xs ∧ _); refine ⟨_, .cons (.cons (.cons (.cons (.cons (.cons .nil))))), ?_⟩))
local macro_rules | `(tactic| walk_at "lq") => `(tactic| ((with_reducible show ∃ (xs : List D), AllD [SV.d _, SV.d _, SV.d _, SV.d _, SV.d _, SV.d _] xs ∧ _); refine ⟨_, .cons (.cons (.cons (.cons (.cons (.cons .nil))))), ?_⟩))
local macro_rules | `(tactic| walk_at "lo") => `(tactic| ((with_reducible show ∃ (xs : List D), AllD [SV.d _, SV.d _, SV.d _, SV.d _, SV.d _, SV.d _, SV.d _] xs ∧ _); refine ⟨_, .cons (.cons (.cons (.cons (.cons (.cons (.cons .nil)))))), ?_⟩))
local macro_rules | `(tactic| walk_at "lq") => `(tactic| ((with_reducible show ∃ (xs : List D), AllD [SV.d _, SV.d _, SV.d _, SV.d _, SV.d _, SV.d _, SV.d _] xs ∧ _); refine ⟨_, .cons (.cons (.cons (.cons (.cons (.cons (.cons .nil)))))), ?_⟩))
local macro_rules | `(tactic| walk_at "lo") => `(tactic| ((with_reducible show ∃ (xs : List D), AllD [SV.d _, SV.d _, SV.d _, SV.d _, SV.d _, SV.d _, SV.d _, SV.d _] xs ∧ _); refine ⟨_, .cons (.cons (.cons (.cons (.cons (.cons (.cons (.cons .nil))))))), ?_⟩))
local macro_rules | `(tactic| walk_at "lq") => `(tactic| ((with_reducible show ∃ (xs : List D), AllD [SV.d _, SV.d _, SV.d _, SV.d _, SV.d _, SV.d _, SV.d _, SV.d _] xs ∧ _); refine ⟨_, .cons (.cons (.cons (.cons (.cons (.cons (.cons (.cons .nil))))))), ?_⟩))
local macro_rules | `(tactic| walk_at "lo") => `(tactic| ((with_reducible show Lo.WE _ _ (tLst (tCons _ _)) _ _ _); refine we_lst ?_))
local macro_rules | `(tactic| walk_at "lq") => `(tactic| ((with_reducible show Lo.WE _ _ (tLst (tCons _ _)) _ _ _); refine we_lst ?_))
local macro_rules | `(tactic| walk_at "lo") => `(tactic| ((with_reducible show Lo.WE _ _ (tDisp [(tC (V.str _), tC (V.str _))]) _ _ _); refine we_disp1 (d := .str _) (fun _ => rfl) ?_))
local macro_rules | `(tactic| walk_at "lq") => `(tactic| ((with_reducible show Lo.WE _ _ (tDisp [(tC (V.str _), tC (V.str _))]) _ _ _); refine we_disp1 (d := .str _) (fun _ => rfl) ?_))
local macro_rules | `(tactic| walk_at "lo") => `(tactic| ((with_reducible show Lo.WE _ _ (tDisp [(tC (V.str _), tC (V.int _))]) _ _ _); refine we_disp1 (d := .int _) (fun _ => rfl) ?_))
local macro_rules | `(tactic| walk_at "lq") => `(tactic| ((with_reducible show Lo.WE _ _ (tDisp [(tC (V.str _), tC (V.int _))]) _ _ _); refine we_disp1 (d := .int _) (fun _ => rfl) ?_))
local macro_rules | `(tactic| walk_at "wr") => `(tactic| first | (with_reducible refine wr_notB ?_) | (with_reducible refine wr_isB ?_) | fail "no")
local macro_rules | `(tactic| walk_at "we") => `(tactic| first | (with_reducible refine we_calK ?_) | fail "no")
local macro_rules | `(tactic| walk_at "da") => `(tactic| ((with_reducible show ∃ (x : D), [SV.d _] = [SV.d x] ∧ _); refine ⟨_, rfl, ?_⟩))

structure Rw where
  role : Int
  one : List Str
  many : List Str
deriving DecidableEq
structure Stk where
  z : Str
  rows : List Rw
deriving DecidableEq
def txD (e : List Str) : D := .tup (e.map .str)
def Rw.d (r : Rw) : D := .tup [.int r.role, txD r.one, txD r.many]
def tbD (rows : List Rw) : D := .tup (rows.map Rw.d)
def Stk.d (s : Stk) : D := .obj 0 [.str s.z, tbD s.rows]
theorem map_inj {α β : Type} {f : α → β} (hf : ∀ x y, f x = f y → x = y) : ∀ {xs ys : List α}, xs.map f = ys.map f → xs = ys
  | [], [], _ => rfl
  | [], _ :: _, h => by cases h
  | _ :: _, [], h => by cases h
  | x :: xs, y :: ys, h => by
    have h' := List.cons.inj h
    rw [hf x y h'.1, map_inj hf h'.2]
theorem txD_inj {x y : List Str} (h : txD x = txD y) : x = y := map_inj (fun _ _ h => D.str.inj h) (D.tup.inj h)
theorem rwd_inj {x y : Rw} (h : x.d = y.d) : x = y := by
  obtain ⟨a, b, c⟩ := x
  obtain ⟨d, e, f⟩ := y
  have h' := D.tup.inj h
  simp only [List.cons.injEq, D.int.injEq, and_true] at h'
  rw [h'.1, txD_inj h'.2.1, txD_inj h'.2.2]
theorem tbD_inj {x y : List Rw} (h : tbD x = tbD y) : x = y := map_inj (fun _ _ h => rwd_inj h) (D.tup.inj h)
theorem txD_isp (e : List Str) : (txD e).isp = true := ispL_of fun x m => by
  obtain ⟨z, _, rfl⟩ := List.mem_map.mp m
  rfl
theorem rwd_isp (r : Rw) : r.d.isp = true := by
  show (true && ((txD r.one).isp && ((txD r.many).isp && true))) = true
  rw [txD_isp, txD_isp]
  rfl
theorem tbD_isp (rows : List Rw) : (tbD rows).isp = true := ispL_of fun x m => by
  obtain ⟨z, _, rfl⟩ := List.mem_map.mp m
  exact rwd_isp z
theorem eqv_dec {x y : D} {p : Prop} [Decidable p] (hx : x.isp = true) (hy : y.isp = true) (h : x = y ↔ p) : x.eqv y = decide p := by
  have k := (eqv_isp x y hx hy).trans h
  by_cases q : p
  · rw [decide_eq_true q]; exact k.mpr q
  · rw [decide_eq_false q]
    cases e : x.eqv y with
    | false => rfl
    | true => exact absurd (k.mp e) q
theorem eqv_tb (x y : List Rw) : (tbD x).eqv (tbD y) = decide (x = y) := eqv_dec (tbD_isp x) (tbD_isp y) ⟨tbD_inj, fun h => by rw [h]⟩
theorem eqv_tx (x y : List Str) : (txD x).eqv (txD y) = decide (x = y) := eqv_dec (txD_isp x) (txD_isp y) ⟨txD_inj, fun h => by rw [h]⟩
/-- an ending that can be -/
def okEn (e : List Str) : Prop := 1 ≤ e.length ∧ e.length ≤ 4 ∧ ∀ z ∈ e, z.length ≤ 3 ∧ lett z = true
def okRw (r : Rw) : Prop := okEn r.one ∧ okEn r.many ∧ 0 ≤ r.role ∧ r.role ≤ 5
structure okStk (s : Stk) : Prop where
  z : okSt s.z = true
  n : s.rows.length ≤ 6
  r : ∀ r ∈ s.rows, okRw r
theorem lett_ok {z : Str} (h : lett z = true) : okSt z = true := by
  unfold lett at h
  unfold okSt
  rw [Array.all_eq_true]
  rw [List.all_eq_true] at h
  intro i hi
  have := h (z.cps[i]) (by simp)
  simp only [Bool.and_eq_true, decide_eq_true_eq] at this
  simp only [decide_eq_true_eq]
  omega
theorem txD_lay {e : List Str} (h : okEn e) : Lay 1 (txD e) := Lay.tup fun x m => by
  obtain ⟨z, hz, rfl⟩ := List.mem_map.mp m
  exact Lay.str (lett_ok (h.2.2 z hz).2)
theorem rwd_lay {r : Rw} (h : okRw r) : Lay 2 r.d := Lay.tup fun x m => by
  simp only [List.mem_cons, List.not_mem_nil, or_false] at m
  rcases m with rfl | rfl | rfl
  · exact Lay.int _
  · exact txD_lay h.1
  · exact txD_lay h.2.1
theorem tbD_lay {rows : List Rw} (h : ∀ r ∈ rows, okRw r) : Lay 3 (tbD rows) := Lay.tup fun x m => by
  obtain ⟨r, hr, rfl⟩ := List.mem_map.mp m
  exact rwd_lay (h r hr)
theorem tx_okd {e : List Str} (h : okEn e) : (txD e).okd = true := (txD_lay h).okd (by decide)
theorem tb_okd {rows : List Rw} (h : ∀ r ∈ rows, okRw r) : (tbD rows).okd = true := (tbD_lay h).okd (by decide)
abbrev stN : List Str := ["name", "table"]
theorem fl0 {x0 x1 : D} : fldAt stN [x0, x1] "name" = some x0 := if_pos rfl
theorem fl1 {x0 x1 : D} : fldAt stN [x0, x1] "table" = some x1 := (if_neg (by decide +kernel)).trans (if_pos rfl)
/-- a stock or another thing -/
def isSt (o : Stk ⊕ D) : D := match o with | .inl f => f.d | .inr y => y
def okSO (o : Stk ⊕ D) : Prop := match o with | .inl f => okStk f | .inr y => y.isO = false
def eqSt (f : Stk) (o : Stk ⊕ D) : Bool := match o with | .inl g => decide (f = g) | .inr _ => false
/-- the ending that shows the role -/
def enOf (rows : List Rw) (role : Int) (nu : D) : Option (List Str) := (rows.find? fun r => decide (r.role = role)).map fun r => if rankOf nu = 1 then r.many else r.one
def oe : Option (List Str) → D | none => .non | some e => txD e
section
variable {P : Program} {w : World} {K : Frag} {mg : Str → Option Value} {base : Heap} {a : Ad}
theorem tyO (X : Txt P K mg a) {fs : List D} : TyO (TT K a) a.C_Stock (.obj 0 fs) := .inr ⟨0, fs, rfl, rfl, X.cl_Stock, X.ty_Stock.1, X.ty_Stock.2.1, X.ty_Stock.2.2.1, X.ty_Stock.2.2.2⟩
theorem tyN (X : Txt P K mg a) {y : D} (h : y.isO = false) : TyO (TT K a) a.C_Stock y := .inl ⟨h, by
  cases y <;> first
    | exact X.nf_Stock_NoneType
    | exact X.nf_Stock_bool
    | exact X.nf_Stock_int
    | exact X.nf_Stock_str
    | exact X.nf_Stock_list
    | exact X.nf_Stock_tuple
    | (cases h; done)⟩
theorem kitN (X : Txt P K mg a) {y : D} (h : y.isO = false) : PySem.W.kitOne K (.type y.tyN) (.ref a.C_Stock) = some false := by
  cases y <;> first
    | exact X.it_Stock_NoneType
    | exact X.it_Stock_bool
    | exact X.it_Stock_int
    | exact X.it_Stock_str
    | exact X.it_Stock_list
    | exact X.it_Stock_tuple
    | (cases h; done)
theorem we_st0 (X : Txt P K mg a) {b : Bd} {own : List OW} {ds : List (Option SV)} {Q : PSv} {ta : TE} (h : Lo.WE (TT K a) b ta own ds fun s o => ∃ f : Stk, s = .d f.d ∧ Q (.d (.str f.z)) o) : Lo.WE (TT K a) b (tFld K ta "name") own ds Q :=
  we_fld (T := TT K a) (h.imp fun s o ⟨f, e, q⟩ => ⟨0, _, _, e, X.cl_Stock, X.no_Stock_name, fl0, q⟩)
theorem we_st1 (X : Txt P K mg a) {b : Bd} {own : List OW} {ds : List (Option SV)} {Q : PSv} {ta : TE} (h : Lo.WE (TT K a) b ta own ds fun s o => ∃ f : Stk, s = .d f.d ∧ Q (.d (tbD f.rows)) o) : Lo.WE (TT K a) b (tFld K ta "table") own ds Q :=
  we_fld (T := TT K a) (h.imp fun s o ⟨f, e, q⟩ => ⟨0, _, _, e, X.cl_Stock, X.no_Stock_table, fl1, q⟩)
end
end L3
end
section
set_option Elab.async false
set_option linter.all false
set_option maxRecDepth 100000
set_option maxHeartbeats 1000000
namespace L3
open PySem PySem.Spec PyProof.Rows L2 PySem.W PySem.Calls Lo
local macro_rules | `(tactic| walk_at "sd") => `(tactic| first | exact .d | rfl | assumption | (with_reducible decide) | omega | exact .nil | exact AllD.nil)
local macro_rules | `(tactic| walk_at "we") => `(tactic| first
  | ((with_reducible refine' we_var ?hv ?_); (case hv => rfl))
  | (with_reducible refine we_int ?_)
  | (with_reducible refine we_op ?_)
  | (with_reducible refine we_str ?_)
  | (with_reducible refine we_isi ?_)
  | (with_reducible refine we_isi2 ?_)
  | (with_reducible refine we_cb ?_)
  | (with_reducible refine we_andV ?_)
  | (with_reducible refine we_orV ?_)
  | (with_reducible refine we_notV ?_)
  | (with_reducible refine we_non ?_)
  | (with_reducible refine we_bl ?_)
  | (with_reducible refine we_if ?_)
  | (with_reducible refine we_un ?_)
  | (with_reducible refine we_cal0 ?_)
  | (with_reducible refine we_cal2 ?_)
  | (with_reducible refine we_calH ?_)
  | (with_reducible refine we_prp ?_)
  | (with_reducible refine we_tup ?_)
  | (with_reducible refine we_chain ?_))
local macro_rules | `(tactic| walk_at "ws") => `(tactic| first
  | (with_reducible refine ws_seq ?_)
  | (with_reducible refine ws_if ?_)
  | (with_reducible refine ws_set ?_)
  | (with_reducible refine ws_ret ?_)
  | (with_reducible refine ws_next ?_)
  | (with_reducible refine ws_drop ?_)
  | (with_reducible refine ws_retN ?_))
local macro_rules | `(tactic| walk_at "wt") => `(tactic| first
  | (with_reducible refine wt_test ?_)
  | (with_reducible refine wt_B ?_)
  | (with_reducible refine wt_and ?_)
  | (with_reducible refine wt_or ?_)
  | (with_reducible refine wt_not ?_))
local macro_rules | `(tactic| walk_at "wr") => `(tactic| first
  | (with_reducible refine wr_addI ?_)
  | (with_reducible refine wr_leI ?_)
  | (with_reducible refine wr_B0 ?_)
  | (with_reducible refine wr_I0 ?_)
  | (with_reducible refine wr_isN ?_)
  | (with_reducible refine wr_notN ?_)
  | (with_reducible refine wr_leS ?_)
  | ((with_reducible refine' wr_ixL ?hv ?_); (case hv => rfl))
  | ((with_reducible refine' wr_ixT ?hv ?_); (case hv => rfl))
  | ((with_reducible refine' wr_ixO ?hv ?hw ?_); (case hv => rfl); (case hw => rfl))
  | ((with_reducible refine' wr_eqD ?h1 ?h2 ?h3 ?h4 ?_); (case h1 => exact .d); (case h2 => exact .d); (case h3 => rfl); (case h4 => rfl))
  | ((with_reducible refine' wr_neD ?h1 ?h2 ?h3 ?h4 ?_); (case h1 => exact .d); (case h2 => exact .d); (case h3 => rfl); (case h4 => rfl)))
local macro_rules | `(tactic| walk_at "da") => `(tactic| first
  | (with_reducible refine ⟨_, rfl, ?_⟩)
  | (with_reducible refine ⟨fun _ => ?_, fun h => Bool.noConfusion h⟩)
  | (with_reducible refine ⟨fun h => Bool.noConfusion h, fun _ => ?_⟩)
  | (with_reducible refine ⟨_, rfl, ?_, ?_⟩)
  | ((with_reducible refine' ⟨_, _, .d, ?h1, ?h2, ?_⟩); (case h1 => walk_at "sd"); (case h2 => rfl))
  | ((with_reducible refine' ⟨_, _, _, .d, ?h1, ?h2, ?h3, ?_⟩); (case h1 => walk_at "sd"); (case h2 => rfl); (case h3 => rfl))
  | (with_reducible refine ⟨fun hk => ?_, fun hk => ?_⟩)
  | (show ∃ d, SV.d _ = SV.d d ∧ _; with_reducible refine ⟨_, rfl, ?_⟩))
local macro_rules | `(tactic| walk_at "lo") => `(tactic| first
  | ((with_reducible show Lo.WE _ _ _ _ _ _); walk_at "we")
  | ((with_reducible show Lo.WA _ _ _ _ _ _); first | (with_reducible refine wa_cons ?_) | (with_reducible refine wa_nil ?_))
  | ((with_reducible show Lo.WS _ _ _ _ _ _); walk_at "ws")
  | ((with_reducible show Lo.WT _ _ _ _ _ _); walk_at "wt")
  | ((with_reducible show Lo.WR _ _ _ _ _ _ _); walk_at "wr")
  | ((with_reducible show Lo.WU _ _ _ _ _ _); (with_reducible refine wu_neg ?_))
  | ((with_reducible show Lo.WC _ _ _ _ _ _); first | ((with_reducible refine' wc_len ?hv ?_); (case hv => rfl)) | (with_reducible refine wc_int ?_))
  | walk_at "da")
local macro_rules | `(tactic| walk_at "wq") => `(tactic| first
  | (with_reducible refine ws_seq (t := tAsg _ _) ?_)
  | (with_reducible refine ws_seq (t := tDrop _) ?_)
  | (with_reducible refine ws_set ?_)
  | (with_reducible refine ws_ret ?_)
  | (with_reducible refine ws_next ?_)
  | (with_reducible refine ws_drop ?_)
  | (with_reducible refine ws_retN ?_))
local macro_rules | `(tactic| walk_at "lq") => `(tactic| first
  | ((with_reducible show Lo.WE _ _ _ _ _ _); walk_at "we")
  | ((with_reducible show Lo.WA _ _ _ _ _ _); first | (with_reducible refine wa_cons ?_) | (with_reducible refine wa_nil ?_))
  | ((with_reducible show Lo.WS _ _ _ _ _ _); walk_at "wq")
  | ((with_reducible show Lo.WT _ _ _ _ _ _); walk_at "wt")
  | ((with_reducible show Lo.WR _ _ _ _ _ _ _); walk_at "wr")
  | ((with_reducible show Lo.WU _ _ _ _ _ _); (with_reducible refine wu_neg ?_))
  | ((with_reducible show Lo.WC _ _ _ _ _ _); first | ((with_reducible refine' wc_len ?hv ?_); (case hv => rfl)) | (with_reducible refine wc_int ?_))
  | walk_at "da")
local macro_rules | `(tactic| walk_at "ws") => `(tactic| (with_reducible refine ws_sub ?_))
local macro_rules | `(tactic| walk_at "wq") => `(tactic| (with_reducible refine ws_sub ?_))
local macro_rules | `(tactic| walk_at "da") => `(tactic| ((with_reducible show ∃ (i : Int) (j : Nat) (ss : List SV), SV.d (D.int _) = SV.d (D.int i) ∧ _); refine ⟨_, _, _, rfl, (rfl : _ = some (OW.lst _)), rfl, ?_⟩))
local macro_rules | `(tactic| walk_at "da") => `(tactic| ((with_reducible show ∃ (k : Nat) (ss : List SV), SV.p _ = SV.p k ∧ _); refine ⟨_, _, rfl, (rfl : _ = some (OW.lst _)), ?_⟩))
local macro_rules | `(tactic| walk_at "we") => `(tactic| (with_reducible refine we_bm ?_))
local macro_rules | `(tactic| walk_at "lo") => `(tactic| ((with_reducible show Lo.WC _ _ (Lo.rLen _) _ [SV.p _] _); refine wc_lenO (rfl : _ = some (OW.lst _)) ?_))
local macro_rules | `(tactic| walk_at "lq") => `(tactic| ((with_reducible show Lo.WC _ _ (Lo.rLen _) _ [SV.p _] _); refine wc_lenO (rfl : _ = some (OW.lst _)) ?_))
local macro_rules | `(tactic| walk_at "da") => `(tactic| ((with_reducible show ∃ (k : Nat) (sr : List SV) (xs : List D), [SV.p _] = SV.p k :: sr ∧ _); refine ⟨_, _, _, rfl, (rfl : _ = some OW.hand), .nil, ?_⟩))
local macro_rules | `(tactic| walk_at "da") => `(tactic| ((with_reducible show ∃ (k : Nat) (sr : List SV) (xs : List D), [SV.p _, SV.d _] = SV.p k :: sr ∧ _); refine ⟨_, _, _, rfl, (rfl : _ = some OW.hand), .cons .nil, ?_⟩))
local macro_rules | `(tactic| walk_at "da") => `(tactic| ((with_reducible show ∃ (k : Nat) (sr : List SV) (xs : List D), [SV.p _, SV.d _, SV.d _] = SV.p k :: sr ∧ _); refine ⟨_, _, _, rfl, (rfl : _ = some OW.hand), .cons (.cons .nil), ?_⟩))
local macro_rules | `(tactic| walk_at "da") => `(tactic| ((with_reducible show ∃ (xs : List D), AllD [] xs ∧ _); refine ⟨_, .nil, ?_⟩))
local macro_rules | `(tactic| walk_at "da") => `(tactic| ((with_reducible show ∃ (xs : List D), AllD [SV.d _] xs ∧ _); refine ⟨_, .cons .nil, ?_⟩))
local macro_rules | `(tactic| walk_at "da") => `(tactic| ((with_reducible show ∃ (xs : List D), AllD [SV.d _, SV.d _] xs ∧ _); refine ⟨_, .cons (.cons .nil), ?_⟩))
local macro_rules | `(tactic| walk_at "da") => `(tactic| ((with_reducible show ∃ (xs : List D), AllD [SV.d _, SV.d _, SV.d _] xs ∧ _); refine ⟨_, .cons (.cons (.cons .nil)), ?_⟩))
local macro_rules | `(tactic| walk_at "da") => `(tactic| ((with_reducible show ∃ (xs : List D), AllD [SV.d _, SV.d _, SV.d _, SV.d _] xs ∧ _); refine ⟨_, .cons (.cons (.cons (.cons .nil))), ?_⟩))
local macro_rules | `(tactic| walk_at "lo") => `(tactic| ((with_reducible show Lo.WO _ _ _ _ _ _); first | (with_reducible refine wo_none ?_) | (with_reducible refine wo_some ?_)))
local macro_rules | `(tactic| walk_at "lq") => `(tactic| ((with_reducible show Lo.WO _ _ _ _ _ _); first | (with_reducible refine wo_none ?_) | (with_reducible refine wo_some ?_)))
local macro_rules | `(tactic| walk_at "da") => `(tactic| first | ((with_reducible refine' takeG ?h ?_); (case h => (constructor <;> omega)); (intro k h0 h1)) | fail "no")
local macro_rules | `(tactic| walk_at "wr") => `(tactic| first | ((with_reducible refine' wr_pow ?h ?_); (case h => exact ⟨by decide, by decide, by decide⟩)) | fail "no")
local macro_rules | `(tactic| walk_at "we") => `(tactic| first | (with_reducible refine we_dnew ?_) | (with_reducible refine we_setd ?_) | (with_reducible refine we_dget ?_) | (with_reducible refine we_dget2 ?_) | (with_reducible refine we_sadd ?_) | fail "no")
local macro_rules | `(tactic| walk_at "lo") => `(tactic| ((with_reducible show Lo.WC _ _ (rSet0 _) _ _ _); refine wc_set0 ?_))
local macro_rules | `(tactic| walk_at "da") => `(tactic| ((with_reducible show ∃ (ks : List L2.Key) (vs : List D), SV.d (D.dct _ _) = SV.d (D.dct ks vs) ∧ _); refine ⟨_, _, rfl, ?_⟩))
local macro_rules | `(tactic| walk_at "da") => `(tactic| ((with_reducible show ∃ (dy : D) (key : L2.Key), SV.d (D.int _) = SV.d dy ∧ _); refine ⟨_, _, rfl, rfl, ?_⟩))
local macro_rules | `(tactic| walk_at "we") => `(tactic| first | (with_reducible refine we_bm0 ?_) | fail "no")
local macro_rules | `(tactic| walk_at "wr") => `(tactic| first | ((with_reducible show WR _ _ (rSNotIn _) _ _ _ _); refine wr_snotin (rfl : _ = some (oSet _ _ _)) ?_) | fail "no")
local macro_rules | `(tactic| walk_at "da") => `(tactic| ((with_reducible show ∃ (k : Nat) (S : Int → Bool) (n : Nat), SV.p _ = SV.p k ∧ _); refine ⟨_, _, _, rfl, (rfl : _ = some (oSet _ _ _)), ?_⟩))

local macro_rules | `(tactic| walk_at "lo") => `(tactic| ((with_reducible show List.length _ ≤ 100000 ∧ _); first | (refine ⟨Nat.le_of_ble_eq_true rfl, ?_⟩) | fail "no"))
local macro_rules | `(tactic| walk_at "lq") => `(tactic| ((with_reducible show List.length _ ≤ 100000 ∧ _); first | (refine ⟨Nat.le_of_ble_eq_true rfl, ?_⟩) | fail "no"))
local macro_rules | `(tactic| walk_at "lo") => `(tactic| ((with_reducible show ∃ (xs : List D), AllD [SV.d _, SV.d _, SV.d _, SV.d _, SV.d _] xs ∧ _); refine ⟨_, .cons (.cons (.cons (.cons (.cons .nil)))), ?_⟩))
local macro_rules | `(tactic| walk_at "lq") => `(tactic| ((with_reducible show ∃ (xs : List D), AllD [SV.d _, SV.d _, SV.d _, SV.d _, SV.d _] xs ∧ _); refine ⟨_, .cons (.cons (.cons (.cons (.cons .nil)))), ?_⟩))
local macro_rules | `(tactic| walk_at "lo") => `(tactic| ((with_reducible show ∃ (xs : List D), AllD [SV.d _, SV.d _, SV.d _, SV.d _, SV.d _, SV.d _] xs ∧ _); refine ⟨_, .cons (.cons (.cons (.cons (.cons (.cons .nil))))), ?_⟩))
local macro_rules | `(tactic| walk_at "lq") => `(tactic| ((with_reducible show ∃ (xs : List D), AllD [SV.d _, SV.d _, SV.d _, SV.d _, SV.d _, SV.d _] xs ∧ _); refine ⟨_, .cons (.cons (.cons (.cons (.cons (.cons .nil))))), ?_⟩))
local macro_rules | `(tactic| walk_at "lo") => `(tactic| ((with_reducible show ∃ (xs : List D), AllD [SV.d _, SV.d _, SV.d _, SV.d _, SV.d _, SV.d _, SV.d _] xs ∧ _); refine ⟨_, .cons (.cons (.cons (.cons (.cons (.cons (.cons .nil)))))), ?_⟩))
local macro_rules | `(tactic| walk_at "lq") => `(tactic| ((with_reducible show ∃ (xs : List D), AllD [SV.d _, SV.d _, SV.d _, SV.d _, SV.d _, SV.d _, SV.d _] xs ∧ _); refine ⟨_, .cons (.cons (.cons (.cons (.cons (.cons (.cons .nil)))))), ?_⟩))
local macro_rules | `(tactic| walk_at "lo") => `(tactic| ((with_reducible show ∃ (xs : List D), AllD [SV.d _, SV.d _, SV.d _, SV.d _, SV.d _, SV.d _, SV.d _, SV.d _] xs ∧ _); refine ⟨_, .cons (.cons (.cons (.cons (.cons (.cons (.cons (.cons .nil))))))), ?_⟩))
local macro_rules | `(tactic| walk_at "lq") => `(tactic| ((with_reducible show ∃ (xs : List D), AllD [SV.d _, SV.d _, SV.d _, SV.d _, SV.d _, SV.d _, SV.d _, SV.d _] xs ∧ _); refine ⟨_, .cons (.cons (.cons (.cons (.cons (.cons (.cons (.cons .nil))))))), ?_⟩))
local macro_rules | `(tactic| walk_at "lo") => `(tactic| ((with_reducible show Lo.WE _ _ (tLst (tCons _ _)) _ _ _); refine we_lst ?_))
local macro_rules | `(tactic| walk_at "lq") => `(tactic| ((with_reducible show Lo.WE _ _ (tLst (tCons _ _)) _ _ _); refine we_lst ?_))
local macro_rules | `(tactic| walk_at "lo") => `(tactic| ((with_reducible show Lo.WE _ _ (tDisp [(tC (V.str _), tC (V.str _))]) _ _ _); refine we_disp1 (d := .str _) (fun _ => rfl) ?_))
local macro_rules | `(tactic| walk_at "lq") => `(tactic| ((with_reducible show Lo.WE _ _ (tDisp [(tC (V.str _), tC (V.str _))]) _ _ _); refine we_disp1 (d := .str _) (fun _ => rfl) ?_))
local macro_rules | `(tactic| walk_at "lo") => `(tactic| ((with_reducible show Lo.WE _ _ (tDisp [(tC (V.str _), tC (V.int _))]) _ _ _); refine we_disp1 (d := .int _) (fun _ => rfl) ?_))
local macro_rules | `(tactic| walk_at "lq") => `(tactic| ((with_reducible show Lo.WE _ _ (tDisp [(tC (V.str _), tC (V.int _))]) _ _ _); refine we_disp1 (d := .int _) (fun _ => rfl) ?_))
local macro_rules | `(tactic| walk_at "wr") => `(tactic| first | (with_reducible refine wr_notB ?_) | (with_reducible refine wr_isB ?_) | fail "no")
local macro_rules | `(tactic| walk_at "we") => `(tactic| first | (with_reducible refine we_calK ?_) | fail "no")
local macro_rules | `(tactic| walk_at "da") => `(tactic| ((with_reducible show ∃ (x : D), [SV.d _] = [SV.d x] ∧ _); refine ⟨_, rfl, ?_⟩))

local macro_rules | `(tactic| walk_at "we") => `(tactic| first
  | (with_reducible refine we_st0 (by assumption) ?_)
  | (with_reducible refine we_st1 (by assumption) ?_)
  | fail "no")
section
variable {P : Program} {w : World} {K : Frag} {mg : Str → Option Value} {base : Heap} {a : Ad}
abbrev F_Stock___eq__ : DF := Fv (ι := Stk × (Stk ⊕ D)) (fun i => [i.1.d, isSt i.2]) (fun i => okStk i.1 ∧ okSO i.2) (fun i d => d = .bl (eqSt i.1 i.2)) noErr
theorem ok_Stock___eq__ {fd} (X : Txt P K mg a) (F : DefAt K "__eq__" "Stock.__eq__" s_Stock___eq__ [] a.f_Stock___eq__ fd) : FnOk P w K mg base (L2.CX P w) 1 a.f_Stock___eq__ fd ["self", "other"] (SpP (TT K a) F_Stock___eq__) := by
  refine okP (fun i => [some (.d (i.1.d)), some (.d (isSt i.2))]) F sc_Stock___eq__ (fun _ => rfl) fun cdv A outer s H E hr => 
   have hu := hr.units
   ⟨_, 
   (pss_one (ps_ret (pe_and (pe_callB call_isi (by rfl) X.n_isinstance (by decide +kernel) (pa_cons (pv 1) (pa_cons (pe_glob (v := .ref a.C_Stock) rfl X.g_Stock rfl) pa_nil))) (pe_and (pe_cmpR (op_eqD hu) (pe_fld (pv 0) rfl) (pe_fld (pv 1) rfl) (nomark _)) (pe_one (pe_cmpR (op_eqD hu) (pe_fld (pv 0) rfl) (pe_fld (pv 1) rfl) (nomark _))))))), fun b ⟨f, o⟩ hp hx => ?_⟩
  dsimp only [CxB, L2.cxOf] at hp ⊢
  obtain ⟨hz, ho⟩ := hp
  cases o with
  | inr y =>
    have hy : y.isO = false := ho
    refine ws_ret (we_andV (we_isiC (T := TT K a) ?_))
    repeat' walk_at "lq"
    refine ⟨y, false, .d, .inl ⟨hy, kitN X hy⟩, ?_⟩
    repeat' walk_at "lq"
    rfl
  | inl g =>
    have hz2 : okStk g := ho
    refine ws_ret (we_andV (we_isiC (T := TT K a) ?_))
    repeat' walk_at "lq"
    refine ⟨g.d, true, .d, .inr ⟨0, _, rfl, tyO X, X.is_Stock_Stock⟩, ?_⟩
    repeat' walk_at "lq"
    refine wr_eqD .d .d (okd_str hz.z) (okd_str hz2.z) ?_
    rw [eqv_str]
    obtain ⟨fz, fr⟩ := f
    obtain ⟨gz, gr⟩ := g
    repeat' walk_at "lq"
    · refine wr_eqD .d .d (tb_okd hz.r) (tb_okd hz2.r) ?_
      rw [eqv_tb]
      repeat' walk_at "lq"
      refine bl_post ?_
      simp_all [eqSt]
    · refine bl_post ?_
      simp_all [eqSt]
theorem cal_Stock___eq__ (X : Txt P K mg a) : Cal P w K mg base 1 a.f_Stock___eq__ ["self", "other"] (SpP (TT K a) F_Stock___eq__) [] := by
  obtain ⟨fd, F⟩ := X.F_Stock___eq__
  exact ⟨fd, [], ok_Stock___eq__ X F, .nil, F.bindsN fun _ _ _ _ _ _ us hl => match us, hl with | [_, _], _ => rfl⟩
abbrev F_Stock_borne : DF := Fv (ι := Stk) (fun i => [i.d]) (fun i => okStk i) (fun i d => d = .tup (i.rows.map fun r => .int r.role)) noErr
theorem ok_Stock_borne {fd} (X : Txt P K mg a) (F : DefAt K "borne" "Stock.borne" s_Stock_borne [] a.f_Stock_borne fd) : FnOk P w K mg base (L2.CX P w) 1 a.f_Stock_borne fd ["self"] (SpP (TT K a) F_Stock_borne) := by
  refine okP (fun i => [some (.d (i.d)), none]) F sc_Stock_borne (fun _ => rfl) fun cdv A outer s H E hr => 
   have hu := hr.units
   ⟨_, 
   (pss_one (ps_ret (pe_callTy call_tupA (by rfl) X.n_tuple (by decide +kernel) (pa_cons (pe_lc (own := [("row", 1)]) (by rfl) sc_Stock_borne.nd (pi_seq (pe_fld (pv 0) rfl)) (blkOk_by (own := [("row", 1)]) (N := N_Stock_borne) (sc := defScope s_Stock_borne) (by decide +kernel)) (fun _ _ _ _ _ => (pg_name (i := 1) sc_Stock_borne.nd rfl (Or.inl rfl))) (fun _ _ _ _ _ => pts_nil) (fun _ _ _ _ _ => (pe_ix (kIx K Lo.rIx rfl ix_any) (pv 1) pe_int (fun _ _ => rfl)))) pa_nil)))), fun b f hp hx => ?_⟩
  dsimp only [CxB, L2.cxOf] at hp ⊢
  repeat' walk_at "lq"
  refine we_lcf (js := [1]) (by decide) (fun d => match d with | .tup (x :: _) => x | _ => .non) (wi_seq ?_)
  repeat' walk_at "lq"
  refine ⟨_, .inr rfl, Nat.le_refl _, OwP_nil, by rw [List.length_map]; exact Nat.le_trans hp.n (by decide), fun x acc hm => ?_, ?_⟩
  · obtain ⟨r, hr, rfl⟩ := List.mem_map.mp hm
    refine wg_name ?_
    repeat' walk_at "lq"
    refine wr_ixT rfl ?_
    exact ⟨rfl, rfl⟩
  · repeat' walk_at "lq"
    refine wc_tup (.inl rfl) ?_
    refine ⟨_, rfl, ?_⟩
    rw [List.map_map]
    rfl
theorem cal_Stock_borne (X : Txt P K mg a) : Cal P w K mg base 1 a.f_Stock_borne ["self"] (SpP (TT K a) F_Stock_borne) [] := by
  obtain ⟨fd, F⟩ := X.F_Stock_borne
  exact ⟨fd, [], ok_Stock_borne X F, .nil, F.bindsN fun _ _ _ _ _ _ us hl => match us, hl with | [_], _ => rfl⟩
abbrev F_Stock_ending_for : DF := Fv (ι := Stk × Int × D) (fun i => [i.1.d, .int i.2.1, i.2.2]) (fun i => okStk i.1 ∧ (i.2.2 = .non ∨ ∃ z, i.2.2 = .str z ∧ okSt z = true)) (fun i d => d = oe (enOf i.1.rows i.2.1 i.2.2)) noErr
theorem ok_Stock_ending_for {fd} (X : Txt P K mg a) (F : DefAt K "ending_for" "Stock.ending_for" s_Stock_ending_for [] a.f_Stock_ending_for fd) : FnOk P w K mg base (L2.CX P w) 2 a.f_Stock_ending_for fd ["self", "role", "number"] (SpP (TT K a) F_Stock_ending_for) := by
  refine okP (fun i => [some (.d (i.1.d)), some (.d (.int i.2.1)), some (.d (i.2.2)), none]) F sc_Stock_ending_for (fun _ => rfl) fun cdv A outer s H E hr => 
   have hu := hr.units
   ⟨_, 
   (pss_cons (ps_for (passes_of rfl) rfl (pi_seq (pe_fld (pv 0) rfl)) (pg_name (i := 3) sc_Stock_ending_for.nd rfl (Or.inl rfl))
  (pss_one (ps_if (pt_cmpR (op_eqD hu) (pe_ix ix_any (pv 3) pe_int (fun _ _ => rfl)) (pv 1) (nomark _))
  (pss_one (ps_ret (pe_ix ix_any (pv 3) (pe_op op_addA pe_int (pe_cal X.A_number_rank (cal_number_rank X) hr (by rfl) passL (pa_cons (pv 2) pa_nil))) (fun _ _ => rfl))))
  pss_nil)))
  (pss_one (ps_ret pe_non))), fun b ⟨f, ro, nu⟩ hp hx => ?_⟩
  dsimp only [CxB, L2.cxOf] at hp ⊢
  obtain ⟨hf, hn⟩ := hp
  refine ws_seq (ws_for (js := [3]) (fun its i o s => o = [] ∧ s = [some (.d f.d), some (.d (.int ro)), some (.d nu), none] ∧ ∀ r ∈ f.rows.take i, r.role ≠ ro) (wi_seq ?_))
  repeat' walk_at "lq"
  refine ⟨_, .inr rfl, Nat.le_refl _, ⟨rfl, rfl, by simp⟩, ?_, ?_⟩
  · rintro i u o s hi ⟨rfl, rfl, hall⟩
    rw [List.getElem?_map] at hi
    obtain ⟨r, hr, rfl⟩ := Option.map_eq_some_iff.mp hi
    refine ⟨OwP_nil, Nat.le_refl _, wg_name ?_⟩
    refine ws_if ?_
    repeat' walk_at "lq"
    refine wr_ixT (i := 0) (x := .int r.role) (xs := [.int r.role, txD r.one, txD r.many]) rfl ?_
    repeat' walk_at "lq"
    · rename_i hk
      have hk : r.role = ro := by rw [eqv_int] at hk; exact of_decide_eq_true hk
      refine ⟨hn, fun _ z => z, ?_⟩
      rintro d rfl
      have e : enOf f.rows ro nu = some (if rankOf nu = 1 then r.many else r.one) := by
        unfold enOf
        have ef : f.rows.find? (fun r => decide (r.role = ro)) = some r := by
          rw [List.find?_eq_some_iff_getElem]
          obtain ⟨hl, er⟩ := List.getElem?_eq_some_iff.mp hr
          refine ⟨by simpa using hk, i, hl, er, fun j hj => ?_⟩
          have := hall (f.rows[j]) (List.mem_take_iff_getElem.mpr ⟨j, by omega, rfl⟩)
          simpa using this
        rw [ef]
        rfl
      rw [e]
      have hrk : rankOf nu = 0 ∨ rankOf nu = 1 := by
        unfold rankOf
        split
        · split
          · exact .inr rfl
          · exact .inl rfl
        · exact .inl rfl
      rcases hrk with h | h <;> rw [h] <;> repeat' walk_at "lq"
      · exact wr_ixT (xs := [.int r.role, txD r.one, txD r.many]) (x := txD r.one) rfl ⟨_, rfl, rfl⟩
      · exact wr_ixT (xs := [.int r.role, txD r.one, txD r.many]) (x := txD r.many) rfl ⟨_, rfl, rfl⟩
    · rename_i hk
      have hk : r.role ≠ ro := by rw [eqv_int] at hk; exact of_decide_eq_false hk
      refine ⟨_, _, ⟨List.prefix_refl _, .keepd (.keepd (.keepd (.drop .nil)))⟩, OwP_nil, Nat.le_refl _, rfl, rfl, fun v hv => ?_⟩
      rw [List.take_add_one, hr, List.mem_append] at hv
      rcases hv with hv | hv
      · exact hall v hv
      · have : v = r := by simpa using hv
        subst this
        exact hk
  · rintro o s ⟨rfl, rfl, hall⟩
    rw [List.length_map, List.take_length] at hall
    repeat' walk_at "lq"
    have e : enOf f.rows ro nu = none := by
      unfold enOf
      rw [List.find?_eq_none.mpr fun r hr => by simpa using hall r hr]
      rfl
    rw [e]
    rfl
theorem cal_Stock_ending_for (X : Txt P K mg a) : Cal P w K mg base 2 a.f_Stock_ending_for ["self", "role", "number"] (SpP (TT K a) F_Stock_ending_for) [] := by
  obtain ⟨fd, F⟩ := X.F_Stock_ending_for
  exact ⟨fd, [], ok_Stock_ending_for X F, .nil, F.bindsN fun _ _ _ _ _ _ us hl => match us, hl with | [_, _, _], _ => rfl⟩
end
end L3
end
section
set_option Elab.async false
set_option linter.all false
set_option maxRecDepth 100000
set_option maxHeartbeats 1000000
namespace L3
open PySem PySem.Spec PyProof.Rows L2 PySem.W PySem.Calls Lo
local macro_rules | `(tactic| walk_at "sd") => `(tactic| first | exact .d | rfl | assumption | (with_reducible decide) | omega | exact .nil | exact AllD.nil)
local macro_rules | `(tactic| walk_at "we") => `(tactic| first
  | ((with_reducible refine' we_var ?hv ?_); (case hv => rfl))
  | (with_reducible refine we_int ?_)
  | (with_reducible refine we_op ?_)
  | (with_reducible refine we_str ?_)
  | (with_reducible refine we_isi ?_)
  | (with_reducible refine we_isi2 ?_)
  | (with_reducible refine we_cb ?_)
  | (with_reducible refine we_andV ?_)
  | (with_reducible refine we_orV ?_)
  | (with_reducible refine we_notV ?_)
  | (with_reducible refine we_non ?_)
  | (with_reducible refine we_bl ?_)
  | (with_reducible refine we_if ?_)
  | (with_reducible refine we_un ?_)
  | (with_reducible refine we_cal0 ?_)
  | (with_reducible refine we_cal2 ?_)
  | (with_reducible refine we_calH ?_)
  | (with_reducible refine we_prp ?_)
  | (with_reducible refine we_tup ?_)
  | (with_reducible refine we_chain ?_))
local macro_rules | `(tactic| walk_at "ws") => `(tactic| first
  | (with_reducible refine ws_seq ?_)
  | (with_reducible refine ws_if ?_)
  | (with_reducible refine ws_set ?_)
  | (with_reducible refine ws_ret ?_)
  | (with_reducible refine ws_next ?_)
  | (with_reducible refine ws_drop ?_)
  | (with_reducible refine ws_retN ?_))
local macro_rules | `(tactic| walk_at "wt") => `(tactic| first
  | (with_reducible refine wt_test ?_)
  | (with_reducible refine wt_B ?_)
  | (with_reducible refine wt_and ?_)
  | (with_reducible refine wt_or ?_)
  | (with_reducible refine wt_not ?_))
local macro_rules | `(tactic| walk_at "wr") => `(tactic| first
  | (with_reducible refine wr_addI ?_)
  | (with_reducible refine wr_leI ?_)
  | (with_reducible refine wr_B0 ?_)
  | (with_reducible refine wr_I0 ?_)
  | (with_reducible refine wr_isN ?_)
  | (with_reducible refine wr_notN ?_)
  | (with_reducible refine wr_leS ?_)
  | ((with_reducible refine' wr_ixL ?hv ?_); (case hv => rfl))
  | ((with_reducible refine' wr_ixT ?hv ?_); (case hv => rfl))
  | ((with_reducible refine' wr_ixO ?hv ?hw ?_); (case hv => rfl); (case hw => rfl))
  | ((with_reducible refine' wr_eqD ?h1 ?h2 ?h3 ?h4 ?_); (case h1 => exact .d); (case h2 => exact .d); (case h3 => rfl); (case h4 => rfl))
  | ((with_reducible refine' wr_neD ?h1 ?h2 ?h3 ?h4 ?_); (case h1 => exact .d); (case h2 => exact .d); (case h3 => rfl); (case h4 => rfl)))
local macro_rules | `(tactic| walk_at "da") => `(tactic| first
  | (with_reducible refine ⟨_, rfl, ?_⟩)
  | (with_reducible refine ⟨fun _ => ?_, fun h => Bool.noConfusion h⟩)
  | (with_reducible refine ⟨fun h => Bool.noConfusion h, fun _ => ?_⟩)
  | (with_reducible refine ⟨_, rfl, ?_, ?_⟩)
  | ((with_reducible refine' ⟨_, _, .d, ?h1, ?h2, ?_⟩); (case h1 => walk_at "sd"); (case h2 => rfl))
  | ((with_reducible refine' ⟨_, _, _, .d, ?h1, ?h2, ?h3, ?_⟩); (case h1 => walk_at "sd"); (case h2 => rfl); (case h3 => rfl))
  | (with_reducible refine ⟨fun hk => ?_, fun hk => ?_⟩)
  | (show ∃ d, SV.d _ = SV.d d ∧ _; with_reducible refine ⟨_, rfl, ?_⟩))
local macro_rules | `(tactic| walk_at "lo") => `(tactic| first
  | ((with_reducible show Lo.WE _ _ _ _ _ _); walk_at "we")
  | ((with_reducible show Lo.WA _ _ _ _ _ _); first | (with_reducible refine wa_cons ?_) | (with_reducible refine wa_nil ?_))
  | ((with_reducible show Lo.WS _ _ _ _ _ _); walk_at "ws")
  | ((with_reducible show Lo.WT _ _ _ _ _ _); walk_at "wt")
  | ((with_reducible show Lo.WR _ _ _ _ _ _ _); walk_at "wr")
  | ((with_reducible show Lo.WU _ _ _ _ _ _); (with_reducible refine wu_neg ?_))
  | ((with_reducible show Lo.WC _ _ _ _ _ _); first | ((with_reducible refine' wc_len ?hv ?_); (case hv => rfl)) | (with_reducible refine wc_int ?_))
  | walk_at "da")
local macro_rules | `(tactic| walk_at "wq") => `(tactic| first
  | (with_reducible refine ws_seq (t := tAsg _ _) ?_)
  | (with_reducible refine ws_seq (t := tDrop _) ?_)
  | (with_reducible refine ws_set ?_)
  | (with_reducible refine ws_ret ?_)
  | (with_reducible refine ws_next ?_)
  | (with_reducible refine ws_drop ?_)
  | (with_reducible refine ws_retN ?_))
local macro_rules | `(tactic| walk_at "lq") => `(tactic| first
  | ((with_reducible show Lo.WE _ _ _ _ _ _); walk_at "we")
  | ((with_reducible show Lo.WA _ _ _ _ _ _); first | (with_reducible refine wa_cons ?_) | (with_reducible refine wa_nil ?_))
  | ((with_reducible show Lo.WS _ _ _ _ _ _); walk_at "wq")
  | ((with_reducible show Lo.WT _ _ _ _ _ _); walk_at "wt")
  | ((with_reducible show Lo.WR _ _ _ _ _ _ _); walk_at "wr")
  | ((with_reducible show Lo.WU _ _ _ _ _ _); (with_reducible refine wu_neg ?_))
  | ((with_reducible show Lo.WC _ _ _ _ _ _); first | ((with_reducible refine' wc_len ?hv ?_); (case hv => rfl)) | (with_reducible refine wc_int ?_))
  | walk_at "da")
local macro_rules | `(tactic| walk_at "ws") => `(tactic| (with_reducible refine ws_sub ?_))
local macro_rules | `(tactic| walk_at "wq") => `(tactic| (with_reducible refine ws_sub ?_))
local macro_rules | `(tactic| walk_at "da") => `(tactic| ((with_reducible show ∃ (i : Int) (j : Nat) (ss : List SV), SV.d (D.int _) = SV.d (D.int i) ∧ _); refine ⟨_, _, _, rfl, (rfl : _ = some (OW.lst _)), rfl, ?_⟩))

theorem cpow1018 : CPow 10 18 := ⟨by decide, by decide, by decide⟩
local macro_rules | `(tactic| walk_at "wr") => `(tactic| first
  | (with_reducible refine wr_mod (by decide) ?_)
  | (with_reducible refine wr_fdiv (by decide) (by decide) ?_)
  | (with_reducible refine wr_mod (by assumption) ?_)
  | (with_reducible refine wr_mul2 64 64 (by omega) (by omega) (by decide) ?_)
  | (with_reducible refine wr_pow cpow1018 ?_)
  | ((with_reducible refine' wr_ixC ?hv ?_); (case hv => assumption)))
local macro_rules | `(tactic| walk_at "lo") => `(tactic| first
  | ((with_reducible show Lo.WC _ _ _ _ _ _); (with_reducible refine wc_lenScr ?_)))
section
variable {P : Program} {w : World} {K : Frag} {mg : Str → Option Value} {base : Heap} {a : Ad}
theorem ok__law_hand {fd} (X : Txt P K mg a) (F : DefAt K "_law_hand" "_law_hand" s__law_hand [] a.f__law_hand fd) : FnOk P w K mg base (L2.CX P w) 1 a.f__law_hand fd ["_law_script"] (SpHd (TT K a)) := by
  refine okHd (fun ns => [some (.scr ns), none, none, none]) F sc__law_hand rfl fun cdv A outer s H E hr => ⟨_, 
   (pss_cons (ps_set (i := 1) sc__law_hand.nd rfl (Or.inl rfl) (pe_op op_addA (pe_callB call_lenA (by rfl) X.n_len PySem.boot_len (pa_cons (pv 0) pa_nil)) pe_int))
  (pss_cons (ps_set (i := 2) sc__law_hand.nd rfl (Or.inl rfl) (pe_lst pa_nil))
  (pss_cons (ps_for (passes_of rfl) rfl (pi_seq (pv 0)) (pg_name (i := 3) sc__law_hand.nd rfl (Or.inl rfl))
  (pss_cons (ps_set (i := 1) sc__law_hand.nd rfl (Or.inl rfl) (pe_op op_mod (pe_callTy call_intA (by rfl) X.n_int (by decide +kernel) (pa_cons (pe_op op_addA (pe_op op_mulA (pv 1) pe_int) (pe_callTy call_intA (by rfl) X.n_int (by decide +kernel) (pa_cons (pv 3) pa_nil))) pa_nil)) pe_int))
  (pss_one (ps_expr (pe_bm PySem.F.plainAttrs_list PySem.F.slot_list_append PySem.F.type_list_append mt_append (pv 2) (pa_cons (pe_ifExp (pt_cmpR op_ge (pv 3) pe_int (nomark _)) (pe_callTy call_intA (by rfl) X.n_int (by decide +kernel) (pa_cons (pv 3) pa_nil)) (pe_un un_neg (pe_callTy call_intA (by rfl) X.n_int (by decide +kernel) (pa_cons (pv 3) pa_nil)))) pa_nil))))))
  (pss_one (ps_ret (pe_lst (pa_cons (pv 2) (pa_cons pe_int (pa_cons pe_int (pa_cons (pv 1) pa_nil)))))))))), fun b ns hl hn => ?_⟩
  dsimp only [CxB, L2.cxOf]
  repeat' walk_at "lq"
  refine wc_lenScr ?_
  repeat' walk_at "lq"
  refine we_lstO ?_
  repeat' walk_at "lq"
  refine ⟨by decide, ?_⟩
  refine ws_seq (ws_for (js := [3]) (fun its i o s => ∃ cells tt x0 x3, o = [.lst (List.map SV.d (List.map D.int cells))] ∧ s = [x0, some (.d (.int tt)), some (.p 0), x3] ∧ cells.length = i ∧ (∀ x ∈ cells, 0 ≤ x ∧ x.natAbs < 2 ^ bigN) ∧ 0 ≤ tt ∧ tt < 2147483629) (wi_scr ?_))
  repeat' walk_at "lq"
  refine ⟨Nat.le_refl _, ⟨[], (ns.length : Int) + 31, _, _, rfl, rfl, rfl, (fun _ h => nomatch h), by omega, by omega⟩, ?_, ?_⟩
  · rintro i x o' s' hi ⟨cells, tt, x0, x3, rfl, rfl, hlen, hc, h0, h1⟩
    obtain ⟨n, hnm, rfl⟩ := List.mem_map.mp (List.mem_of_getElem? hi)
    have hb := hn n hnm
    have hi2 := (List.getElem?_eq_some_iff.mp hi).1
    rw [List.length_map] at hi2
    refine ⟨OwP_lst OwP_nil, Nat.le_refl _, wg_name ?_⟩
    have fin : ∀ m : Int, 0 ≤ m → m.natAbs < 2 ^ bigN → ∃ o4 s4, Fg ([OW.lst (List.map SV.d (List.map D.int cells) ++ [SV.d (.int m)])] : List OW) [x0, some (.d (.int ((tt * 1019 + n) % 2147483629))), some (.p 0), some (.d (.int n))] o4 s4 ∧ OwP o4.length o4 ∧ 1 ≤ o4.length ∧
        ∃ cells tt x0 x3, o4 = [OW.lst (List.map SV.d (List.map D.int cells))] ∧ s4 = [x0, some (.d (.int tt)), some (.p 0), x3] ∧ cells.length = i + 1 ∧ (∀ x ∈ cells, 0 ≤ x ∧ x.natAbs < 2 ^ bigN) ∧ 0 ≤ tt ∧ tt < 2147483629 := fun m hm hb => by
      have e : List.map SV.d (List.map D.int cells) ++ [SV.d (.int m)] = List.map SV.d (List.map D.int (cells ++ [m])) := by simp
      rw [e]
      refine ⟨_, _, ⟨List.prefix_refl _, .drop (.keepd (.keepp Nat.one_pos (.drop .nil)))⟩, OwP_lst OwP_nil, Nat.le_refl _, cells ++ [m], _, _, _, rfl, rfl, by simp [hlen], fun x hx => ?_, Int.emod_nonneg _ (by decide), Int.emod_lt_of_pos _ (by decide)⟩
      rcases List.mem_append.mp hx with hx | hx
      · exact hc x hx
      · rw [List.mem_singleton.mp hx]
        exact ⟨hm, hb⟩
    repeat' walk_at "lq"
    refine we_bm ?_
    repeat' walk_at "lq"
    refine ⟨0, _, rfl, rfl, ?_⟩
    repeat' walk_at "lq"
    · rename_i hk
      refine wm_append rfl (by rw [List.length_map, List.length_map]; omega) ?_
      have h0 : 0 ≤ n := of_decide_eq_true hk
      exact fin n h0 hb
    · rename_i hk
      refine wm_append rfl (by rw [List.length_map, List.length_map]; omega) ?_
      have h0 : ¬ 0 ≤ n := of_decide_eq_false hk
      exact fin (-n) (by omega) (by rw [Int.natAbs_neg]; exact hb)
  · rintro o' s' ⟨cells, tt, x0, x3, rfl, rfl, hlen, hc, h0, h1⟩
    refine ws_ret (we_lstO ?_)
    repeat' walk_at "lq"
    refine ⟨by show 4 ≤ 100000; decide, cells, tt, rfl, rfl, hc, by decide, by omega, by rw [hlen, List.length_map]; exact hl, by decide, ?_, h0, h1⟩
    show 0 < 2 ^ bigN
    exact Nat.pow_pos (by decide)
theorem cal__law_hand (X : Txt P K mg a) : Cal P w K mg base 1 a.f__law_hand ["_law_script"] (SpHd (TT K a)) [] := by
  obtain ⟨fd, F⟩ := X.F__law_hand
  exact ⟨fd, [], ok__law_hand X F, .nil, F.bindsN fun _ _ _ _ _ _ us hl => match us, hl with | [_], _ => rfl⟩
abbrev F__law_mixed : DF := Fv (ι := Int × Int) (fun i => [.int i.1, .int i.2]) (fun i => 0 ≤ i.1 ∧ i.1 < 2147483648 ∧ 0 ≤ i.2 ∧ i.2 ≤ 1000) (fun i d => ∃ k : Int, d = .int k ∧ 0 ≤ k) noErr
theorem ok__law_mixed {fd} (X : Txt P K mg a) (F : DefAt K "_law_mixed" "_law_mixed" s__law_mixed [] a.f__law_mixed fd) : FnOk P w K mg base (L2.CX P w) 1 a.f__law_mixed fd ["_law_number", "_law_turn"] (SpP (TT K a) F__law_mixed) := by
  refine okP (fun i => [some (.d (.int i.1)), some (.d (.int i.2)), none, none]) F sc__law_mixed (fun _ => rfl) fun cdv A outer s H E hr => ⟨_, 
   (pss_cons (ps_set (i := 2) sc__law_mixed.nd rfl (Or.inl rfl) (pe_op op_mod (pe_callTy call_intA (by rfl) X.n_int (by decide +kernel) (pa_cons (pe_op op_addA (pe_op op_addA (pe_op op_mulA (pv 0) pe_int) (pe_op op_mulA (pv 1) pe_int)) pe_int) pa_nil)) pe_int))
  (pss_cons (ps_set (i := 3) sc__law_mixed.nd rfl (Or.inl rfl) (pe_op op_mod (pe_callTy call_intA (by rfl) X.n_int (by decide +kernel) (pa_cons (pe_op op_addA (pe_op op_addA (pe_op op_mulA (pv 2) (pv 2)) (pe_op op_mulA (pv 1) pe_int)) (pe_op op_fdivW (pv 2) pe_int)) pa_nil)) pe_int))
  (pss_one (ps_ret (pe_op op_fdivW (pe_callTy call_intA (by rfl) X.n_int (by decide +kernel) (pa_cons (pe_op op_mod (pe_callTy call_intA (by rfl) X.n_int (by decide +kernel) (pa_cons (pe_op op_addA (pe_op op_mulA (pv 3) pe_int) (pe_op op_fdivW (pv 2) pe_int)) pa_nil)) pe_int) pa_nil)) pe_int))))), fun b ⟨n, t⟩ hp hx => ?_⟩
  dsimp only [CxB, L2.cxOf] at hp ⊢
  obtain ⟨h1, h2, h3, h4⟩ := hp
  repeat' walk_at "lq"
  omega
theorem cal__law_mixed (X : Txt P K mg a) : Cal P w K mg base 1 a.f__law_mixed ["_law_number", "_law_turn"] (SpP (TT K a) F__law_mixed) [] := by
  obtain ⟨fd, F⟩ := X.F__law_mixed
  exact ⟨fd, [], ok__law_mixed X F, .nil, F.bindsN fun _ _ _ _ _ _ us hl => match us, hl with | [_, _], _ => rfl⟩
abbrev F__law_take : DF := Fv (ι := Int) (fun i => [.int i]) (fun i => 0 < i ∧ i < 2 ^ 30) (fun i d => ∃ k : Int, d = .int k ∧ 0 ≤ k ∧ k < i) noErr
theorem ok__law_take {fd} (X : Txt P K mg a) (F : DefAt K "_law_take" "_law_take" s__law_take [] a.f__law_take fd) : FnOk P w K mg base (L2.CX P w) 2 a.f__law_take fd ["_law_hand_here", "_law_many"] (SpH (TT K a) F__law_take) := by
  refine okH (fun i => [some (.p 0), some (.d (.int i)), none, none]) F sc__law_take (fun _ => rfl) fun cdv A outer s H E hr => 
   have hu := hr.units
   ⟨_, 
   (pss_cons (ps_if (PW.pt (pw_and (pt_cmpR (op_eqD hu) (pe_ix ix_any (pv 0) pe_int (fun _ _ => rfl)) pe_int (nomark _)) (pw_and1 (pt_cmpR op_lt (pe_ix ix_any (pv 0) pe_int (fun _ _ => rfl)) (pe_callB call_lenA (by rfl) X.n_len PySem.boot_len (pa_cons (pe_ix ix_any (pv 0) pe_int (fun _ _ => rfl)) pa_nil)) (nomark _)))))
  (pss_cons (ps_set (i := 2) sc__law_take.nd rfl (Or.inl rfl) (pe_ix ix_any (pe_ix ix_any (pv 0) pe_int (fun _ _ => rfl)) (pe_ix ix_any (pv 0) pe_int (fun _ _ => rfl)) (fun _ _ => rfl)))
  (pss_cons (ps_asg (pe_op op_addA (pe_ix ix_any (pv 0) pe_int (fun _ _ => rfl)) pe_int) (pg_sub (pv 0) pe_int set_list))
  (pss_cons (ps_if (pt_cmpR op_lt (pv 2) (pe_op op_pow pe_int pe_int) (nomark _))
  (pss_one (ps_ret (pe_op op_mod (pe_callTy call_intA (by rfl) X.n_int (by decide +kernel) (pa_cons (pe_cal X.A__law_mixed (cal__law_mixed X) hr (by rfl) passL (pa_cons (pe_op op_mod (pe_callTy call_intA (by rfl) X.n_int (by decide +kernel) (pa_cons (pv 2) pa_nil)) pe_int) (pa_cons (pe_ix ix_any (pv 0) pe_int (fun _ _ => rfl)) pa_nil))) pa_nil)) (pv 1))))
  pss_nil)
  (pss_one (ps_asg (pv 2) (pg_sub (pv 0) pe_int set_list))))))
  pss_nil)
  (pss_cons (ps_if (pt_cmpR op_gt (pe_ix ix_any (pv 0) pe_int (fun _ _ => rfl)) pe_int (nomark _))
  (pss_cons (ps_set (i := 3) sc__law_take.nd rfl (Or.inl rfl) (pe_ix ix_any (pv 0) pe_int (fun _ _ => rfl)))
  (pss_cons (ps_asg (pe_op op_fdivW (pe_callTy call_intA (by rfl) X.n_int (by decide +kernel) (pa_cons (pv 3) pa_nil)) (pv 1)) (pg_sub (pv 0) pe_int set_list))
  (pss_one (ps_ret (pe_op op_mod (pe_callTy call_intA (by rfl) X.n_int (by decide +kernel) (pa_cons (pv 3) pa_nil)) (pv 1))))))
  pss_nil)
  (pss_cons (ps_asg (pe_op op_mod (pe_callTy call_intA (by rfl) X.n_int (by decide +kernel) (pa_cons (pe_op op_addA (pe_ix ix_any (pv 0) pe_int (fun _ _ => rfl)) pe_int) pa_nil)) pe_int) (pg_sub (pv 0) pe_int set_list))
  (pss_one (ps_ret (pe_op op_mod (pe_callTy call_intA (by rfl) X.n_int (by decide +kernel) (pa_cons (pe_cal X.A__law_mixed (cal__law_mixed X) hr (by rfl) passL (pa_cons (pe_ix ix_any (pv 0) pe_int (fun _ _ => rfl)) (pa_cons (pe_ix ix_any (pv 0) pe_int (fun _ _ => rfl)) pa_nil))) pa_nil)) (pv 1))))))), fun b m hp => ?_⟩
  dsimp only [CxB, L2.cxOf] at hp ⊢
  obtain ⟨hm0, hm1⟩ := hp
  refine ws_openHand (k := 0) rfl fun cells i r t hv => ws_closeHand (k := 0) ?_
  show Lo.WS _ _ _ [OW.lst (handL cells i r t)] _ _
  obtain ⟨hc, i0, i1, hl, r0, r1, t0, t1⟩ := hv
  have md : ∀ k : Int, 0 ≤ k % m ∧ k % m < m := fun k => ⟨Int.emod_nonneg _ (by omega), Int.emod_lt_of_pos _ hm0⟩
  refine ws_cut (fun o s => ∃ i r x, o = [.lst (handL cells i r t)] ∧ s = [some (.p 0), some (.d (.int m)), x, none] ∧ 0 ≤ i ∧ i ≤ cells.length ∧ 0 ≤ r ∧ r.natAbs < 2 ^ bigN) ?_ ?_
  · repeat' walk_at "lo"
    · rename_i h2 h1
      have hr0 : r = 0 := of_decide_eq_true h2
      have hi : i < cells.length := of_decide_eq_true h1
      obtain ⟨x, hx⟩ : ∃ x, atI cells i = some x := by
        obtain ⟨j, rfl⟩ : ∃ j : Nat, i = (j : Int) := ⟨i.toNat, by omega⟩
        have hj : j < cells.length := by omega
        exact ⟨cells[j], atI_nat (List.getElem?_eq_getElem hj)⟩
      have hxm : x ∈ cells := by
        obtain ⟨j, _, h, _⟩ := atI_get hx
        exact List.mem_of_getElem? h
      have hxb := hc x hxm
      repeat' walk_at "lo"
      · refine ⟨_, .cons (.cons .nil), ⟨(x % 2147483647, i + 1), rfl, ⟨Int.emod_nonneg _ (by decide), by omega, by omega, by omega⟩, fun _ z => z, ?_⟩⟩
        rintro d ⟨k, rfl, hk⟩
        repeat' walk_at "lo"
        exact ⟨cells, i + 1, r, t, rfl, ⟨hc, by omega, by omega, hl, r0, r1, t0, t1⟩, rfl, _, rfl, _, rfl, md k⟩
      · exact ⟨i + 1, x, some (.d (.int x)), rfl, rfl, by omega, by omega, hxb.1, hxb.2⟩
    · exact ⟨i, r, none, rfl, rfl, i0, i1, r0, r1⟩
    · exact ⟨i, r, none, rfl, rfl, i0, i1, r0, r1⟩
  · rintro o s ⟨i, r, x, rfl, rfl, i0, i1, r0, r1⟩
    repeat' walk_at "lo"
    · rename_i hk
      have hr : 0 < r := of_decide_eq_true hk
      refine wr_fdiv hm0 (by omega) ?_
      repeat' walk_at "lo"
      refine ⟨cells, i, r / m, t, rfl, ⟨hc, i0, i1, hl, Int.ediv_nonneg r0 (by omega), ?_, t0, t1⟩, rfl, _, rfl, _, rfl, md r⟩
      refine Nat.lt_of_le_of_lt ?_ r1
      have h1 : r / m ≤ r := Int.ediv_le_self m r0
      have h2 : 0 ≤ r / m := Int.ediv_nonneg r0 (by omega)
      omega
    · rename_i hk
      refine ⟨_, .cons (.cons .nil), ⟨((t + 1) % 2147483629, i), rfl, ⟨Int.emod_nonneg _ (by decide), by omega, by omega, by omega⟩, fun _ z => z, ?_⟩⟩
      rintro d ⟨k, rfl, hk⟩
      repeat' walk_at "lo"
      exact ⟨cells, i, r, (t + 1) % 2147483629, rfl, ⟨hc, i0, i1, hl, r0, r1, Int.emod_nonneg _ (by decide), Int.emod_lt_of_pos _ (by decide)⟩, rfl, _, rfl, _, rfl, md k⟩
theorem cal__law_take (X : Txt P K mg a) : Cal P w K mg base 2 a.f__law_take ["_law_hand_here", "_law_many"] (SpH (TT K a) F__law_take) [] := by
  obtain ⟨fd, F⟩ := X.F__law_take
  exact ⟨fd, [], ok__law_take X F, .nil, F.bindsN fun _ _ _ _ _ _ us hl => match us, hl with | [_, _], _ => rfl⟩
end
end L3
end
section
set_option Elab.async false
set_option linter.all false
set_option maxRecDepth 100000
set_option maxHeartbeats 1000000
namespace L3
open PySem PySem.Spec PyProof.Rows L2 PySem.W PySem.Calls Lo
local macro_rules | `(tactic| walk_at "sd") => `(tactic| first | exact .d | rfl | assumption | (with_reducible decide) | omega | exact .nil | exact AllD.nil)
local macro_rules | `(tactic| walk_at "we") => `(tactic| first
  | ((with_reducible refine' we_var ?hv ?_); (case hv => rfl))
  | (with_reducible refine we_int ?_)
  | (with_reducible refine we_op ?_)
  | (with_reducible refine we_str ?_)
  | (with_reducible refine we_isi ?_)
  | (with_reducible refine we_isi2 ?_)
  | (with_reducible refine we_cb ?_)
  | (with_reducible refine we_andV ?_)
  | (with_reducible refine we_orV ?_)
  | (with_reducible refine we_notV ?_)
  | (with_reducible refine we_non ?_)
  | (with_reducible refine we_bl ?_)
  | (with_reducible refine we_if ?_)
  | (with_reducible refine we_un ?_)
  | (with_reducible refine we_cal0 ?_)
  | (with_reducible refine we_cal2 ?_)
  | (with_reducible refine we_calH ?_)
  | (with_reducible refine we_prp ?_)
  | (with_reducible refine we_tup ?_)
  | (with_reducible refine we_chain ?_))
local macro_rules | `(tactic| walk_at "ws") => `(tactic| first
  | (with_reducible refine ws_seq ?_)
  | (with_reducible refine ws_if ?_)
  | (with_reducible refine ws_set ?_)
  | (with_reducible refine ws_ret ?_)
  | (with_reducible refine ws_next ?_)
  | (with_reducible refine ws_drop ?_)
  | (with_reducible refine ws_retN ?_))
local macro_rules | `(tactic| walk_at "wt") => `(tactic| first
  | (with_reducible refine wt_test ?_)
  | (with_reducible refine wt_B ?_)
  | (with_reducible refine wt_and ?_)
  | (with_reducible refine wt_or ?_)
  | (with_reducible refine wt_not ?_))
local macro_rules | `(tactic| walk_at "wr") => `(tactic| first
  | (with_reducible refine wr_addI ?_)
  | (with_reducible refine wr_leI ?_)
  | (with_reducible refine wr_B0 ?_)
  | (with_reducible refine wr_I0 ?_)
  | (with_reducible refine wr_isN ?_)
  | (with_reducible refine wr_notN ?_)
  | (with_reducible refine wr_leS ?_)
  | ((with_reducible refine' wr_ixL ?hv ?_); (case hv => rfl))
  | ((with_reducible refine' wr_ixT ?hv ?_); (case hv => rfl))
  | ((with_reducible refine' wr_ixO ?hv ?hw ?_); (case hv => rfl); (case hw => rfl))
  | ((with_reducible refine' wr_eqD ?h1 ?h2 ?h3 ?h4 ?_); (case h1 => exact .d); (case h2 => exact .d); (case h3 => rfl); (case h4 => rfl))
  | ((with_reducible refine' wr_neD ?h1 ?h2 ?h3 ?h4 ?_); (case h1 => exact .d); (case h2 => exact .d); (case h3 => rfl); (case h4 => rfl)))
local macro_rules | `(tactic| walk_at "da") => `(tactic| first
  | (with_reducible refine ⟨_, rfl, ?_⟩)
  | (with_reducible refine ⟨fun _ => ?_, fun h => Bool.noConfusion h⟩)
  | (with_reducible refine ⟨fun h => Bool.noConfusion h, fun _ => ?_⟩)
  | (with_reducible refine ⟨_, rfl, ?_, ?_⟩)
  | ((with_reducible refine' ⟨_, _, .d, ?h1, ?h2, ?_⟩); (case h1 => walk_at "sd"); (case h2 => rfl))
  | ((with_reducible refine' ⟨_, _, _, .d, ?h1, ?h2, ?h3, ?_⟩); (case h1 => walk_at "sd"); (case h2 => rfl); (case h3 => rfl))
  | (with_reducible refine ⟨fun hk => ?_, fun hk => ?_⟩)
  | (show ∃ d, SV.d _ = SV.d d ∧ _; with_reducible refine ⟨_, rfl, ?_⟩))
local macro_rules | `(tactic| walk_at "lo") => `(tactic| first
  | ((with_reducible show Lo.WE _ _ _ _ _ _); walk_at "we")
  | ((with_reducible show Lo.WA _ _ _ _ _ _); first | (with_reducible refine wa_cons ?_) | (with_reducible refine wa_nil ?_))
  | ((with_reducible show Lo.WS _ _ _ _ _ _); walk_at "ws")
  | ((with_reducible show Lo.WT _ _ _ _ _ _); walk_at "wt")
  | ((with_reducible show Lo.WR _ _ _ _ _ _ _); walk_at "wr")
  | ((with_reducible show Lo.WU _ _ _ _ _ _); (with_reducible refine wu_neg ?_))
  | ((with_reducible show Lo.WC _ _ _ _ _ _); first | ((with_reducible refine' wc_len ?hv ?_); (case hv => rfl)) | (with_reducible refine wc_int ?_))
  | walk_at "da")
local macro_rules | `(tactic| walk_at "wq") => `(tactic| first
  | (with_reducible refine ws_seq (t := tAsg _ _) ?_)
  | (with_reducible refine ws_seq (t := tDrop _) ?_)
  | (with_reducible refine ws_set ?_)
  | (with_reducible refine ws_ret ?_)
  | (with_reducible refine ws_next ?_)
  | (with_reducible refine ws_drop ?_)
  | (with_reducible refine ws_retN ?_))
local macro_rules | `(tactic| walk_at "lq") => `(tactic| first
  | ((with_reducible show Lo.WE _ _ _ _ _ _); walk_at "we")
  | ((with_reducible show Lo.WA _ _ _ _ _ _); first | (with_reducible refine wa_cons ?_) | (with_reducible refine wa_nil ?_))
  | ((with_reducible show Lo.WS _ _ _ _ _ _); walk_at "wq")
  | ((with_reducible show Lo.WT _ _ _ _ _ _); walk_at "wt")
  | ((with_reducible show Lo.WR _ _ _ _ _ _ _); walk_at "wr")
  | ((with_reducible show Lo.WU _ _ _ _ _ _); (with_reducible refine wu_neg ?_))
  | ((with_reducible show Lo.WC _ _ _ _ _ _); first | ((with_reducible refine' wc_len ?hv ?_); (case hv => rfl)) | (with_reducible refine wc_int ?_))
  | walk_at "da")
local macro_rules | `(tactic| walk_at "ws") => `(tactic| (with_reducible refine ws_sub ?_))
local macro_rules | `(tactic| walk_at "wq") => `(tactic| (with_reducible refine ws_sub ?_))
local macro_rules | `(tactic| walk_at "da") => `(tactic| ((with_reducible show ∃ (i : Int) (j : Nat) (ss : List SV), SV.d (D.int _) = SV.d (D.int i) ∧ _); refine ⟨_, _, _, rfl, (rfl : _ = some (OW.lst _)), rfl, ?_⟩))
local macro_rules | `(tactic| walk_at "da") => `(tactic| ((with_reducible show ∃ (k : Nat) (ss : List SV), SV.p _ = SV.p k ∧ _); refine ⟨_, _, rfl, (rfl : _ = some (OW.lst _)), ?_⟩))
local macro_rules | `(tactic| walk_at "we") => `(tactic| (with_reducible refine we_bm ?_))
local macro_rules | `(tactic| walk_at "lo") => `(tactic| ((with_reducible show Lo.WC _ _ (Lo.rLen _) _ [SV.p _] _); refine wc_lenO (rfl : _ = some (OW.lst _)) ?_))
local macro_rules | `(tactic| walk_at "lq") => `(tactic| ((with_reducible show Lo.WC _ _ (Lo.rLen _) _ [SV.p _] _); refine wc_lenO (rfl : _ = some (OW.lst _)) ?_))
local macro_rules | `(tactic| walk_at "da") => `(tactic| ((with_reducible show ∃ (k : Nat) (sr : List SV) (xs : List D), [SV.p _] = SV.p k :: sr ∧ _); refine ⟨_, _, _, rfl, (rfl : _ = some OW.hand), .nil, ?_⟩))
local macro_rules | `(tactic| walk_at "da") => `(tactic| ((with_reducible show ∃ (k : Nat) (sr : List SV) (xs : List D), [SV.p _, SV.d _] = SV.p k :: sr ∧ _); refine ⟨_, _, _, rfl, (rfl : _ = some OW.hand), .cons .nil, ?_⟩))
local macro_rules | `(tactic| walk_at "da") => `(tactic| ((with_reducible show ∃ (k : Nat) (sr : List SV) (xs : List D), [SV.p _, SV.d _, SV.d _] = SV.p k :: sr ∧ _); refine ⟨_, _, _, rfl, (rfl : _ = some OW.hand), .cons (.cons .nil), ?_⟩))
local macro_rules | `(tactic| walk_at "da") => `(tactic| ((with_reducible show ∃ (xs : List D), AllD [] xs ∧ _); refine ⟨_, .nil, ?_⟩))
local macro_rules | `(tactic| walk_at "da") => `(tactic| ((with_reducible show ∃ (xs : List D), AllD [SV.d _] xs ∧ _); refine ⟨_, .cons .nil, ?_⟩))
local macro_rules | `(tactic| walk_at "da") => `(tactic| ((with_reducible show ∃ (xs : List D), AllD [SV.d _, SV.d _] xs ∧ _); refine ⟨_, .cons (.cons .nil), ?_⟩))
local macro_rules | `(tactic| walk_at "da") => `(tactic| ((with_reducible show ∃ (xs : List D), AllD [SV.d _, SV.d _, SV.d _] xs ∧ _); refine ⟨_, .cons (.cons (.cons .nil)), ?_⟩))
local macro_rules | `(tactic| walk_at "da") => `(tactic| ((with_reducible show ∃ (xs : List D), AllD [SV.d _, SV.d _, SV.d _, SV.d _] xs ∧ _); refine ⟨_, .cons (.cons (.cons (.cons .nil))), ?_⟩))
local macro_rules | `(tactic| walk_at "lo") => `(tactic| ((with_reducible show Lo.WO _ _ _ _ _ _); first | (with_reducible refine wo_none ?_) | (with_reducible refine wo_some ?_)))
local macro_rules | `(tactic| walk_at "lq") => `(tactic| ((with_reducible show Lo.WO _ _ _ _ _ _); first | (with_reducible refine wo_none ?_) | (with_reducible refine wo_some ?_)))
local macro_rules | `(tactic| walk_at "da") => `(tactic| first | ((with_reducible refine' takeG ?h ?_); (case h => (constructor <;> omega)); (intro k h0 h1)) | fail "no")
local macro_rules | `(tactic| walk_at "wr") => `(tactic| first | ((with_reducible refine' wr_pow ?h ?_); (case h => exact ⟨by decide, by decide, by decide⟩)) | fail "no")
local macro_rules | `(tactic| walk_at "we") => `(tactic| first | (with_reducible refine we_dnew ?_) | (with_reducible refine we_setd ?_) | (with_reducible refine we_dget ?_) | (with_reducible refine we_dget2 ?_) | (with_reducible refine we_sadd ?_) | fail "no")
local macro_rules | `(tactic| walk_at "lo") => `(tactic| ((with_reducible show Lo.WC _ _ (rSet0 _) _ _ _); refine wc_set0 ?_))
local macro_rules | `(tactic| walk_at "da") => `(tactic| ((with_reducible show ∃ (ks : List L2.Key) (vs : List D), SV.d (D.dct _ _) = SV.d (D.dct ks vs) ∧ _); refine ⟨_, _, rfl, ?_⟩))
local macro_rules | `(tactic| walk_at "da") => `(tactic| ((with_reducible show ∃ (dy : D) (key : L2.Key), SV.d (D.int _) = SV.d dy ∧ _); refine ⟨_, _, rfl, rfl, ?_⟩))
local macro_rules | `(tactic| walk_at "we") => `(tactic| first | (with_reducible refine we_bm0 ?_) | fail "no")
local macro_rules | `(tactic| walk_at "wr") => `(tactic| first | ((with_reducible show WR _ _ (rSNotIn _) _ _ _ _); refine wr_snotin (rfl : _ = some (oSet _ _ _)) ?_) | fail "no")
local macro_rules | `(tactic| walk_at "da") => `(tactic| ((with_reducible show ∃ (k : Nat) (S : Int → Bool) (n : Nat), SV.p _ = SV.p k ∧ _); refine ⟨_, _, _, rfl, (rfl : _ = some (oSet _ _ _)), ?_⟩))

theorem abc_at {k : Int} (h0 : 0 ≤ k) (h1 : k < 26) : atI ("abcdefghijklmnopqrstuvwxyz" : Str).cps.toList k = some (97 + k.toNat) := by
  obtain ⟨j, rfl⟩ : ∃ j : Nat, k = (j : Int) := ⟨k.toNat, by omega⟩
  have e : ("abcdefghijklmnopqrstuvwxyz" : Str).cps.toList = (List.range 26).map (97 + ·) := by decide +kernel
  rw [e]
  refine atI_nat ?_
  rw [List.getElem?_map, List.getElem?_range (by omega)]
  rfl
/-- no role of so many -/
def noRole (many : Int) (d : D) : Prop := d.flat = true ∧ d.okd = true ∧ d.isO = false ∧ d.shw = true ∧ d.rc ≤ 300 ∧ (∀ z : Str, d = .str z → z.length ≤ 100000) ∧ isWhole d (some 0) (some (many - 1)) = false
section
variable {P : Program} {w : World} {K : Frag} {mg : Str → Option Value} {base : Heap} {a : Ad}
abbrev F__law_shuffled : DF := Fv (ι := D) (fun i => [i]) (fun i => ∃ xs, (i = .lst xs ∨ i = .tup xs) ∧ xs.length ≤ 100000) (fun i d => ∃ xs ys : List D, (i = .lst xs ∨ i = .tup xs) ∧ ys.Perm xs ∧ d = .lst ys) noErr
theorem ok__law_shuffled {fd} (X : Txt P K mg a) (F : DefAt K "_law_shuffled" "_law_shuffled" s__law_shuffled [] a.f__law_shuffled fd) : FnOk P w K mg base (L2.CX P w) 3 a.f__law_shuffled fd ["_law_hand_here", "_law_row"] (SpH (TT K a) F__law_shuffled) := by
  refine okH (fun i => [some (.p 0), some (.d (i)), none, none]) F sc__law_shuffled (fun _ => rfl) fun cdv A outer s H E hr => 
   have hu := hr.units
   ⟨_, 
   (pss_cons (ps_par (i := 2) (j := 3) rfl sc__law_shuffled.nd rfl rfl (by decide) rfl rfl (pa_cons (pe_callTy call_listA (by rfl) X.n_list (by decide +kernel) (pa_cons (pv 1) pa_nil)) (pa_cons (pe_lst pa_nil) pa_nil)) (by rfl))
  (pss_cons (ps_while (passes_of rfl) (pt_truth (pv 2) (by intro _; rfl))
  (pss_one (ps_expr (pe_bm PySem.F.plainAttrs_list PySem.F.slot_list_append PySem.F.type_list_append mt_append (pv 3) (pa_cons (pe_bm PySem.F.plainAttrs_list PySem.F.slot_list_pop PySem.F.type_list_pop mt_popAt (pv 2) (pa_cons (pe_cal X.A__law_take (cal__law_take X) hr (by rfl) passL (pa_cons (pv 0) (pa_cons (pe_callB call_lenA (by rfl) X.n_len PySem.boot_len (pa_cons (pv 2) pa_nil)) pa_nil))) pa_nil)) pa_nil)))))
  (pss_one (ps_ret (pv 3))))), fun b row hp => ?_⟩
  dsimp only [CxB, L2.cxOf] at hp ⊢
  obtain ⟨xs, hx, hl⟩ := hp
  refine ws_frzR ?_
  refine ws_seq (ws_par ?_)
  repeat' walk_at "lq"
  refine wc_listO hx ?_
  repeat' walk_at "lq"
  refine we_lstO ?_
  repeat' walk_at "lq"
  refine ⟨Nat.zero_le _, ?_⟩
  repeat' walk_at "lq"
  refine ⟨_, _, rfl, ?_⟩
  refine ws_seq (ws_while (fun m o s => ∃ left found : List D, m = left.length ∧ o = [.hand, .lst (left.map SV.d), .lst (found.map SV.d)] ∧ s = [some (.p 0), some (.d row), some (.p 1), some (.p 2)] ∧ (found ++ left).Perm xs) xs.length ⟨xs, [], rfl, rfl, rfl, List.Perm.refl _⟩ ?_)
  rintro m o s ⟨left, found, rfl, rfl, rfl, hpm⟩
  refine ⟨OwP_hand (OwP_lst (OwP_lst OwP_nil)), Nat.le_refl _, ?_⟩
  have hle : left.length ≤ xs.length := by
    have := hpm.length_eq
    rw [List.length_append] at this
    omega
  refine wt_truO ?_
  have hll : (left.map SV.d).length = left.length := List.length_map ..
  have hlf : (found.map SV.d).length = found.length := List.length_map ..
  have hsum : found.length + left.length = xs.length := by
    have := hpm.length_eq
    rw [List.length_append] at this
    exact this
  repeat' walk_at "lo"
  · rename_i hk
    have hpos : 0 < left.length := by
      cases left with
      | nil => cases hk
      | cons x r => exact Nat.succ_pos _
    repeat' walk_at "lo"
    rename_i k h0 h1
    obtain ⟨j, rfl⟩ : ∃ j : Nat, k = (j : Int) := ⟨k.toNat, by omega⟩
    have hj : j < left.length := by omega
    refine wm_popAt (rfl : _ = some (OW.lst _)) (x := .d left[j]) (by rw [List.getElem?_map, List.getElem?_eq_getElem hj]; rfl) (by omega) ?_
    repeat' walk_at "lo"
    refine wm_append (rfl : _ = some (OW.lst _)) (by omega) ?_
    have e1 : (left.map SV.d).eraseIdx j = (left.eraseIdx j).map SV.d := erase_map left j
    have e2 : found.map SV.d ++ [SV.d left[j]] = (found ++ [left[j]]).map SV.d := by simp
    show ∃ m' o4 s4, m' < left.length ∧ Fg [OW.hand, OW.lst ((left.map SV.d).eraseIdx j), OW.lst (found.map SV.d ++ [SV.d left[j]])] [some (SV.p 0), some (SV.d row), some (SV.p 1), some (SV.p 2)] o4 s4 ∧ _
    rw [e1, e2]
    refine ⟨_, _, _, ?_, ⟨List.prefix_refl _, .keepp (by show 0 < 3; decide) (.keepd (.keepp (by show 1 < 3; decide) (.keepp (by show 2 < 3; decide) .nil)))⟩, OwP_hand (OwP_lst (OwP_lst OwP_nil)), Nat.le_refl _, left.eraseIdx j, found ++ [left[j]], rfl, rfl, rfl, ?_⟩
    · rw [List.length_eraseIdx_of_lt hj]
      omega
    · refine List.Perm.trans ?_ hpm
      rw [List.append_assoc]
      exact List.Perm.append_left _ (erase_perm left j hj)
  · rename_i hk
    have hnil : left = [] := by
      cases left with
      | nil => rfl
      | cons x r => cases hk
    subst hnil
    rw [List.append_nil] at hpm
    exact .inl ⟨2, found, rfl, rfl, rfl, _, rfl, xs, found, hx, hpm, rfl⟩
theorem cal__law_shuffled (X : Txt P K mg a) : Cal P w K mg base 3 a.f__law_shuffled ["_law_hand_here", "_law_row"] (SpH (TT K a) F__law_shuffled) [] := by
  obtain ⟨fd, F⟩ := X.F__law_shuffled
  exact ⟨fd, [], ok__law_shuffled X F, .nil, F.bindsN fun _ _ _ _ _ _ us hl => match us, hl with | [_, _], _ => rfl⟩
abbrev F__law_as_list : DF := Fv (ι := D) (fun i => [i]) (fun i => ∃ xs, i = .lst xs ∨ i = .tup xs) (fun i d => ∃ xs, (i = .lst xs ∨ i = .tup xs) ∧ (d = .lst xs ∨ d = .tup xs)) noErr
theorem ok__law_as_list {fd} (X : Txt P K mg a) (F : DefAt K "_law_as_list" "_law_as_list" s__law_as_list [] a.f__law_as_list fd) : FnOk P w K mg base (L2.CX P w) 3 a.f__law_as_list fd ["_law_hand_here", "_law_row"] (SpH (TT K a) F__law_as_list) := by
  refine okH (fun i => [some (.p 0), some (.d (i))]) F sc__law_as_list (fun _ => rfl) fun cdv A outer s H E hr => 
   have hu := hr.units
   ⟨_, 
   (pss_one (ps_ret (pe_ifExp (pt_cmpR (op_eqD hu) (pe_cal X.A__law_take (cal__law_take X) hr (by rfl) passL (pa_cons (pv 0) (pa_cons pe_int pa_nil))) pe_int (nomark _)) (pe_callTy call_listA (by rfl) X.n_list (by decide +kernel) (pa_cons (pv 1) pa_nil)) (pe_callTy call_tupA (by rfl) X.n_tuple (by decide +kernel) (pa_cons (pv 1) pa_nil))))), fun b row hp => ?_⟩
  dsimp only [CxB, L2.cxOf] at hp ⊢
  obtain ⟨xs, hx⟩ := hp
  repeat' walk_at "lo"
  rename_i k h0 h1
  · exact wc_list hx ⟨rfl, _, rfl, xs, hx, .inl rfl⟩
  · exact wc_tup hx ⟨rfl, _, rfl, xs, hx, .inr rfl⟩
theorem cal__law_as_list (X : Txt P K mg a) : Cal P w K mg base 3 a.f__law_as_list ["_law_hand_here", "_law_row"] (SpH (TT K a) F__law_as_list) [] := by
  obtain ⟨fd, F⟩ := X.F__law_as_list
  exact ⟨fd, [], ok__law_as_list X F, .nil, F.bindsN fun _ _ _ _ _ _ us hl => match us, hl with | [_, _], _ => rfl⟩
abbrev F__law_no_role : DF := Fv (ι := Int) (fun i => [.int i]) (fun i => 1 ≤ i ∧ i ≤ 6) (fun i d => noRole i d) noErr
theorem ok__law_no_role {fd} (X : Txt P K mg a) (F : DefAt K "_law_no_role" "_law_no_role" s__law_no_role [] a.f__law_no_role fd) : FnOk P w K mg base (L2.CX P w) 3 a.f__law_no_role fd ["_law_hand_here", "_law_many"] (SpH (TT K a) F__law_no_role) := by
  refine okH (fun i => [some (.p 0), some (.d (.int i)), none]) F sc__law_no_role (fun _ => rfl) fun cdv A outer s H E hr => 
   have hu := hr.units
   ⟨_, 
   (pss_cons (ps_set (i := 2) sc__law_no_role.nd rfl (Or.inl rfl) (pe_cal X.A__law_take (cal__law_take X) hr (by rfl) passL (pa_cons (pv 0) (pa_cons pe_int pa_nil))))
  (pss_cons (ps_if (pt_cmpR (op_eqD hu) (pv 2) pe_int (nomark _))
  (pss_one (ps_ret pe_non))
  pss_nil)
  (pss_cons (ps_if (pt_cmpR (op_eqD hu) (pv 2) pe_int (nomark _))
  (pss_one (ps_ret pe_bl))
  pss_nil)
  (pss_cons (ps_if (pt_cmpR (op_eqD hu) (pv 2) pe_int (nomark _))
  (pss_one (ps_ret (pe_op op_sub (pe_un un_neg pe_int) (pe_cal X.A__law_take (cal__law_take X) hr (by rfl) passL (pa_cons (pv 0) (pa_cons pe_int pa_nil))))))
  pss_nil)
  (pss_cons (ps_if (pt_cmpR (op_eqD hu) (pv 2) pe_int (nomark _))
  (pss_one (ps_ret (pe_op op_addA (pe_op op_addA (pv 1) (pe_op op_pow pe_int pe_int)) (pe_cal X.A__law_take (cal__law_take X) hr (by rfl) passL (pa_cons (pv 0) (pa_cons pe_int pa_nil))))))
  pss_nil)
  (pss_cons (ps_if (pt_cmpR (op_eqD hu) (pv 2) pe_int (nomark _))
  (pss_one (ps_ret pe_str))
  pss_nil)
  (pss_cons (ps_if (pt_cmpR (op_eqD hu) (pv 2) pe_int (nomark _))
  (pss_one (ps_ret pe_bl))
  pss_nil)
  (pss_one (ps_ret (pe_op op_addA (pv 1) (pe_cal X.A__law_take (cal__law_take X) hr (by rfl) passL (pa_cons (pv 0) (pa_cons pe_int pa_nil))))))))))))), fun b many hp => ?_⟩
  dsimp only [CxB, L2.cxOf] at hp ⊢
  obtain ⟨hm1, hm6⟩ := hp
  have bi : ∀ i : Int, (i < 0 ∨ many ≤ i) → i.natAbs < 2 ^ 100 → noRole many (.int i) := fun i h hb => by
    refine ⟨rfl, rfl, rfl, ?_, (by have := log2_le hb; show _ + 3 ≤ 300; omega), (fun z e => nomatch e), ?_⟩
    · refine decide_eq_true ?_
      have := log2_le hb
      omega
    · show (decide (0 ≤ i) && decide (i ≤ many - 1)) = false
      by_cases h0 : 0 ≤ i
      · have : ¬ i ≤ many - 1 := by omega
        simp [this]
      · simp [h0]
  repeat' walk_at "lo"
  rename_i k h0 h1
  · exact ⟨rfl, _, rfl, ⟨rfl, by decide +kernel, rfl, by decide +kernel, by decide +kernel, (fun z e => nomatch e), rfl⟩⟩
  · exact ⟨rfl, _, rfl, ⟨rfl, by decide +kernel, rfl, by decide +kernel, by decide +kernel, (fun z e => nomatch e), rfl⟩⟩
  · exact ⟨rfl, _, rfl, (bi _ (.inl (by omega)) (by omega))⟩
  · have e : (10 : Int) ^ Int.toNat 21 = 1000000000000000000000 := by decide +kernel
    exact ⟨rfl, _, rfl, (bi _ (.inr (by omega)) (by omega))⟩
  · exact ⟨rfl, _, rfl, ⟨rfl, by decide +kernel, rfl, by decide +kernel, by decide +kernel, (fun z e => by cases e; decide +kernel), rfl⟩⟩
  · exact ⟨rfl, _, rfl, ⟨rfl, by decide +kernel, rfl, by decide +kernel, by decide +kernel, (fun z e => nomatch e), rfl⟩⟩
  · exact ⟨rfl, _, rfl, (bi _ (.inr (by omega)) (by omega))⟩
theorem cal__law_no_role (X : Txt P K mg a) : Cal P w K mg base 3 a.f__law_no_role ["_law_hand_here", "_law_many"] (SpH (TT K a) F__law_no_role) [] := by
  obtain ⟨fd, F⟩ := X.F__law_no_role
  exact ⟨fd, [], ok__law_no_role X F, .nil, F.bindsN fun _ _ _ _ _ _ us hl => match us, hl with | [_, _], _ => rfl⟩
end
end L3
end
section
set_option Elab.async false
set_option linter.all false
set_option maxRecDepth 100000
set_option maxHeartbeats 1000000
namespace L3
open PySem PySem.Spec PyProof.Rows L2 PySem.W PySem.Calls Lo
local macro_rules | `(tactic| walk_at "sd") => `(tactic| first | exact .d | rfl | assumption | (with_reducible decide) | omega | exact .nil | exact AllD.nil)
local macro_rules | `(tactic| walk_at "we") => `(tactic| first
  | ((with_reducible refine' we_var ?hv ?_); (case hv => rfl))
  | (with_reducible refine we_int ?_)
  | (with_reducible refine we_op ?_)
  | (with_reducible refine we_str ?_)
  | (with_reducible refine we_isi ?_)
  | (with_reducible refine we_isi2 ?_)
  | (with_reducible refine we_cb ?_)
  | (with_reducible refine we_andV ?_)
  | (with_reducible refine we_orV ?_)
  | (with_reducible refine we_notV ?_)
  | (with_reducible refine we_non ?_)
  | (with_reducible refine we_bl ?_)
  | (with_reducible refine we_if ?_)
  | (with_reducible refine we_un ?_)
  | (with_reducible refine we_cal0 ?_)
  | (with_reducible refine we_cal2 ?_)
  | (with_reducible refine we_calH ?_)
  | (with_reducible refine we_prp ?_)
  | (with_reducible refine we_tup ?_)
  | (with_reducible refine we_chain ?_))
local macro_rules | `(tactic| walk_at "ws") => `(tactic| first
  | (with_reducible refine ws_seq ?_)
  | (with_reducible refine ws_if ?_)
  | (with_reducible refine ws_set ?_)
  | (with_reducible refine ws_ret ?_)
  | (with_reducible refine ws_next ?_)
  | (with_reducible refine ws_drop ?_)
  | (with_reducible refine ws_retN ?_))
local macro_rules | `(tactic| walk_at "wt") => `(tactic| first
  | (with_reducible refine wt_test ?_)
  | (with_reducible refine wt_B ?_)
  | (with_reducible refine wt_and ?_)
  | (with_reducible refine wt_or ?_)
  | (with_reducible refine wt_not ?_))
local macro_rules | `(tactic| walk_at "wr") => `(tactic| first
  | (with_reducible refine wr_addI ?_)
  | (with_reducible refine wr_leI ?_)
  | (with_reducible refine wr_B0 ?_)
  | (with_reducible refine wr_I0 ?_)
  | (with_reducible refine wr_isN ?_)
  | (with_reducible refine wr_notN ?_)
  | (with_reducible refine wr_leS ?_)
  | ((with_reducible refine' wr_ixL ?hv ?_); (case hv => rfl))
  | ((with_reducible refine' wr_ixT ?hv ?_); (case hv => rfl))
  | ((with_reducible refine' wr_ixO ?hv ?hw ?_); (case hv => rfl); (case hw => rfl))
  | ((with_reducible refine' wr_eqD ?h1 ?h2 ?h3 ?h4 ?_); (case h1 => exact .d); (case h2 => exact .d); (case h3 => rfl); (case h4 => rfl))
  | ((with_reducible refine' wr_neD ?h1 ?h2 ?h3 ?h4 ?_); (case h1 => exact .d); (case h2 => exact .d); (case h3 => rfl); (case h4 => rfl)))
local macro_rules | `(tactic| walk_at "da") => `(tactic| first
  | (with_reducible refine ⟨_, rfl, ?_⟩)
  | (with_reducible refine ⟨fun _ => ?_, fun h => Bool.noConfusion h⟩)
  | (with_reducible refine ⟨fun h => Bool.noConfusion h, fun _ => ?_⟩)
  | (with_reducible refine ⟨_, rfl, ?_, ?_⟩)
  | ((with_reducible refine' ⟨_, _, .d, ?h1, ?h2, ?_⟩); (case h1 => walk_at "sd"); (case h2 => rfl))
  | ((with_reducible refine' ⟨_, _, _, .d, ?h1, ?h2, ?h3, ?_⟩); (case h1 => walk_at "sd"); (case h2 => rfl); (case h3 => rfl))
  | (with_reducible refine ⟨fun hk => ?_, fun hk => ?_⟩)
  | (show ∃ d, SV.d _ = SV.d d ∧ _; with_reducible refine ⟨_, rfl, ?_⟩))
local macro_rules | `(tactic| walk_at "lo") => `(tactic| first
  | ((with_reducible show Lo.WE _ _ _ _ _ _); walk_at "we")
  | ((with_reducible show Lo.WA _ _ _ _ _ _); first | (with_reducible refine wa_cons ?_) | (with_reducible refine wa_nil ?_))
  | ((with_reducible show Lo.WS _ _ _ _ _ _); walk_at "ws")
  | ((with_reducible show Lo.WT _ _ _ _ _ _); walk_at "wt")
  | ((with_reducible show Lo.WR _ _ _ _ _ _ _); walk_at "wr")
  | ((with_reducible show Lo.WU _ _ _ _ _ _); (with_reducible refine wu_neg ?_))
  | ((with_reducible show Lo.WC _ _ _ _ _ _); first | ((with_reducible refine' wc_len ?hv ?_); (case hv => rfl)) | (with_reducible refine wc_int ?_))
  | walk_at "da")
local macro_rules | `(tactic| walk_at "wq") => `(tactic| first
  | (with_reducible refine ws_seq (t := tAsg _ _) ?_)
  | (with_reducible refine ws_seq (t := tDrop _) ?_)
  | (with_reducible refine ws_set ?_)
  | (with_reducible refine ws_ret ?_)
  | (with_reducible refine ws_next ?_)
  | (with_reducible refine ws_drop ?_)
  | (with_reducible refine ws_retN ?_))
local macro_rules | `(tactic| walk_at "lq") => `(tactic| first
  | ((with_reducible show Lo.WE _ _ _ _ _ _); walk_at "we")
  | ((with_reducible show Lo.WA _ _ _ _ _ _); first | (with_reducible refine wa_cons ?_) | (with_reducible refine wa_nil ?_))
  | ((with_reducible show Lo.WS _ _ _ _ _ _); walk_at "wq")
  | ((with_reducible show Lo.WT _ _ _ _ _ _); walk_at "wt")
  | ((with_reducible show Lo.WR _ _ _ _ _ _ _); walk_at "wr")
  | ((with_reducible show Lo.WU _ _ _ _ _ _); (with_reducible refine wu_neg ?_))
  | ((with_reducible show Lo.WC _ _ _ _ _ _); first | ((with_reducible refine' wc_len ?hv ?_); (case hv => rfl)) | (with_reducible refine wc_int ?_))
  | walk_at "da")
local macro_rules | `(tactic| walk_at "ws") => `(tactic| (with_reducible refine ws_sub ?_))
local macro_rules | `(tactic| walk_at "wq") => `(tactic| (with_reducible refine ws_sub ?_))
local macro_rules | `(tactic| walk_at "da") => `(tactic| ((with_reducible show ∃ (i : Int) (j : Nat) (ss : List SV), SV.d (D.int _) = SV.d (D.int i) ∧ _); refine ⟨_, _, _, rfl, (rfl : _ = some (OW.lst _)), rfl, ?_⟩))
local macro_rules | `(tactic| walk_at "da") => `(tactic| ((with_reducible show ∃ (k : Nat) (ss : List SV), SV.p _ = SV.p k ∧ _); refine ⟨_, _, rfl, (rfl : _ = some (OW.lst _)), ?_⟩))
local macro_rules | `(tactic| walk_at "we") => `(tactic| (with_reducible refine we_bm ?_))
local macro_rules | `(tactic| walk_at "lo") => `(tactic| ((with_reducible show Lo.WC _ _ (Lo.rLen _) _ [SV.p _] _); refine wc_lenO (rfl : _ = some (OW.lst _)) ?_))
local macro_rules | `(tactic| walk_at "lq") => `(tactic| ((with_reducible show Lo.WC _ _ (Lo.rLen _) _ [SV.p _] _); refine wc_lenO (rfl : _ = some (OW.lst _)) ?_))
local macro_rules | `(tactic| walk_at "da") => `(tactic| ((with_reducible show ∃ (k : Nat) (sr : List SV) (xs : List D), [SV.p _] = SV.p k :: sr ∧ _); refine ⟨_, _, _, rfl, (rfl : _ = some OW.hand), .nil, ?_⟩))
local macro_rules | `(tactic| walk_at "da") => `(tactic| ((with_reducible show ∃ (k : Nat) (sr : List SV) (xs : List D), [SV.p _, SV.d _] = SV.p k :: sr ∧ _); refine ⟨_, _, _, rfl, (rfl : _ = some OW.hand), .cons .nil, ?_⟩))
local macro_rules | `(tactic| walk_at "da") => `(tactic| ((with_reducible show ∃ (k : Nat) (sr : List SV) (xs : List D), [SV.p _, SV.d _, SV.d _] = SV.p k :: sr ∧ _); refine ⟨_, _, _, rfl, (rfl : _ = some OW.hand), .cons (.cons .nil), ?_⟩))
local macro_rules | `(tactic| walk_at "da") => `(tactic| ((with_reducible show ∃ (xs : List D), AllD [] xs ∧ _); refine ⟨_, .nil, ?_⟩))
local macro_rules | `(tactic| walk_at "da") => `(tactic| ((with_reducible show ∃ (xs : List D), AllD [SV.d _] xs ∧ _); refine ⟨_, .cons .nil, ?_⟩))
local macro_rules | `(tactic| walk_at "da") => `(tactic| ((with_reducible show ∃ (xs : List D), AllD [SV.d _, SV.d _] xs ∧ _); refine ⟨_, .cons (.cons .nil), ?_⟩))
local macro_rules | `(tactic| walk_at "da") => `(tactic| ((with_reducible show ∃ (xs : List D), AllD [SV.d _, SV.d _, SV.d _] xs ∧ _); refine ⟨_, .cons (.cons (.cons .nil)), ?_⟩))
local macro_rules | `(tactic| walk_at "da") => `(tactic| ((with_reducible show ∃ (xs : List D), AllD [SV.d _, SV.d _, SV.d _, SV.d _] xs ∧ _); refine ⟨_, .cons (.cons (.cons (.cons .nil))), ?_⟩))
local macro_rules | `(tactic| walk_at "lo") => `(tactic| ((with_reducible show Lo.WO _ _ _ _ _ _); first | (with_reducible refine wo_none ?_) | (with_reducible refine wo_some ?_)))
local macro_rules | `(tactic| walk_at "lq") => `(tactic| ((with_reducible show Lo.WO _ _ _ _ _ _); first | (with_reducible refine wo_none ?_) | (with_reducible refine wo_some ?_)))
local macro_rules | `(tactic| walk_at "da") => `(tactic| first | ((with_reducible refine' takeG ?h ?_); (case h => (constructor <;> omega)); (intro k h0 h1)) | fail "no")
local macro_rules | `(tactic| walk_at "wr") => `(tactic| first | ((with_reducible refine' wr_pow ?h ?_); (case h => exact ⟨by decide, by decide, by decide⟩)) | fail "no")
local macro_rules | `(tactic| walk_at "we") => `(tactic| first | (with_reducible refine we_dnew ?_) | (with_reducible refine we_setd ?_) | (with_reducible refine we_dget ?_) | (with_reducible refine we_dget2 ?_) | (with_reducible refine we_sadd ?_) | fail "no")
local macro_rules | `(tactic| walk_at "lo") => `(tactic| ((with_reducible show Lo.WC _ _ (rSet0 _) _ _ _); refine wc_set0 ?_))
local macro_rules | `(tactic| walk_at "da") => `(tactic| ((with_reducible show ∃ (ks : List L2.Key) (vs : List D), SV.d (D.dct _ _) = SV.d (D.dct ks vs) ∧ _); refine ⟨_, _, rfl, ?_⟩))
local macro_rules | `(tactic| walk_at "da") => `(tactic| ((with_reducible show ∃ (dy : D) (key : L2.Key), SV.d (D.int _) = SV.d dy ∧ _); refine ⟨_, _, rfl, rfl, ?_⟩))
local macro_rules | `(tactic| walk_at "we") => `(tactic| first | (with_reducible refine we_bm0 ?_) | fail "no")
local macro_rules | `(tactic| walk_at "wr") => `(tactic| first | ((with_reducible show WR _ _ (rSNotIn _) _ _ _ _); refine wr_snotin (rfl : _ = some (oSet _ _ _)) ?_) | fail "no")
local macro_rules | `(tactic| walk_at "da") => `(tactic| ((with_reducible show ∃ (k : Nat) (S : Int → Bool) (n : Nat), SV.p _ = SV.p k ∧ _); refine ⟨_, _, _, rfl, (rfl : _ = some (oSet _ _ _)), ?_⟩))

local macro_rules | `(tactic| walk_at "lo") => `(tactic| ((with_reducible show List.length _ ≤ 100000 ∧ _); first | (refine ⟨Nat.le_of_ble_eq_true rfl, ?_⟩) | fail "no"))
local macro_rules | `(tactic| walk_at "lq") => `(tactic| ((with_reducible show List.length _ ≤ 100000 ∧ _); first | (refine ⟨Nat.le_of_ble_eq_true rfl, ?_⟩) | fail "no"))
local macro_rules | `(tactic| walk_at "lo") => `(tactic| ((with_reducible show ∃ (xs : List D), AllD [SV.d _, SV.d _, SV.d _, SV.d _, SV.d _] xs ∧ _); refine ⟨_, .cons (.cons (.cons (.cons (.cons .nil)))), ?_⟩))
local macro_rules | `(tactic| walk_at "lq") => `(tactic| ((with_reducible show ∃ (xs : List D), AllD [SV.d _, SV.d _, SV.d _, SV.d _, SV.d _] xs ∧ _); refine ⟨_, .cons (.cons (.cons (.cons (.cons .nil)))), ?_⟩))
local macro_rules | `(tactic| walk_at "lo") => `(tactic| ((with_reducible show ∃ (xs : List D), AllD [SV.d _, SV.d _, SV.d _, SV.d _, SV.d _, SV.d _] xs ∧ _); refine ⟨_, .cons (.cons (.cons (.cons (.cons (.cons .nil))))), ?_⟩))
local macro_rules | `(tactic| walk_at "lq") => `(tactic| ((with_reducible show ∃ (xs : List D), AllD [SV.d _, SV.d _, SV.d _, SV.d _, SV.d _, SV.d _] xs ∧ _); refine ⟨_, .cons (.cons (.cons (.cons (.cons (.cons .nil))))), ?_⟩))
local macro_rules | `(tactic| walk_at "lo") => `(tactic| ((with_reducible show ∃ (xs : List D), AllD [SV.d _, SV.d _, SV.d _, SV.d _, SV.d _, SV.d _, SV.d _] xs ∧ _); refine ⟨_, .cons (.cons (.cons (.cons (.cons (.cons (.cons .nil)))))), ?_⟩))
local macro_rules | `(tactic| walk_at "lq") => `(tactic| ((with_reducible show ∃ (xs : List D), AllD [SV.d _, SV.d _, SV.d _, SV.d _, SV.d _, SV.d _, SV.d _] xs ∧ _); refine ⟨_, .cons (.cons (.cons (.cons (.cons (.cons (.cons .nil)))))), ?_⟩))
local macro_rules | `(tactic| walk_at "lo") => `(tactic| ((with_reducible show ∃ (xs : List D), AllD [SV.d _, SV.d _, SV.d _, SV.d _, SV.d _, SV.d _, SV.d _, SV.d _] xs ∧ _); refine ⟨_, .cons (.cons (.cons (.cons (.cons (.cons (.cons (.cons .nil))))))), ?_⟩))
local macro_rules | `(tactic| walk_at "lq") => `(tactic| ((with_reducible show ∃ (xs : List D), AllD [SV.d _, SV.d _, SV.d _, SV.d _, SV.d _, SV.d _, SV.d _, SV.d _] xs ∧ _); refine ⟨_, .cons (.cons (.cons (.cons (.cons (.cons (.cons (.cons .nil))))))), ?_⟩))
local macro_rules | `(tactic| walk_at "lo") => `(tactic| ((with_reducible show Lo.WE _ _ (tLst (tCons _ _)) _ _ _); refine we_lst ?_))
local macro_rules | `(tactic| walk_at "lq") => `(tactic| ((with_reducible show Lo.WE _ _ (tLst (tCons _ _)) _ _ _); refine we_lst ?_))
local macro_rules | `(tactic| walk_at "lo") => `(tactic| ((with_reducible show Lo.WE _ _ (tDisp [(tC (V.str _), tC (V.str _))]) _ _ _); refine we_disp1 (d := .str _) (fun _ => rfl) ?_))
local macro_rules | `(tactic| walk_at "lq") => `(tactic| ((with_reducible show Lo.WE _ _ (tDisp [(tC (V.str _), tC (V.str _))]) _ _ _); refine we_disp1 (d := .str _) (fun _ => rfl) ?_))
local macro_rules | `(tactic| walk_at "lo") => `(tactic| ((with_reducible show Lo.WE _ _ (tDisp [(tC (V.str _), tC (V.int _))]) _ _ _); refine we_disp1 (d := .int _) (fun _ => rfl) ?_))
local macro_rules | `(tactic| walk_at "lq") => `(tactic| ((with_reducible show Lo.WE _ _ (tDisp [(tC (V.str _), tC (V.int _))]) _ _ _); refine we_disp1 (d := .int _) (fun _ => rfl) ?_))
local macro_rules | `(tactic| walk_at "wr") => `(tactic| first | (with_reducible refine wr_notB ?_) | (with_reducible refine wr_isB ?_) | fail "no")
local macro_rules | `(tactic| walk_at "we") => `(tactic| first | (with_reducible refine we_calK ?_) | fail "no")
local macro_rules | `(tactic| walk_at "da") => `(tactic| ((with_reducible show ∃ (x : D), [SV.d _] = [SV.d x] ∧ _); refine ⟨_, rfl, ?_⟩))

section
variable {P : Program} {w : World} {K : Frag} {mg : Str → Option Value} {base : Heap} {a : Ad}
abbrev F__law_some : DF := Fv (ι := List Int × D × Nat) (fun i => [i.2.1, .int i.2.2]) (fun i => (i.2.1 = .lst (i.1.map .int) ∨ i.2.1 = .tup (i.1.map .int)) ∧ i.1.length ≤ 100000 ∧ i.2.2 ≤ i.1.length) (fun i d => ∃ qs ps : List Int, qs.Perm i.1 ∧ ps.Perm (qs.take i.2.2) ∧ ps.Pairwise (· ≤ ·) ∧ d = .tup (ps.map .int)) noErr
theorem ok__law_some {fd} (X : Txt P K mg a) (F : DefAt K "_law_some" "_law_some" s__law_some [] a.f__law_some fd) : FnOk P w K mg base (L2.CX P w) 4 a.f__law_some fd ["_law_hand_here", "_law_row", "_law_many"] (SpH (TT K a) F__law_some) := by
  refine okH (fun i => [some (.p 0), some (.d (i.2.1)), some (.d (.int i.2.2))]) F sc__law_some (fun _ => rfl) fun cdv A outer s H E hr => 
   have hu := hr.units
   ⟨_, 
   (pss_one (ps_ret (pe_callTy call_tupA (by rfl) X.n_tuple (by decide +kernel) (pa_cons (pe_callB cr_sortedI (by rfl) X.n_sorted (by decide +kernel) (pa_cons (pe_slice sl_any (pe_cal X.A__law_shuffled (cal__law_shuffled X) hr (by rfl) passL (pa_cons (pv 0) (pa_cons (pv 1) pa_nil))) po_none (po_some (pv 2))) pa_nil)) pa_nil)))), fun b ⟨ns, row, m⟩ hp => ?_⟩
  dsimp only [CxB, L2.cxOf] at hp ⊢
  obtain ⟨hx, hl, hm⟩ := hp
  repeat' walk_at "lo"
  refine we_sl ?_
  repeat' walk_at "lo"
  have hx2 : ∀ xs, (row = .lst xs ∨ row = .tup xs) → xs = ns.map D.int := fun xs h => by
    rcases hx with rfl | rfl <;> rcases h with h | h <;> cases h <;> rfl
  refine ⟨⟨ns.map .int, hx, by rw [List.length_map]; exact hl⟩, fun _ z => z, ?_⟩
  rintro d ⟨xs, ys, hxs, hpm, rfl⟩
  have := hx2 xs hxs
  subst this
  obtain ⟨qs, rfl, hqs⟩ := perm_map hpm
  repeat' walk_at "lo"
  refine .inl ⟨_, rfl, ?_⟩
  have e : Lo.cutD (qs.map D.int) none (some (m : Int)) = (qs.take m).map D.int := by
    unfold Lo.cutD
    rw [HT.sIx_none, HT.sIx_nat, List.length_map, List.drop_zero, Nat.sub_zero, List.map_take, Nat.min_eq_left (by rw [hqs.length_eq]; exact hm)]
  repeat' walk_at "lo"
  rw [e]
  refine wc_sorted fun ps hpe hpw => ?_
  repeat' walk_at "lo"
  refine wc_tup (.inl rfl) ?_
  exact ⟨rfl, _, rfl, qs, ps, hqs, hpe, hpw, rfl⟩
theorem cal__law_some (X : Txt P K mg a) : Cal P w K mg base 4 a.f__law_some ["_law_hand_here", "_law_row", "_law_many"] (SpH (TT K a) F__law_some) [] := by
  obtain ⟨fd, F⟩ := X.F__law_some
  exact ⟨fd, [], ok__law_some X F, .nil, F.bindsN fun _ _ _ _ _ _ us hl => match us, hl with | [_, _, _], _ => rfl⟩

abbrev F__law_word : DF := Fv (ι := Int) (fun i => [.int i]) (fun i => 0 < i ∧ i ≤ 1000) (fun i d => ∃ cs : List Nat, 1 ≤ cs.length ∧ cs.length ≤ i ∧ (∀ c ∈ cs, 97 ≤ c ∧ c ≤ 122) ∧ d = .str (SX.S cs)) noErr
theorem ok__law_word {fd} (X : Txt P K mg a) (F : DefAt K "_law_word" "_law_word" s__law_word [] a.f__law_word fd) : FnOk P w K mg base (L2.CX P w) 3 a.f__law_word fd ["_law_hand_here", "_law_longest"] (SpH (TT K a) F__law_word) := by
  refine okH (fun i => [some (.p 0), some (.d (.int i)), none]) F sc__law_word (fun _ => rfl) fun cdv A outer s H E hr => 
   have hu := hr.units
   ⟨_, 
   (pss_one (ps_ret (pe_joinA pe_str (pe_lc (own := [("_law_k", 2)]) (by rfl) sc__law_word.nd (pi_range1 rfl X.n_range (pa_cons (pe_op op_addA pe_int (pe_cal X.A__law_take (cal__law_take X) hr (by rfl) passL (pa_cons (pv 0) (pa_cons (pv 1) pa_nil)))) pa_nil)) (blkOk_by (own := [("_law_k", 2)]) (N := N__law_word) (sc := defScope s__law_word) (by decide +kernel)) (fun _ _ _ _ _ => (pg_name (i := 2) sc__law_word.nd rfl (Or.inl rfl))) (fun _ _ _ _ _ => pts_nil) (fun _ _ _ _ _ => (pe_ix (kIx K Lo.rIx rfl ix_any) pe_str (pe_cal X.A__law_take (cal__law_take X) hr (by rfl) passL (pa_cons (pv 0) (pa_cons pe_int pa_nil))) (fun _ _ => rfl))))))), fun b m hp => ?_⟩
  dsimp only [CxB, L2.cxOf] at hp ⊢
  obtain ⟨hm0, hm1⟩ := hp
  refine ws_ret (we_join ?_)
  repeat' walk_at "lo"
  refine we_lc (js := [2]) (by decide) (fun _ i acc => ∃ cs : List Nat, acc = cs.map (fun c => D.str ⟨#[c]⟩) ∧ cs.length = i ∧ ∀ c ∈ cs, 97 ≤ c ∧ c ≤ 122) (wi_rng1 ?_)
  repeat' walk_at "lo"
  rename_i k h0 h1
  refine ⟨by omega, by omega, Nat.le_refl _, OwP_hand OwP_nil, ⟨[], rfl, rfl, fun _ h => nomatch h⟩, by rw [rngD_len]; omega, ?_, ?_⟩
  · rintro i x acc hi ⟨cs, rfl, hlen, hc⟩ hacc
    refine wg_name (wt_yes ⟨fun _ => ?_, fun z => nomatch z⟩)
    repeat' walk_at "lo"
    rename_i k h0 h1
    refine wr_ixS (by decide +kernel) (c := 97 + k.toNat) (abc_at h0 h1) ?_
    refine ⟨_, rfl, rfl, cs ++ [97 + k.toNat], by simp, by simp [hlen], fun c hm => ?_⟩
    rcases List.mem_append.mp hm with hm | hm
    · exact hc c hm
    · rw [List.mem_singleton.mp hm]
      omega
  · rintro acc ⟨cs, rfl, hlen, hc⟩ hacc
    rw [rngD_len] at hlen
    have e1 : ((cs.map fun c => [c]).map SX.S).map D.str = cs.map (fun c => D.str ⟨#[c]⟩) := by
      rw [List.map_map, List.map_map]
      rfl
    have e2 : Txt.join "" ((cs.map fun c => [c]).map SX.S) = SX.S cs := by
      have h := SX.join_S [] (cs.map fun c => [c])
      rw [joinL_one] at h
      exact h
    have e3 : (((cs.map fun c => [c]).map SX.S).map (·.length)).sum = cs.length := by
      clear hlen hc hacc e1 e2
      induction cs with
      | nil => rfl
      | cons c r ih =>
        rw [List.map_cons, List.map_cons, List.map_cons, List.sum_cons, ih, List.length_cons]
        show 1 + r.length = _
        omega
    refine ⟨(cs.map fun c => [c]).map SX.S, .inl (by rw [e1]), ?_, rfl, _, rfl, cs, ?_, ?_, hc, by rw [e2]⟩
    · rw [e3, List.length_map, List.length_map]
      show cs.length + cs.length * 0 ≤ _
      omega
    · omega
    · omega
theorem cal__law_word (X : Txt P K mg a) : Cal P w K mg base 3 a.f__law_word ["_law_hand_here", "_law_longest"] (SpH (TT K a) F__law_word) [] := by
  obtain ⟨fd, F⟩ := X.F__law_word
  exact ⟨fd, [], ok__law_word X F, .nil, F.bindsN fun _ _ _ _ _ _ us hl => match us, hl with | [_, _], _ => rfl⟩
abbrev F__law_table : DF := Fv (ι := List Int × List (List Str)) (fun i => [.tup (i.1.map .int), .lst (i.2.map txD)]) (fun i => i.1.length ≤ 1000 ∧ 1 ≤ i.2.length ∧ i.2.length ≤ 1000) (fun i d => ∃ rows : List Rw, rows.map Rw.role = i.1 ∧ (∀ r ∈ rows, r.one ∈ i.2 ∧ r.many ∈ i.2) ∧ d = tbD rows) noErr
theorem ok__law_table {fd} (X : Txt P K mg a) (F : DefAt K "_law_table" "_law_table" s__law_table [] a.f__law_table fd) : FnOk P w K mg base (L2.CX P w) 3 a.f__law_table fd ["_law_hand_here", "_law_borne", "_law_pool_here"] (SpH (TT K a) F__law_table) := by
  refine okH (fun i => [some (.p 0), some (.d (.tup (i.1.map .int))), some (.d (.lst (i.2.map txD))), none]) F sc__law_table (fun _ => rfl) fun cdv A outer s H E hr => 
   have hu := hr.units
   ⟨_, 
   (pss_one (ps_ret (pe_callTy call_tupA (by rfl) X.n_tuple (by decide +kernel) (pa_cons (pe_lc (own := [("_law_role", 3)]) (by rfl) sc__law_table.nd (pi_seq (pv 1)) (blkOk_by (own := [("_law_role", 3)]) (N := N__law_table) (sc := defScope s__law_table) (by decide +kernel)) (fun _ _ _ _ _ => (pg_name (i := 3) sc__law_table.nd rfl (Or.inl rfl))) (fun _ _ _ _ _ => pts_nil) (fun _ _ _ _ _ => (pe_tup (pa_cons (pv 3) (pa_cons (pe_ix (kIx K Lo.rIx rfl ix_any) (pv 2) (pe_cal X.A__law_take (cal__law_take X) hr (by rfl) passL (pa_cons (pv 0) (pa_cons (pe_callB (kCa K Lo.rLen rfl call_lenA) (by rfl) X.n_len PySem.boot_len (pa_cons (pv 2) pa_nil)) pa_nil))) (fun _ _ => rfl)) (pa_cons (pe_ix (kIx K Lo.rIx rfl ix_any) (pv 2) (pe_cal X.A__law_take (cal__law_take X) hr (by rfl) passL (pa_cons (pv 0) (pa_cons (pe_callB (kCa K Lo.rLen rfl call_lenA) (by rfl) X.n_len PySem.boot_len (pa_cons (pv 2) pa_nil)) pa_nil))) (fun _ _ => rfl)) pa_nil)))))) pa_nil)))), fun b ⟨rs, es⟩ hp => ?_⟩
  dsimp only [CxB, L2.cxOf] at hp ⊢
  obtain ⟨hl, he0, he1⟩ := hp
  repeat' walk_at "lo"
  refine we_lc (js := [3]) (by decide) (fun _ i acc => ∃ rows : List Rw, acc = rows.map Rw.d ∧ rows.map Rw.role = rs.take i ∧ ∀ r ∈ rows, r.one ∈ es ∧ r.many ∈ es) (wi_seq ?_)
  repeat' walk_at "lo"
  refine ⟨_, .inr rfl, Nat.le_refl _, OwP_hand OwP_nil, ⟨[], rfl, rfl, fun _ h => nomatch h⟩, by rw [List.length_map]; omega, ?_, ?_⟩
  · rintro i x acc hi ⟨rows, rfl, hro, hin⟩ hacc
    rw [List.getElem?_map] at hi
    obtain ⟨n, hn, rfl⟩ := Option.map_eq_some_iff.mp hi
    have el : D.lenN (.lst (es.map txD)) = some es.length := by
      show some (es.map txD).length = _
      rw [List.length_map]
    refine wg_name (wt_yes ⟨fun _ => ?_, fun z => nomatch z⟩)
    have hle : (es.map txD).length = es.length := List.length_map ..
    have fin : ∀ k : Int, 0 ≤ k → k < ((es.map txD).length : Int) → ∃ e ∈ es, atI (es.map txD) k = some (txD e) := fun k h0 h1 => by
      obtain ⟨j, rfl⟩ : ∃ j : Nat, k = (j : Int) := ⟨k.toNat, by omega⟩
      have hj : j < es.length := by omega
      exact ⟨es[j], List.getElem_mem hj, atI_nat (by rw [List.getElem?_map, List.getElem?_eq_getElem hj]; rfl)⟩
    repeat' walk_at "lo"
    rename_i k h0 h1
    obtain ⟨e1, m1, a1⟩ := fin k h0 h1
    refine wr_ixL a1 ?_
    repeat' walk_at "lo"
    rename_i k2 h2 h3
    obtain ⟨e2, m2, a2⟩ := fin k2 h2 h3
    refine wr_ixL a2 ?_
    repeat' walk_at "lo"
    refine ⟨rfl, rows ++ [⟨n, e1, e2⟩], by simp [Rw.d], ?_, ?_⟩
    · rw [List.take_add_one, hn, List.map_append, hro]
      rfl
    · intro r hr
      rcases List.mem_append.mp hr with hr | hr
      · exact hin r hr
      · rw [List.mem_singleton.mp hr]
        exact ⟨m1, m2⟩
  · rintro acc ⟨rows, rfl, hro, hin⟩ hacc
    rw [List.length_map, List.take_length] at hro
    repeat' walk_at "lo"
    refine wc_tup (.inl rfl) ?_
    exact ⟨rfl, _, rfl, rows, hro, hin, rfl⟩
theorem cal__law_table (X : Txt P K mg a) : Cal P w K mg base 3 a.f__law_table ["_law_hand_here", "_law_borne", "_law_pool_here"] (SpH (TT K a) F__law_table) [] := by
  obtain ⟨fd, F⟩ := X.F__law_table
  exact ⟨fd, [], ok__law_table X F, .nil, F.bindsN fun _ _ _ _ _ _ us hl => match us, hl with | [_, _, _], _ => rfl⟩
end
end L3
end
section
set_option Elab.async false
set_option linter.all false
set_option maxRecDepth 100000
set_option maxHeartbeats 1000000
namespace L3
open PySem PySem.Spec PyProof.Rows L2 PySem.W PySem.Calls Lo
local macro_rules | `(tactic| walk_at "sd") => `(tactic| first | exact .d | rfl | assumption | (with_reducible decide) | omega | exact .nil | exact AllD.nil)
local macro_rules | `(tactic| walk_at "we") => `(tactic| first
  | ((with_reducible refine' we_var ?hv ?_); (case hv => rfl))
  | (with_reducible refine we_int ?_)
  | (with_reducible refine we_op ?_)
  | (with_reducible refine we_str ?_)
  | (with_reducible refine we_isi ?_)
  | (with_reducible refine we_isi2 ?_)
  | (with_reducible refine we_cb ?_)
  | (with_reducible refine we_andV ?_)
  | (with_reducible refine we_orV ?_)
  | (with_reducible refine we_notV ?_)
  | (with_reducible refine we_non ?_)
  | (with_reducible refine we_bl ?_)
  | (with_reducible refine we_if ?_)
  | (with_reducible refine we_un ?_)
  | (with_reducible refine we_cal0 ?_)
  | (with_reducible refine we_cal2 ?_)
  | (with_reducible refine we_calH ?_)
  | (with_reducible refine we_prp ?_)
  | (with_reducible refine we_tup ?_)
  | (with_reducible refine we_chain ?_))
local macro_rules | `(tactic| walk_at "ws") => `(tactic| first
  | (with_reducible refine ws_seq ?_)
  | (with_reducible refine ws_if ?_)
  | (with_reducible refine ws_set ?_)
  | (with_reducible refine ws_ret ?_)
  | (with_reducible refine ws_next ?_)
  | (with_reducible refine ws_drop ?_)
  | (with_reducible refine ws_retN ?_))
local macro_rules | `(tactic| walk_at "wt") => `(tactic| first
  | (with_reducible refine wt_test ?_)
  | (with_reducible refine wt_B ?_)
  | (with_reducible refine wt_and ?_)
  | (with_reducible refine wt_or ?_)
  | (with_reducible refine wt_not ?_))
local macro_rules | `(tactic| walk_at "wr") => `(tactic| first
  | (with_reducible refine wr_addI ?_)
  | (with_reducible refine wr_leI ?_)
  | (with_reducible refine wr_B0 ?_)
  | (with_reducible refine wr_I0 ?_)
  | (with_reducible refine wr_isN ?_)
  | (with_reducible refine wr_notN ?_)
  | (with_reducible refine wr_leS ?_)
  | ((with_reducible refine' wr_ixL ?hv ?_); (case hv => rfl))
  | ((with_reducible refine' wr_ixT ?hv ?_); (case hv => rfl))
  | ((with_reducible refine' wr_ixO ?hv ?hw ?_); (case hv => rfl); (case hw => rfl))
  | ((with_reducible refine' wr_eqD ?h1 ?h2 ?h3 ?h4 ?_); (case h1 => exact .d); (case h2 => exact .d); (case h3 => rfl); (case h4 => rfl))
  | ((with_reducible refine' wr_neD ?h1 ?h2 ?h3 ?h4 ?_); (case h1 => exact .d); (case h2 => exact .d); (case h3 => rfl); (case h4 => rfl)))
local macro_rules | `(tactic| walk_at "da") => `(tactic| first
  | (with_reducible refine ⟨_, rfl, ?_⟩)
  | (with_reducible refine ⟨fun _ => ?_, fun h => Bool.noConfusion h⟩)
  | (with_reducible refine ⟨fun h => Bool.noConfusion h, fun _ => ?_⟩)
  | (with_reducible refine ⟨_, rfl, ?_, ?_⟩)
  | ((with_reducible refine' ⟨_, _, .d, ?h1, ?h2, ?_⟩); (case h1 => walk_at "sd"); (case h2 => rfl))
  | ((with_reducible refine' ⟨_, _, _, .d, ?h1, ?h2, ?h3, ?_⟩); (case h1 => walk_at "sd"); (case h2 => rfl); (case h3 => rfl))
  | (with_reducible refine ⟨fun hk => ?_, fun hk => ?_⟩)
  | (show ∃ d, SV.d _ = SV.d d ∧ _; with_reducible refine ⟨_, rfl, ?_⟩))
local macro_rules | `(tactic| walk_at "lo") => `(tactic| first
  | ((with_reducible show Lo.WE _ _ _ _ _ _); walk_at "we")
  | ((with_reducible show Lo.WA _ _ _ _ _ _); first | (with_reducible refine wa_cons ?_) | (with_reducible refine wa_nil ?_))
  | ((with_reducible show Lo.WS _ _ _ _ _ _); walk_at "ws")
  | ((with_reducible show Lo.WT _ _ _ _ _ _); walk_at "wt")
  | ((with_reducible show Lo.WR _ _ _ _ _ _ _); walk_at "wr")
  | ((with_reducible show Lo.WU _ _ _ _ _ _); (with_reducible refine wu_neg ?_))
  | ((with_reducible show Lo.WC _ _ _ _ _ _); first | ((with_reducible refine' wc_len ?hv ?_); (case hv => rfl)) | (with_reducible refine wc_int ?_))
  | walk_at "da")
local macro_rules | `(tactic| walk_at "wq") => `(tactic| first
  | (with_reducible refine ws_seq (t := tAsg _ _) ?_)
  | (with_reducible refine ws_seq (t := tDrop _) ?_)
  | (with_reducible refine ws_set ?_)
  | (with_reducible refine ws_ret ?_)
  | (with_reducible refine ws_next ?_)
  | (with_reducible refine ws_drop ?_)
  | (with_reducible refine ws_retN ?_))
local macro_rules | `(tactic| walk_at "lq") => `(tactic| first
  | ((with_reducible show Lo.WE _ _ _ _ _ _); walk_at "we")
  | ((with_reducible show Lo.WA _ _ _ _ _ _); first | (with_reducible refine wa_cons ?_) | (with_reducible refine wa_nil ?_))
  | ((with_reducible show Lo.WS _ _ _ _ _ _); walk_at "wq")
  | ((with_reducible show Lo.WT _ _ _ _ _ _); walk_at "wt")
  | ((with_reducible show Lo.WR _ _ _ _ _ _ _); walk_at "wr")
  | ((with_reducible show Lo.WU _ _ _ _ _ _); (with_reducible refine wu_neg ?_))
  | ((with_reducible show Lo.WC _ _ _ _ _ _); first | ((with_reducible refine' wc_len ?hv ?_); (case hv => rfl)) | (with_reducible refine wc_int ?_))
  | walk_at "da")
local macro_rules | `(tactic| walk_at "ws") => `(tactic| (with_reducible refine ws_sub ?_))
local macro_rules | `(tactic| walk_at "wq") => `(tactic| (with_reducible refine ws_sub ?_))
local macro_rules | `(tactic| walk_at "da") => `(tactic| ((with_reducible show ∃ (i : Int) (j : Nat) (ss : List SV), SV.d (D.int _) = SV.d (D.int i) ∧ _); refine ⟨_, _, _, rfl, (rfl : _ = some (OW.lst _)), rfl, ?_⟩))
local macro_rules | `(tactic| walk_at "da") => `(tactic| ((with_reducible show ∃ (k : Nat) (ss : List SV), SV.p _ = SV.p k ∧ _); refine ⟨_, _, rfl, (rfl : _ = some (OW.lst _)), ?_⟩))
local macro_rules | `(tactic| walk_at "we") => `(tactic| (with_reducible refine we_bm ?_))
local macro_rules | `(tactic| walk_at "lo") => `(tactic| ((with_reducible show Lo.WC _ _ (Lo.rLen _) _ [SV.p _] _); refine wc_lenO (rfl : _ = some (OW.lst _)) ?_))
local macro_rules | `(tactic| walk_at "lq") => `(tactic| ((with_reducible show Lo.WC _ _ (Lo.rLen _) _ [SV.p _] _); refine wc_lenO (rfl : _ = some (OW.lst _)) ?_))
local macro_rules | `(tactic| walk_at "da") => `(tactic| ((with_reducible show ∃ (k : Nat) (sr : List SV) (xs : List D), [SV.p _] = SV.p k :: sr ∧ _); refine ⟨_, _, _, rfl, (rfl : _ = some OW.hand), .nil, ?_⟩))
local macro_rules | `(tactic| walk_at "da") => `(tactic| ((with_reducible show ∃ (k : Nat) (sr : List SV) (xs : List D), [SV.p _, SV.d _] = SV.p k :: sr ∧ _); refine ⟨_, _, _, rfl, (rfl : _ = some OW.hand), .cons .nil, ?_⟩))
local macro_rules | `(tactic| walk_at "da") => `(tactic| ((with_reducible show ∃ (k : Nat) (sr : List SV) (xs : List D), [SV.p _, SV.d _, SV.d _] = SV.p k :: sr ∧ _); refine ⟨_, _, _, rfl, (rfl : _ = some OW.hand), .cons (.cons .nil), ?_⟩))
local macro_rules | `(tactic| walk_at "da") => `(tactic| ((with_reducible show ∃ (xs : List D), AllD [] xs ∧ _); refine ⟨_, .nil, ?_⟩))
local macro_rules | `(tactic| walk_at "da") => `(tactic| ((with_reducible show ∃ (xs : List D), AllD [SV.d _] xs ∧ _); refine ⟨_, .cons .nil, ?_⟩))
local macro_rules | `(tactic| walk_at "da") => `(tactic| ((with_reducible show ∃ (xs : List D), AllD [SV.d _, SV.d _] xs ∧ _); refine ⟨_, .cons (.cons .nil), ?_⟩))
local macro_rules | `(tactic| walk_at "da") => `(tactic| ((with_reducible show ∃ (xs : List D), AllD [SV.d _, SV.d _, SV.d _] xs ∧ _); refine ⟨_, .cons (.cons (.cons .nil)), ?_⟩))
local macro_rules | `(tactic| walk_at "da") => `(tactic| ((with_reducible show ∃ (xs : List D), AllD [SV.d _, SV.d _, SV.d _, SV.d _] xs ∧ _); refine ⟨_, .cons (.cons (.cons (.cons .nil))), ?_⟩))
local macro_rules | `(tactic| walk_at "lo") => `(tactic| ((with_reducible show Lo.WO _ _ _ _ _ _); first | (with_reducible refine wo_none ?_) | (with_reducible refine wo_some ?_)))
local macro_rules | `(tactic| walk_at "lq") => `(tactic| ((with_reducible show Lo.WO _ _ _ _ _ _); first | (with_reducible refine wo_none ?_) | (with_reducible refine wo_some ?_)))
local macro_rules | `(tactic| walk_at "da") => `(tactic| first | ((with_reducible refine' takeG ?h ?_); (case h => (constructor <;> omega)); (intro k h0 h1)) | fail "no")
local macro_rules | `(tactic| walk_at "wr") => `(tactic| first | ((with_reducible refine' wr_pow ?h ?_); (case h => exact ⟨by decide, by decide, by decide⟩)) | fail "no")
local macro_rules | `(tactic| walk_at "we") => `(tactic| first | (with_reducible refine we_dnew ?_) | (with_reducible refine we_setd ?_) | (with_reducible refine we_dget ?_) | (with_reducible refine we_dget2 ?_) | (with_reducible refine we_sadd ?_) | fail "no")
local macro_rules | `(tactic| walk_at "lo") => `(tactic| ((with_reducible show Lo.WC _ _ (rSet0 _) _ _ _); refine wc_set0 ?_))
local macro_rules | `(tactic| walk_at "da") => `(tactic| ((with_reducible show ∃ (ks : List L2.Key) (vs : List D), SV.d (D.dct _ _) = SV.d (D.dct ks vs) ∧ _); refine ⟨_, _, rfl, ?_⟩))
local macro_rules | `(tactic| walk_at "da") => `(tactic| ((with_reducible show ∃ (dy : D) (key : L2.Key), SV.d (D.int _) = SV.d dy ∧ _); refine ⟨_, _, rfl, rfl, ?_⟩))
local macro_rules | `(tactic| walk_at "we") => `(tactic| first | (with_reducible refine we_bm0 ?_) | fail "no")
local macro_rules | `(tactic| walk_at "wr") => `(tactic| first | ((with_reducible show WR _ _ (rSNotIn _) _ _ _ _); refine wr_snotin (rfl : _ = some (oSet _ _ _)) ?_) | fail "no")
local macro_rules | `(tactic| walk_at "da") => `(tactic| ((with_reducible show ∃ (k : Nat) (S : Int → Bool) (n : Nat), SV.p _ = SV.p k ∧ _); refine ⟨_, _, _, rfl, (rfl : _ = some (oSet _ _ _)), ?_⟩))

local macro_rules | `(tactic| walk_at "lo") => `(tactic| ((with_reducible show List.length _ ≤ 100000 ∧ _); first | (refine ⟨Nat.le_of_ble_eq_true rfl, ?_⟩) | fail "no"))
local macro_rules | `(tactic| walk_at "lq") => `(tactic| ((with_reducible show List.length _ ≤ 100000 ∧ _); first | (refine ⟨Nat.le_of_ble_eq_true rfl, ?_⟩) | fail "no"))
local macro_rules | `(tactic| walk_at "lo") => `(tactic| ((with_reducible show ∃ (xs : List D), AllD [SV.d _, SV.d _, SV.d _, SV.d _, SV.d _] xs ∧ _); refine ⟨_, .cons (.cons (.cons (.cons (.cons .nil)))), ?_⟩))
local macro_rules | `(tactic| walk_at "lq") => `(tactic| ((with_reducible show ∃ (xs : List D), AllD [SV.d _, SV.d _, SV.d _, SV.d _, SV.d _] xs ∧ _); refine ⟨_, .cons (.cons (.cons (.cons (.cons .nil)))), ?_⟩))
local macro_rules | `(tactic| walk_at "lo") => `(tactic| ((with_reducible show ∃ (xs : List D), AllD [SV.d _, SV.d _, SV.d _, SV.d _, SV.d _, SV.d _] xs ∧ _); refine ⟨_, .cons (.cons (.cons (.cons (.cons (.cons .nil))))), ?_⟩))
local macro_rules | `(tactic| walk_at "lq") => `(tactic| ((with_reducible show ∃ (xs : List D), AllD [SV.d _, SV.d _, SV.d _, SV.d _, SV.d _, SV.d _] xs ∧ _); refine ⟨_, .cons (.cons (.cons (.cons (.cons (.cons .nil))))), ?_⟩))
local macro_rules | `(tactic| walk_at "lo") => `(tactic| ((with_reducible show ∃ (xs : List D), AllD [SV.d _, SV.d _, SV.d _, SV.d _, SV.d _, SV.d _, SV.d _] xs ∧ _); refine ⟨_, .cons (.cons (.cons (.cons (.cons (.cons (.cons .nil)))))), ?_⟩))
local macro_rules | `(tactic| walk_at "lq") => `(tactic| ((with_reducible show ∃ (xs : List D), AllD [SV.d _, SV.d _, SV.d _, SV.d _, SV.d _, SV.d _, SV.d _] xs ∧ _); refine ⟨_, .cons (.cons (.cons (.cons (.cons (.cons (.cons .nil)))))), ?_⟩))
local macro_rules | `(tactic| walk_at "lo") => `(tactic| ((with_reducible show ∃ (xs : List D), AllD [SV.d _, SV.d _, SV.d _, SV.d _, SV.d _, SV.d _, SV.d _, SV.d _] xs ∧ _); refine ⟨_, .cons (.cons (.cons (.cons (.cons (.cons (.cons (.cons .nil))))))), ?_⟩))
local macro_rules | `(tactic| walk_at "lq") => `(tactic| ((with_reducible show ∃ (xs : List D), AllD [SV.d _, SV.d _, SV.d _, SV.d _, SV.d _, SV.d _, SV.d _, SV.d _] xs ∧ _); refine ⟨_, .cons (.cons (.cons (.cons (.cons (.cons (.cons (.cons .nil))))))), ?_⟩))
local macro_rules | `(tactic| walk_at "lo") => `(tactic| ((with_reducible show Lo.WE _ _ (tLst (tCons _ _)) _ _ _); refine we_lst ?_))
local macro_rules | `(tactic| walk_at "lq") => `(tactic| ((with_reducible show Lo.WE _ _ (tLst (tCons _ _)) _ _ _); refine we_lst ?_))
local macro_rules | `(tactic| walk_at "lo") => `(tactic| ((with_reducible show Lo.WE _ _ (tDisp [(tC (V.str _), tC (V.str _))]) _ _ _); refine we_disp1 (d := .str _) (fun _ => rfl) ?_))
local macro_rules | `(tactic| walk_at "lq") => `(tactic| ((with_reducible show Lo.WE _ _ (tDisp [(tC (V.str _), tC (V.str _))]) _ _ _); refine we_disp1 (d := .str _) (fun _ => rfl) ?_))
local macro_rules | `(tactic| walk_at "lo") => `(tactic| ((with_reducible show Lo.WE _ _ (tDisp [(tC (V.str _), tC (V.int _))]) _ _ _); refine we_disp1 (d := .int _) (fun _ => rfl) ?_))
local macro_rules | `(tactic| walk_at "lq") => `(tactic| ((with_reducible show Lo.WE _ _ (tDisp [(tC (V.str _), tC (V.int _))]) _ _ _); refine we_disp1 (d := .int _) (fun _ => rfl) ?_))
local macro_rules | `(tactic| walk_at "wr") => `(tactic| first | (with_reducible refine wr_notB ?_) | (with_reducible refine wr_isB ?_) | fail "no")
local macro_rules | `(tactic| walk_at "we") => `(tactic| first | (with_reducible refine we_calK ?_) | fail "no")
local macro_rules | `(tactic| walk_at "da") => `(tactic| ((with_reducible show ∃ (x : D), [SV.d _] = [SV.d x] ∧ _); refine ⟨_, rfl, ?_⟩))

def okRowB (d : D) : Bool := !d.isO && match items d with | some xs => decide (xs.length ≤ 1000) && xs.all (fun x => !x.isO && match x with | .str z => decide (z.length ≤ 1000) | _ => true) | none => true
theorem okRow_of {d : D} (h : okRowB d = true) : okRow d := by
  unfold okRowB at h
  rw [Bool.and_eq_true] at h
  refine ⟨by simpa using h.1, fun xs e => ?_⟩
  have h2 := h.2
  rw [e] at h2
  simp only [Bool.and_eq_true, decide_eq_true_eq, List.all_eq_true] at h2
  refine ⟨by omega, fun x m => ?_⟩
  have hx := h2.2 x m
  refine ⟨by simpa using hx.1, ?_⟩
  rintro z rfl
  have := hx.2
  simp only [decide_eq_true_eq] at this
  omega
theorem lett_one {c : Nat} (h0 : 97 ≤ c) (h1 : c ≤ 122) : lett (⟨#[c]⟩ : Str) = true := by
  show ([c].all fun c => decide (97 ≤ c) && decide (c ≤ 122)) = true
  simp [h0, h1]
theorem lett_app (x y : Str) : lett (x ++ y) = (lett x && lett y) := by
  show ((x.cps ++ y.cps).toList.all _) = _
  rw [Array.toList_append, List.all_append]
  rfl
theorem fmt_le1 {x y : Str} {n m k : Nat} (h1 : x.length ≤ n) (h2 : y.length ≤ m) (h : n + m ≤ k) : (x ++ y).length ≤ k := by
  show (x.cps ++ y.cps).size ≤ k
  rw [Array.size_append]
  exact Nat.le_trans (Nat.add_le_add h1 h2) h
/-- no ending -/
structure noEnd (d : D) : Prop where
  o : d.isO = false
  r : okRow d
  e : isEnding d = false
  l : Lay 1 d
  s : d.shw = true
  b : d.rc ≤ 300
def noEndB (d : D) : Bool := okRowB d && (!isEnding d && (d.pure && (d.py.canLay0 && (decide (d.py.depth ≤ 1) && (d.shw && decide (d.rc ≤ 300))))))
theorem noEnd_of {d : D} (h : noEndB d = true) : noEnd d := by
  unfold noEndB at h
  simp only [Bool.and_eq_true, decide_eq_true_eq] at h
  obtain ⟨h1, h2, h3, h4, h5, h6, h7⟩ := h
  exact ⟨(okRow_of h1).1, okRow_of h1, by simpa using h2, ⟨h3, h4, h5⟩, h6, h7⟩
theorem noEnd_b {k : Int} (h0 : 0 ≤ k) (h1 : k < 9) : noEnd (.tup [.str "a", .str (repS "b" (4 + k).toNat)]) := by
  obtain ⟨n, rfl⟩ := Int.eq_ofNat_of_zero_le h0
  have hn : n < 9 := by omega
  exact noEnd_of ((by decide +kernel : ∀ n : Fin 9, noEndB (.tup [.str "a", .str (repS "b" (4 + (n.val : Int)).toNat)]) = true) ⟨n, hn⟩)
section
variable {P : Program} {w : World} {K : Frag} {mg : Str → Option Value} {base : Heap} {a : Ad}
abbrev F__law_no_ending : DF := Fv (ι := Unit) (fun i => []) (fun i => True) (fun i d => noEnd d) noErr
theorem ok__law_no_ending {fd} (X : Txt P K mg a) (F : DefAt K "_law_no_ending" "_law_no_ending" s__law_no_ending [] a.f__law_no_ending fd) : FnOk P w K mg base (L2.CX P w) 3 a.f__law_no_ending fd ["_law_hand_here"] (SpH (TT K a) F__law_no_ending) := by
  refine okH (fun i => [some (.p 0), none]) F sc__law_no_ending (fun _ => rfl) fun cdv A outer s H E hr => 
   have hu := hr.units
   ⟨_, 
   (pss_cons (ps_set (i := 1) sc__law_no_ending.nd rfl (Or.inl rfl) (pe_cal X.A__law_take (cal__law_take X) hr (by rfl) passL (pa_cons (pv 0) (pa_cons pe_int pa_nil))))
  (pss_cons (ps_if (pt_cmpR (op_eqD hu) (pv 1) pe_int (nomark _))
  (pss_one (ps_ret pe_non))
  pss_nil)
  (pss_cons (ps_if (pt_cmpR (op_eqD hu) (pv 1) pe_int (nomark _))
  (pss_one (ps_ret (pe_tup pa_nil)))
  pss_nil)
  (pss_cons (ps_if (pt_cmpR (op_eqD hu) (pv 1) pe_int (nomark _))
  (pss_one (ps_ret (pe_tup (pa_cons pe_str (pa_cons pe_str (pa_cons pe_str (pa_cons pe_str (pa_cons pe_str pa_nil))))))))
  pss_nil)
  (pss_cons (ps_if (pt_cmpR (op_eqD hu) (pv 1) pe_int (nomark _))
  (pss_one (ps_ret (pe_tup (pa_cons pe_str (pa_cons (pe_op op_mulS pe_str (pe_op op_addA pe_int (pe_cal X.A__law_take (cal__law_take X) hr (by rfl) passL (pa_cons (pv 0) (pa_cons pe_int pa_nil))))) pa_nil)))))
  pss_nil)
  (pss_cons (ps_if (pt_cmpR (op_eqD hu) (pv 1) pe_int (nomark _))
  (pss_one (ps_ret pe_str))
  pss_nil)
  (pss_cons (ps_if (pt_cmpR (op_eqD hu) (pv 1) pe_int (nomark _))
  (pss_one (ps_ret (pe_tup (pa_cons pe_str (pa_cons pe_non pa_nil)))))
  pss_nil)
  (pss_cons (ps_if (pt_cmpR (op_eqD hu) (pv 1) pe_int (nomark _))
  (pss_one (ps_ret (pe_lst (pa_cons pe_str (pa_cons pe_str pa_nil)))))
  pss_nil)
  (pss_one (ps_ret (pe_tup (pa_cons pe_str (pa_cons pe_str pa_nil))))))))))))), fun b _ hp => ?_⟩
  dsimp only [CxB, L2.cxOf] at hp ⊢
  repeat' walk_at "lo"
  · exact ⟨rfl, _, rfl, noEnd_of (by decide +kernel)⟩
  · exact ⟨rfl, _, rfl, noEnd_of (by decide +kernel)⟩
  · exact ⟨rfl, _, rfl, noEnd_of (by decide +kernel)⟩
  · rename_i k h0 h1
    refine wr_mulS (by omega) (by omega) (by decide +kernel) (by decide +kernel) ?_
    repeat' walk_at "lo"
    exact ⟨rfl, _, rfl, noEnd_b h0 h1⟩
  · exact ⟨rfl, _, rfl, noEnd_of (by decide +kernel)⟩
  · exact ⟨rfl, _, rfl, noEnd_of (by decide +kernel)⟩
  · exact ⟨rfl, _, rfl, noEnd_of (by decide +kernel)⟩
  · exact ⟨rfl, _, rfl, noEnd_of (by decide +kernel)⟩
theorem cal__law_no_ending (X : Txt P K mg a) : Cal P w K mg base 3 a.f__law_no_ending ["_law_hand_here"] (SpH (TT K a) F__law_no_ending) [] := by
  obtain ⟨fd, F⟩ := X.F__law_no_ending
  exact ⟨fd, [], ok__law_no_ending X F, .nil, F.bindsN fun _ _ _ _ _ _ us hl => match us, hl with | [_], _ => rfl⟩
abbrev F__law_pool : DF := Fv (ι := Int) (fun i => [.int i]) (fun i => 0 ≤ i ∧ i ≤ 20) (fun i d => ∃ es : List (List Str), (es.length : Int) = i ∧ (∀ e ∈ es, okEn e) ∧ d = .lst (es.map txD)) noErr
theorem ok__law_pool {fd} (X : Txt P K mg a) (F : DefAt K "_law_pool" "_law_pool" s__law_pool [] a.f__law_pool fd) : FnOk P w K mg base (L2.CX P w) 4 a.f__law_pool fd ["_law_hand_here", "_law_count"] (SpH (TT K a) F__law_pool) := by
  refine okH (fun i => [some (.p 0), some (.d (.int i)), none, none, none, none]) F sc__law_pool (fun _ => rfl) fun cdv A outer s H E hr => 
   have hu := hr.units
   ⟨_, 
   (pss_cons (ps_set (i := 2) sc__law_pool.nd rfl (Or.inl rfl) (pe_cal X.A__law_shuffled (cal__law_shuffled X) hr (by rfl) passL (pa_cons (pv 0) (pa_cons (pe_callTy (call_listTx rfl) (by rfl) X.n_list (by decide +kernel) (pa_cons pe_str pa_nil)) pa_nil))))
  (pss_cons (ps_set (i := 3) sc__law_pool.nd rfl (Or.inl rfl) (pe_lst pa_nil))
  (pss_cons (ps_for (passes_of rfl) rfl (pi_range1 rfl X.n_range (pa_cons (pv 1) pa_nil)) (pg_name (i := 4) sc__law_pool.nd rfl (Or.inl rfl))
  (pss_cons (ps_set (i := 5) sc__law_pool.nd rfl (Or.inl rfl) (pe_cal X.A__law_take (cal__law_take X) hr (by rfl) passL (pa_cons (pv 0) (pa_cons pe_int pa_nil))))
  (pss_one (ps_if (pt_cmpR (op_eqD hu) (pv 5) pe_int (nomark _))
  (pss_one (ps_expr (pe_bm PySem.F.plainAttrs_list PySem.F.slot_list_append PySem.F.type_list_append mt_append (pv 3) (pa_cons (pe_tup (pa_cons (pe_ix ix_any (pv 2) (pv 4) (fun _ _ => rfl)) (pa_cons pe_str pa_nil))) pa_nil))))
  (pss_one (ps_if (pt_cmpR (op_eqD hu) (pv 5) pe_int (nomark _))
  (pss_one (ps_expr (pe_bm PySem.F.plainAttrs_list PySem.F.slot_list_append PySem.F.type_list_append mt_append (pv 3) (pa_cons (pe_tup (pa_cons pe_str (pa_cons (pe_ix ix_any (pv 2) (pv 4) (fun _ _ => rfl)) pa_nil))) pa_nil))))
  (pss_one (ps_if (pt_cmpR (op_eqD hu) (pv 5) pe_int (nomark _))
  (pss_one (ps_expr (pe_bm PySem.F.plainAttrs_list PySem.F.slot_list_append PySem.F.type_list_append mt_append (pv 3) (pa_cons (pe_tup (pa_cons (pe_op op_addA pe_str (pe_ix ix_any (pv 2) (pv 4) (fun _ _ => rfl))) pa_nil)) pa_nil))))
  (pss_one (ps_expr (pe_bm PySem.F.plainAttrs_list PySem.F.slot_list_append PySem.F.type_list_append mt_append (pv 3) (pa_cons (pe_tup (pa_cons (pe_ix ix_any (pv 2) (pv 4) (fun _ _ => rfl)) pa_nil)) pa_nil))))))))))))
  (pss_one (ps_ret (pv 3)))))), fun b m hp => ?_⟩
  dsimp only [CxB, L2.cxOf] at hp ⊢
  obtain ⟨hm0, hm1⟩ := hp
  repeat' walk_at "lo"
  refine wc_listTx (by decide +kernel) ?_
  repeat' walk_at "lo"
  refine ⟨⟨_, .inl rfl, by decide +kernel⟩, fun _ z => z, ?_⟩
  rintro d ⟨xs, ys, hxs, hpm, rfl⟩
  have hxs : xs = signsD "abcdefghijklmnopqrst" := by
    rcases hxs with h | h
    · exact (D.lst.inj h).symm
    · cases h
  subst hxs
  have abct : signsD "abcdefghijklmnopqrst" = (List.range 20).map fun i => D.str ⟨#[97 + i]⟩ := by
    have e : ("abcdefghijklmnopqrst" : Str).cps.toList = (List.range 20).map (97 + ·) := by decide +kernel
    unfold signsD
    rw [e, List.map_map]
    rfl
  have hyl : ys.length = 20 := by
    rw [hpm.length_eq, abct, List.length_map, List.length_range]
  have hys : ∀ y ∈ ys, ∃ c, y = .str ⟨#[c]⟩ ∧ 97 ≤ c ∧ c ≤ 122 := fun y hy => by
    have := hpm.subset hy
    rw [abct] at this
    obtain ⟨i, hi, rfl⟩ := List.mem_map.mp this
    have := List.mem_range.mp hi
    exact ⟨97 + i, rfl, by omega, by omega⟩
  refine ws_seq (ws_set (we_lstO (wa_nil ⟨Nat.zero_le _, ?_⟩)))
  refine ws_seq (ws_for (js := [4]) (fun its i o s => ∃ es : List (List Str), o = [.hand, .lst ((es.map txD).map SV.d)] ∧ s = [some (.p 0), some (.d (.int m)), some (.d (.lst ys)), some (.p 1), none, none] ∧ es.length = i ∧ ∀ e ∈ es, okEn e) (wi_rng1 ?_))
  repeat' walk_at "lo"
  have hlen : (rngD 0 m.toNat).length ≤ 20 := by
    rw [rngD_len]
    omega
  refine ⟨by omega, by omega, Nat.le_refl _, ⟨[], rfl, rfl, rfl, fun _ h => nomatch h⟩, ?_, ?_⟩
  · rintro i x o s hi ⟨es, rfl, rfl, hl, hc⟩
    have hi2 : i < (rngD 0 m.toNat).length := (List.getElem?_eq_some_iff.mp hi).1
    have hx : x = .int (i : Int) := by
      rw [(rngD_get hi).2, Int.zero_add]
    subst hx
    refine ⟨OwP_hand (OwP_lst OwP_nil), Nat.le_refl _, wg_name ?_⟩
    have fin : ∀ (e : List Str) (k : Int), okEn e → ∃ o4 s4, Fg ([.hand, .lst ((es.map txD).map SV.d ++ [.d (txD e)])] : List OW) [some (.p 0), some (.d (.int m)), some (.d (.lst ys)), some (.p 1), some (.d (.int (i : Int))), some (.d (.int k))] o4 s4 ∧ OwP o4.length o4 ∧ 2 ≤ o4.length ∧
        ∃ es : List (List Str), o4 = [.hand, .lst ((es.map txD).map SV.d)] ∧ s4 = [some (.p 0), some (.d (.int m)), some (.d (.lst ys)), some (.p 1), none, none] ∧ es.length = i + 1 ∧ ∀ e ∈ es, okEn e := fun e k he => by
      have e2 : (es.map txD).map SV.d ++ [SV.d (txD e)] = ((es ++ [e]).map txD).map SV.d := by simp
      rw [e2]
      refine ⟨_, _, ⟨List.prefix_refl _, .keepp (by show 0 < 2; decide) (.keepd (.keepd (.keepp (by show 1 < 2; decide) (.drop (.drop .nil)))))⟩, OwP_hand (OwP_lst OwP_nil), Nat.le_refl _, es ++ [e], rfl, rfl, by simp [hl], fun x hx => ?_⟩
      rcases List.mem_append.mp hx with hx | hx
      · exact hc x hx
      · rw [List.mem_singleton.mp hx]
        exact he
    have hz : ((es.map txD).map SV.d).length < 100000 := by
      rw [List.length_map, List.length_map]
      omega
    obtain ⟨y, hy⟩ : ∃ y, ys[i]? = some y := ⟨_, List.getElem?_eq_getElem (by omega)⟩
    obtain ⟨c, rfl, c0, c1⟩ := hys y (List.mem_of_getElem? hy)
    have hat : atI ys (i : Int) = some (.str ⟨#[c]⟩) := atI_nat hy
    have one : (⟨#[c]⟩ : Str).length ≤ 3 ∧ lett (⟨#[c]⟩ : Str) = true := ⟨by show 1 ≤ 3; decide, lett_one c0 c1⟩
    repeat' walk_at "lo"
    · refine wr_ixL hat ?_
      repeat' walk_at "lo"
      refine wm_append rfl hz ?_
      refine fin [⟨#[c]⟩, "s"] _ ⟨Nat.le_of_ble_eq_true rfl, Nat.le_of_ble_eq_true rfl, fun z hz => ?_⟩
      simp only [List.mem_cons, List.not_mem_nil, or_false] at hz
      rcases hz with rfl | rfl
      · exact one
      · exact ⟨by decide +kernel, by decide +kernel⟩
    · refine wr_ixL hat ?_
      repeat' walk_at "lo"
      refine wm_append rfl hz ?_
      refine fin ["", ⟨#[c]⟩] _ ⟨Nat.le_of_ble_eq_true rfl, Nat.le_of_ble_eq_true rfl, fun z hz => ?_⟩
      simp only [List.mem_cons, List.not_mem_nil, or_false] at hz
      rcases hz with rfl | rfl
      · exact ⟨by decide +kernel, by decide +kernel⟩
      · exact one
    · refine wr_ixL hat ?_
      refine wr_addS (by show _ + 1 ≤ 100000; decide +kernel) ?_
      repeat' walk_at "lo"
      refine wm_append rfl hz ?_
      refine fin [("e" : Str) ++ ⟨#[c]⟩] _ ⟨Nat.le_of_ble_eq_true rfl, Nat.le_of_ble_eq_true rfl, fun z hz => ?_⟩
      rw [List.mem_singleton.mp hz]
      refine ⟨fmt_le1 (n := 1) (m := 1) (by decide +kernel) (by show 1 ≤ 1; decide) (by decide), ?_⟩
      rw [lett_app, one.2]
      decide +kernel
    · refine wr_ixL hat ?_
      repeat' walk_at "lo"
      refine wm_append rfl hz ?_
      refine fin [⟨#[c]⟩] _ ⟨Nat.le_of_ble_eq_true rfl, Nat.le_of_ble_eq_true rfl, fun z hz => ?_⟩
      rw [List.mem_singleton.mp hz]
      exact one
  · rintro o s ⟨es, rfl, rfl, hl, hc⟩
    refine ws_frzL (k := 1) rfl ?_
    repeat' walk_at "lo"
    rw [rngD_len] at hl
    exact ⟨rfl, _, rfl, es, by omega, hc, rfl⟩
theorem cal__law_pool (X : Txt P K mg a) : Cal P w K mg base 4 a.f__law_pool ["_law_hand_here", "_law_count"] (SpH (TT K a) F__law_pool) [] := by
  obtain ⟨fd, F⟩ := X.F__law_pool
  exact ⟨fd, [], ok__law_pool X F, .nil, F.bindsN fun _ _ _ _ _ _ us hl => match us, hl with | [_, _], _ => rfl⟩
end
end L3
end
section
set_option Elab.async false
set_option linter.all false
set_option maxRecDepth 100000
set_option maxHeartbeats 1000000
namespace L3
open PySem PySem.Spec PyProof.Rows L2 PySem.W PySem.Calls Lo
local macro_rules | `(tactic| walk_at "sd") => `(tactic| first | exact .d | rfl | assumption | (with_reducible decide) | omega | exact .nil | exact AllD.nil)
local macro_rules | `(tactic| walk_at "we") => `(tactic| first
  | ((with_reducible refine' we_var ?hv ?_); (case hv => rfl))
  | (with_reducible refine we_int ?_)
  | (with_reducible refine we_op ?_)
  | (with_reducible refine we_str ?_)
  | (with_reducible refine we_isi ?_)
  | (with_reducible refine we_isi2 ?_)
  | (with_reducible refine we_cb ?_)
  | (with_reducible refine we_andV ?_)
  | (with_reducible refine we_orV ?_)
  | (with_reducible refine we_notV ?_)
  | (with_reducible refine we_non ?_)
  | (with_reducible refine we_bl ?_)
  | (with_reducible refine we_if ?_)
  | (with_reducible refine we_un ?_)
  | (with_reducible refine we_cal0 ?_)
  | (with_reducible refine we_cal2 ?_)
  | (with_reducible refine we_calH ?_)
  | (with_reducible refine we_prp ?_)
  | (with_reducible refine we_tup ?_)
  | (with_reducible refine we_chain ?_))
local macro_rules | `(tactic| walk_at "ws") => `(tactic| first
  | (with_reducible refine ws_seq ?_)
  | (with_reducible refine ws_if ?_)
  | (with_reducible refine ws_set ?_)
  | (with_reducible refine ws_ret ?_)
  | (with_reducible refine ws_next ?_)
  | (with_reducible refine ws_drop ?_)
  | (with_reducible refine ws_retN ?_))
local macro_rules | `(tactic| walk_at "wt") => `(tactic| first
  | (with_reducible refine wt_test ?_)
  | (with_reducible refine wt_B ?_)
  | (with_reducible refine wt_and ?_)
  | (with_reducible refine wt_or ?_)
  | (with_reducible refine wt_not ?_))
local macro_rules | `(tactic| walk_at "wr") => `(tactic| first
  | (with_reducible refine wr_addI ?_)
  | (with_reducible refine wr_leI ?_)
  | (with_reducible refine wr_B0 ?_)
  | (with_reducible refine wr_I0 ?_)
  | (with_reducible refine wr_isN ?_)
  | (with_reducible refine wr_notN ?_)
  | (with_reducible refine wr_leS ?_)
  | ((with_reducible refine' wr_ixL ?hv ?_); (case hv => rfl))
  | ((with_reducible refine' wr_ixT ?hv ?_); (case hv => rfl))
  | ((with_reducible refine' wr_ixO ?hv ?hw ?_); (case hv => rfl); (case hw => rfl))
  | ((with_reducible refine' wr_eqD ?h1 ?h2 ?h3 ?h4 ?_); (case h1 => exact .d); (case h2 => exact .d); (case h3 => rfl); (case h4 => rfl))
  | ((with_reducible refine' wr_neD ?h1 ?h2 ?h3 ?h4 ?_); (case h1 => exact .d); (case h2 => exact .d); (case h3 => rfl); (case h4 => rfl)))
local macro_rules | `(tactic| walk_at "da") => `(tactic| first
  | (with_reducible refine ⟨_, rfl, ?_⟩)
  | (with_reducible refine ⟨fun _ => ?_, fun h => Bool.noConfusion h⟩)
  | (with_reducible refine ⟨fun h => Bool.noConfusion h, fun _ => ?_⟩)
  | (with_reducible refine ⟨_, rfl, ?_, ?_⟩)
  | ((with_reducible refine' ⟨_, _, .d, ?h1, ?h2, ?_⟩); (case h1 => walk_at "sd"); (case h2 => rfl))
  | ((with_reducible refine' ⟨_, _, _, .d, ?h1, ?h2, ?h3, ?_⟩); (case h1 => walk_at "sd"); (case h2 => rfl); (case h3 => rfl))
  | (with_reducible refine ⟨fun hk => ?_, fun hk => ?_⟩)
  | (show ∃ d, SV.d _ = SV.d d ∧ _; with_reducible refine ⟨_, rfl, ?_⟩))
local macro_rules | `(tactic| walk_at "lo") => `(tactic| first
  | ((with_reducible show Lo.WE _ _ _ _ _ _); walk_at "we")
  | ((with_reducible show Lo.WA _ _ _ _ _ _); first | (with_reducible refine wa_cons ?_) | (with_reducible refine wa_nil ?_))
  | ((with_reducible show Lo.WS _ _ _ _ _ _); walk_at "ws")
  | ((with_reducible show Lo.WT _ _ _ _ _ _); walk_at "wt")
  | ((with_reducible show Lo.WR _ _ _ _ _ _ _); walk_at "wr")
  | ((with_reducible show Lo.WU _ _ _ _ _ _); (with_reducible refine wu_neg ?_))
  | ((with_reducible show Lo.WC _ _ _ _ _ _); first | ((with_reducible refine' wc_len ?hv ?_); (case hv => rfl)) | (with_reducible refine wc_int ?_))
  | walk_at "da")
local macro_rules | `(tactic| walk_at "wq") => `(tactic| first
  | (with_reducible refine ws_seq (t := tAsg _ _) ?_)
  | (with_reducible refine ws_seq (t := tDrop _) ?_)
  | (with_reducible refine ws_set ?_)
  | (with_reducible refine ws_ret ?_)
  | (with_reducible refine ws_next ?_)
  | (with_reducible refine ws_drop ?_)
  | (with_reducible refine ws_retN ?_))
local macro_rules | `(tactic| walk_at "lq") => `(tactic| first
  | ((with_reducible show Lo.WE _ _ _ _ _ _); walk_at "we")
  | ((with_reducible show Lo.WA _ _ _ _ _ _); first | (with_reducible refine wa_cons ?_) | (with_reducible refine wa_nil ?_))
  | ((with_reducible show Lo.WS _ _ _ _ _ _); walk_at "wq")
  | ((with_reducible show Lo.WT _ _ _ _ _ _); walk_at "wt")
  | ((with_reducible show Lo.WR _ _ _ _ _ _ _); walk_at "wr")
  | ((with_reducible show Lo.WU _ _ _ _ _ _); (with_reducible refine wu_neg ?_))
  | ((with_reducible show Lo.WC _ _ _ _ _ _); first | ((with_reducible refine' wc_len ?hv ?_); (case hv => rfl)) | (with_reducible refine wc_int ?_))
  | walk_at "da")
local macro_rules | `(tactic| walk_at "ws") => `(tactic| (with_reducible refine ws_sub ?_))
local macro_rules | `(tactic| walk_at "wq") => `(tactic| (with_reducible refine ws_sub ?_))
local macro_rules | `(tactic| walk_at "da") => `(tactic| ((with_reducible show ∃ (i : Int) (j : Nat) (ss : List SV), SV.d (D.int _) = SV.d (D.int i) ∧ _); refine ⟨_, _, _, rfl, (rfl : _ = some (OW.lst _)), rfl, ?_⟩))
local macro_rules | `(tactic| walk_at "da") => `(tactic| ((with_reducible show ∃ (k : Nat) (ss : List SV), SV.p _ = SV.p k ∧ _); refine ⟨_, _, rfl, (rfl : _ = some (OW.lst _)), ?_⟩))
local macro_rules | `(tactic| walk_at "we") => `(tactic| (with_reducible refine we_bm ?_))
local macro_rules | `(tactic| walk_at "lo") => `(tactic| ((with_reducible show Lo.WC _ _ (Lo.rLen _) _ [SV.p _] _); refine wc_lenO (rfl : _ = some (OW.lst _)) ?_))
local macro_rules | `(tactic| walk_at "lq") => `(tactic| ((with_reducible show Lo.WC _ _ (Lo.rLen _) _ [SV.p _] _); refine wc_lenO (rfl : _ = some (OW.lst _)) ?_))
local macro_rules | `(tactic| walk_at "da") => `(tactic| ((with_reducible show ∃ (k : Nat) (sr : List SV) (xs : List D), [SV.p _] = SV.p k :: sr ∧ _); refine ⟨_, _, _, rfl, (rfl : _ = some OW.hand), .nil, ?_⟩))
local macro_rules | `(tactic| walk_at "da") => `(tactic| ((with_reducible show ∃ (k : Nat) (sr : List SV) (xs : List D), [SV.p _, SV.d _] = SV.p k :: sr ∧ _); refine ⟨_, _, _, rfl, (rfl : _ = some OW.hand), .cons .nil, ?_⟩))
local macro_rules | `(tactic| walk_at "da") => `(tactic| ((with_reducible show ∃ (k : Nat) (sr : List SV) (xs : List D), [SV.p _, SV.d _, SV.d _] = SV.p k :: sr ∧ _); refine ⟨_, _, _, rfl, (rfl : _ = some OW.hand), .cons (.cons .nil), ?_⟩))
local macro_rules | `(tactic| walk_at "da") => `(tactic| ((with_reducible show ∃ (xs : List D), AllD [] xs ∧ _); refine ⟨_, .nil, ?_⟩))
local macro_rules | `(tactic| walk_at "da") => `(tactic| ((with_reducible show ∃ (xs : List D), AllD [SV.d _] xs ∧ _); refine ⟨_, .cons .nil, ?_⟩))
local macro_rules | `(tactic| walk_at "da") => `(tactic| ((with_reducible show ∃ (xs : List D), AllD [SV.d _, SV.d _] xs ∧ _); refine ⟨_, .cons (.cons .nil), ?_⟩))
local macro_rules | `(tactic| walk_at "da") => `(tactic| ((with_reducible show ∃ (xs : List D), AllD [SV.d _, SV.d _, SV.d _] xs ∧ _); refine ⟨_, .cons (.cons (.cons .nil)), ?_⟩))
local macro_rules | `(tactic| walk_at "da") => `(tactic| ((with_reducible show ∃ (xs : List D), AllD [SV.d _, SV.d _, SV.d _, SV.d _] xs ∧ _); refine ⟨_, .cons (.cons (.cons (.cons .nil))), ?_⟩))
local macro_rules | `(tactic| walk_at "lo") => `(tactic| ((with_reducible show Lo.WO _ _ _ _ _ _); first | (with_reducible refine wo_none ?_) | (with_reducible refine wo_some ?_)))
local macro_rules | `(tactic| walk_at "lq") => `(tactic| ((with_reducible show Lo.WO _ _ _ _ _ _); first | (with_reducible refine wo_none ?_) | (with_reducible refine wo_some ?_)))
local macro_rules | `(tactic| walk_at "da") => `(tactic| first | ((with_reducible refine' takeG ?h ?_); (case h => (constructor <;> omega)); (intro k h0 h1)) | fail "no")
local macro_rules | `(tactic| walk_at "wr") => `(tactic| first | ((with_reducible refine' wr_pow ?h ?_); (case h => exact ⟨by decide, by decide, by decide⟩)) | fail "no")
local macro_rules | `(tactic| walk_at "we") => `(tactic| first | (with_reducible refine we_dnew ?_) | (with_reducible refine we_setd ?_) | (with_reducible refine we_dget ?_) | (with_reducible refine we_dget2 ?_) | (with_reducible refine we_sadd ?_) | fail "no")
local macro_rules | `(tactic| walk_at "lo") => `(tactic| ((with_reducible show Lo.WC _ _ (rSet0 _) _ _ _); refine wc_set0 ?_))
local macro_rules | `(tactic| walk_at "da") => `(tactic| ((with_reducible show ∃ (ks : List L2.Key) (vs : List D), SV.d (D.dct _ _) = SV.d (D.dct ks vs) ∧ _); refine ⟨_, _, rfl, ?_⟩))
local macro_rules | `(tactic| walk_at "da") => `(tactic| ((with_reducible show ∃ (dy : D) (key : L2.Key), SV.d (D.int _) = SV.d dy ∧ _); refine ⟨_, _, rfl, rfl, ?_⟩))
local macro_rules | `(tactic| walk_at "we") => `(tactic| first | (with_reducible refine we_bm0 ?_) | fail "no")
local macro_rules | `(tactic| walk_at "wr") => `(tactic| first | ((with_reducible show WR _ _ (rSNotIn _) _ _ _ _); refine wr_snotin (rfl : _ = some (oSet _ _ _)) ?_) | fail "no")
local macro_rules | `(tactic| walk_at "da") => `(tactic| ((with_reducible show ∃ (k : Nat) (S : Int → Bool) (n : Nat), SV.p _ = SV.p k ∧ _); refine ⟨_, _, _, rfl, (rfl : _ = some (oSet _ _ _)), ?_⟩))

local macro_rules | `(tactic| walk_at "lo") => `(tactic| ((with_reducible show List.length _ ≤ 100000 ∧ _); first | (refine ⟨Nat.le_of_ble_eq_true rfl, ?_⟩) | fail "no"))
local macro_rules | `(tactic| walk_at "lq") => `(tactic| ((with_reducible show List.length _ ≤ 100000 ∧ _); first | (refine ⟨Nat.le_of_ble_eq_true rfl, ?_⟩) | fail "no"))
local macro_rules | `(tactic| walk_at "lo") => `(tactic| ((with_reducible show ∃ (xs : List D), AllD [SV.d _, SV.d _, SV.d _, SV.d _, SV.d _] xs ∧ _); refine ⟨_, .cons (.cons (.cons (.cons (.cons .nil)))), ?_⟩))
local macro_rules | `(tactic| walk_at "lq") => `(tactic| ((with_reducible show ∃ (xs : List D), AllD [SV.d _, SV.d _, SV.d _, SV.d _, SV.d _] xs ∧ _); refine ⟨_, .cons (.cons (.cons (.cons (.cons .nil)))), ?_⟩))
local macro_rules | `(tactic| walk_at "lo") => `(tactic| ((with_reducible show ∃ (xs : List D), AllD [SV.d _, SV.d _, SV.d _, SV.d _, SV.d _, SV.d _] xs ∧ _); refine ⟨_, .cons (.cons (.cons (.cons (.cons (.cons .nil))))), ?_⟩))
local macro_rules | `(tactic| walk_at "lq") => `(tactic| ((with_reducible show ∃ (xs : List D), AllD [SV.d _, SV.d _, SV.d _, SV.d _, SV.d _, SV.d _] xs ∧ _); refine ⟨_, .cons (.cons (.cons (.cons (.cons (.cons .nil))))), ?_⟩))
local macro_rules | `(tactic| walk_at "lo") => `(tactic| ((with_reducible show ∃ (xs : List D), AllD [SV.d _, SV.d _, SV.d _, SV.d _, SV.d _, SV.d _, SV.d _] xs ∧ _); refine ⟨_, .cons (.cons (.cons (.cons (.cons (.cons (.cons .nil)))))), ?_⟩))
local macro_rules | `(tactic| walk_at "lq") => `(tactic| ((with_reducible show ∃ (xs : List D), AllD [SV.d _, SV.d _, SV.d _, SV.d _, SV.d _, SV.d _, SV.d _] xs ∧ _); refine ⟨_, .cons (.cons (.cons (.cons (.cons (.cons (.cons .nil)))))), ?_⟩))
local macro_rules | `(tactic| walk_at "lo") => `(tactic| ((with_reducible show ∃ (xs : List D), AllD [SV.d _, SV.d _, SV.d _, SV.d _, SV.d _, SV.d _, SV.d _, SV.d _] xs ∧ _); refine ⟨_, .cons (.cons (.cons (.cons (.cons (.cons (.cons (.cons .nil))))))), ?_⟩))
local macro_rules | `(tactic| walk_at "lq") => `(tactic| ((with_reducible show ∃ (xs : List D), AllD [SV.d _, SV.d _, SV.d _, SV.d _, SV.d _, SV.d _, SV.d _, SV.d _] xs ∧ _); refine ⟨_, .cons (.cons (.cons (.cons (.cons (.cons (.cons (.cons .nil))))))), ?_⟩))
local macro_rules | `(tactic| walk_at "lo") => `(tactic| ((with_reducible show Lo.WE _ _ (tLst (tCons _ _)) _ _ _); refine we_lst ?_))
local macro_rules | `(tactic| walk_at "lq") => `(tactic| ((with_reducible show Lo.WE _ _ (tLst (tCons _ _)) _ _ _); refine we_lst ?_))
local macro_rules | `(tactic| walk_at "lo") => `(tactic| ((with_reducible show Lo.WE _ _ (tDisp [(tC (V.str _), tC (V.str _))]) _ _ _); refine we_disp1 (d := .str _) (fun _ => rfl) ?_))
local macro_rules | `(tactic| walk_at "lq") => `(tactic| ((with_reducible show Lo.WE _ _ (tDisp [(tC (V.str _), tC (V.str _))]) _ _ _); refine we_disp1 (d := .str _) (fun _ => rfl) ?_))
local macro_rules | `(tactic| walk_at "lo") => `(tactic| ((with_reducible show Lo.WE _ _ (tDisp [(tC (V.str _), tC (V.int _))]) _ _ _); refine we_disp1 (d := .int _) (fun _ => rfl) ?_))
local macro_rules | `(tactic| walk_at "lq") => `(tactic| ((with_reducible show Lo.WE _ _ (tDisp [(tC (V.str _), tC (V.int _))]) _ _ _); refine we_disp1 (d := .int _) (fun _ => rfl) ?_))
local macro_rules | `(tactic| walk_at "wr") => `(tactic| first | (with_reducible refine wr_notB ?_) | (with_reducible refine wr_isB ?_) | fail "no")
local macro_rules | `(tactic| walk_at "we") => `(tactic| first | (with_reducible refine we_calK ?_) | fail "no")
local macro_rules | `(tactic| walk_at "da") => `(tactic| ((with_reducible show ∃ (x : D), [SV.d _] = [SV.d x] ∧ _); refine ⟨_, rfl, ?_⟩))

section
variable {P : Program} {w : World} {K : Frag} {mg : Str → Option Value} {base : Heap} {a : Ad}
abbrev F__law_told : DF := Fv (ι := D × D) (fun i => [i.1, i.2]) (fun i => okStr i.1 ∧ okTab i.2) (fun i d => (stW i.1 i.2 = none ∧ d = .tup [.str "good", stD i.1 i.2]) ∨ ∃ wd, stW i.1 i.2 = some wd ∧ d = .tup [.str "bad", .str wd]) noErr
theorem ok__law_told {fd} (X : Txt P K mg a) (F : DefAt K "_law_told" "_law_told" s__law_told [] a.f__law_told fd) : FnOk P w K mg base (L2.CX P w) 7 a.f__law_told fd ["_law_name", "_law_table_here"] (SpP (TT K a) F__law_told) := by
  refine okP (fun i => [some (.d (i.1)), some (.d (i.2)), none, none]) F sc__law_told (fun _ => rfl) fun cdv A outer s H E hr => 
   have hu := hr.units
   ⟨_, 
   (pss_cons (ps_try_as (i := 3) rfl rfl sc__law_told.nd rfl rfl ⟨by rfl, by decide, .inl X.g_TongueError⟩ takes0 (fun W pn xe tk _ => (pss_one (ps_set (i := 2) sc__law_told.nd rfl (Or.inl rfl) (pe_makS X.M_Stock (cal_Stock___init__ X) hr (by rfl) (fun σ => passAt tk σ) (pa_cons (pv 0) (pa_cons (pv 1) pa_nil))))))
  (fun ea oe cls d pn hz hf => (pss_cons (ps_if (PW.pt (pw_or (pt_not (pt_val (pe_callB (LX.call_isD hz hf) (by rfl) X.n_isinstance (by decide +kernel) (pa_cons (pv 3) (pa_cons (pe_glob (v := .ref a.C_BadStock) rfl X.g_BadStock rfl) pa_nil))))) (pw_or (pt_val (pe_callB (LX.call_isD hz hf) (by rfl) X.n_isinstance (by decide +kernel) (pa_cons (pv 3) (pa_cons (pe_glob (v := .ref a.C_BadFrame) rfl X.g_BadFrame rfl) pa_nil)))) (pw_or1 (pt_not (pt_val (pe_callB (LX.call_isD hz hf) (by rfl) X.n_isinstance (by decide +kernel) (pa_cons (pv 3) (pa_cons (pe_bltn (v := .ty "ValueError") rfl X.n_ValueError (by decide +kernel) rfl) pa_nil)))))))))
  (pss_one (ps_ret (pe_tup (pa_cons pe_str (pa_cons pe_str pa_nil)))))
  pss_nil)
  (pss_one (ps_ret (pe_tup (pa_cons pe_str (pa_cons (LX.pe_xd hz hf (pv 3)) pa_nil))))))))
  (pss_one (ps_ret (pe_tup (pa_cons pe_str (pa_cons (pv 2) pa_nil)))))), fun b ⟨nm, t⟩ hp hx => ?_⟩
  dsimp only [CxB, L2.cxOf] at hp ⊢
  obtain ⟨h1, h2⟩ := hp
  refine ws_seq (ws_tryMake (dd := []) rfl Fv.mon (fun _ => rfl) ?_)
  repeat' walk_at "lq"
  refine ⟨(nm, t), rfl, ⟨h1, h2⟩, ?_, ?_⟩
  · rintro d ⟨he, rfl⟩
    refine ⟨⟨_, rfl⟩, ?_⟩
    refine ws_ret (we_tup ?_)
    repeat' walk_at "lo"
    exact .inl ⟨he, rfl⟩
  · rintro e ⟨wd, he, rfl⟩
    refine ⟨X.xex_BadStock_TongueError, fun ea dx => ?_⟩
    have xb : ∀ {cv : V} {c : Value} {k : Bool} (hv : ∀ u, RelV cv u → u = c), PySem.W.kitOne K (.ref a.C_BadStock) c = some k → ∀ {own : List OW} {Q : PSv}, Q (.d (.bl k)) own → Lo.WE (TT K a) b (tCB (LX.rIsD K (.ref a.C_BadStock) (some dx) ea) (tCons (tVar 3) (tCons (tC cv) tNil))) own [some (SV.d nm), some (SV.d t), none, some (.x ea dx [("what", .str wd)])] Q :=
      fun {cv c k} hv hk {own Q} q => we_isD (T := TT K a) rfl hv (we_var rfl ⟨dx, _, a.C_BadStock, k, rfl, rfl, rfl, X.ec_BadStock, hk, q⟩)
    refine ws_seq (ws_if ?_)
    refine wt_or (wt_not (wt_B (xb (cv := .ref a.C_BadStock) (c := .ref a.C_BadStock) (fun _ h => h) X.xis_BadStock_BadStock ⟨_, rfl, ?_⟩)))
    refine ⟨(fun z => nomatch z), fun _ => ?_⟩
    refine wt_or (wt_B (xb (cv := .ref a.C_BadFrame) (c := .ref a.C_BadFrame) (fun _ h => h) X.xis_BadStock_BadFrame ⟨_, rfl, ?_⟩))
    refine ⟨(fun z => nomatch z), fun _ => ?_⟩
    refine wt_not (wt_B (xb (cv := .ty "ValueError") (c := .type "ValueError") (fun _ h => h) X.xis_BadStock_ValueError ⟨_, rfl, ?_⟩))
    refine ⟨(fun z => nomatch z), fun _ => ?_⟩
    refine ws_next (ws_ret (we_tup ?_))
    repeat' walk_at "lo"
    refine we_xd (T := TT K a) rfl ?_
    repeat' walk_at "lo"
    refine ⟨dx, _, a.C_BadStock, .str wd, .str wd, rfl, rfl, rfl, X.xf_BadStock, X.xno_BadStock_what, rfl, fun _ => rfl, ?_⟩
    repeat' walk_at "lo"
    exact .inr ⟨wd, he, rfl⟩
theorem cal__law_told (X : Txt P K mg a) : Cal P w K mg base 7 a.f__law_told ["_law_name", "_law_table_here"] (SpP (TT K a) F__law_told) [] := by
  obtain ⟨fd, F⟩ := X.F__law_told
  exact ⟨fd, [], ok__law_told X F, .nil, F.bindsN fun _ _ _ _ _ _ us hl => match us, hl with | [_, _], _ => rfl⟩
end
end L3
end
section
set_option Elab.async false
set_option linter.all false
set_option maxRecDepth 100000
set_option maxHeartbeats 1000000
namespace L3
open PySem PySem.Spec PyProof.Rows L2 PySem.W PySem.Calls Lo
local macro_rules | `(tactic| walk_at "sd") => `(tactic| first | exact .d | rfl | assumption | (with_reducible decide) | omega | exact .nil | exact AllD.nil)
local macro_rules | `(tactic| walk_at "we") => `(tactic| first
  | ((with_reducible refine' we_var ?hv ?_); (case hv => rfl))
  | (with_reducible refine we_int ?_)
  | (with_reducible refine we_op ?_)
  | (with_reducible refine we_str ?_)
  | (with_reducible refine we_isi ?_)
  | (with_reducible refine we_isi2 ?_)
  | (with_reducible refine we_cb ?_)
  | (with_reducible refine we_andV ?_)
  | (with_reducible refine we_orV ?_)
  | (with_reducible refine we_notV ?_)
  | (with_reducible refine we_non ?_)
  | (with_reducible refine we_bl ?_)
  | (with_reducible refine we_if ?_)
  | (with_reducible refine we_un ?_)
  | (with_reducible refine we_cal0 ?_)
  | (with_reducible refine we_cal2 ?_)
  | (with_reducible refine we_calH ?_)
  | (with_reducible refine we_prp ?_)
  | (with_reducible refine we_tup ?_)
  | (with_reducible refine we_chain ?_))
local macro_rules | `(tactic| walk_at "ws") => `(tactic| first
  | (with_reducible refine ws_seq ?_)
  | (with_reducible refine ws_if ?_)
  | (with_reducible refine ws_set ?_)
  | (with_reducible refine ws_ret ?_)
  | (with_reducible refine ws_next ?_)
  | (with_reducible refine ws_drop ?_)
  | (with_reducible refine ws_retN ?_))
local macro_rules | `(tactic| walk_at "wt") => `(tactic| first
  | (with_reducible refine wt_test ?_)
  | (with_reducible refine wt_B ?_)
  | (with_reducible refine wt_and ?_)
  | (with_reducible refine wt_or ?_)
  | (with_reducible refine wt_not ?_))
local macro_rules | `(tactic| walk_at "wr") => `(tactic| first
  | (with_reducible refine wr_addI ?_)
  | (with_reducible refine wr_leI ?_)
  | (with_reducible refine wr_B0 ?_)
  | (with_reducible refine wr_I0 ?_)
  | (with_reducible refine wr_isN ?_)
  | (with_reducible refine wr_notN ?_)
  | (with_reducible refine wr_leS ?_)
  | ((with_reducible refine' wr_ixL ?hv ?_); (case hv => rfl))
  | ((with_reducible refine' wr_ixT ?hv ?_); (case hv => rfl))
  | ((with_reducible refine' wr_ixO ?hv ?hw ?_); (case hv => rfl); (case hw => rfl))
  | ((with_reducible refine' wr_eqD ?h1 ?h2 ?h3 ?h4 ?_); (case h1 => exact .d); (case h2 => exact .d); (case h3 => rfl); (case h4 => rfl))
  | ((with_reducible refine' wr_neD ?h1 ?h2 ?h3 ?h4 ?_); (case h1 => exact .d); (case h2 => exact .d); (case h3 => rfl); (case h4 => rfl)))
local macro_rules | `(tactic| walk_at "da") => `(tactic| first
  | (with_reducible refine ⟨_, rfl, ?_⟩)
  | (with_reducible refine ⟨fun _ => ?_, fun h => Bool.noConfusion h⟩)
  | (with_reducible refine ⟨fun h => Bool.noConfusion h, fun _ => ?_⟩)
  | (with_reducible refine ⟨_, rfl, ?_, ?_⟩)
  | ((with_reducible refine' ⟨_, _, .d, ?h1, ?h2, ?_⟩); (case h1 => walk_at "sd"); (case h2 => rfl))
  | ((with_reducible refine' ⟨_, _, _, .d, ?h1, ?h2, ?h3, ?_⟩); (case h1 => walk_at "sd"); (case h2 => rfl); (case h3 => rfl))
  | (with_reducible refine ⟨fun hk => ?_, fun hk => ?_⟩)
  | (show ∃ d, SV.d _ = SV.d d ∧ _; with_reducible refine ⟨_, rfl, ?_⟩))
local macro_rules | `(tactic| walk_at "lo") => `(tactic| first
  | ((with_reducible show Lo.WE _ _ _ _ _ _); walk_at "we")
  | ((with_reducible show Lo.WA _ _ _ _ _ _); first | (with_reducible refine wa_cons ?_) | (with_reducible refine wa_nil ?_))
  | ((with_reducible show Lo.WS _ _ _ _ _ _); walk_at "ws")
  | ((with_reducible show Lo.WT _ _ _ _ _ _); walk_at "wt")
  | ((with_reducible show Lo.WR _ _ _ _ _ _ _); walk_at "wr")
  | ((with_reducible show Lo.WU _ _ _ _ _ _); (with_reducible refine wu_neg ?_))
  | ((with_reducible show Lo.WC _ _ _ _ _ _); first | ((with_reducible refine' wc_len ?hv ?_); (case hv => rfl)) | (with_reducible refine wc_int ?_))
  | walk_at "da")
local macro_rules | `(tactic| walk_at "wq") => `(tactic| first
  | (with_reducible refine ws_seq (t := tAsg _ _) ?_)
  | (with_reducible refine ws_seq (t := tDrop _) ?_)
  | (with_reducible refine ws_set ?_)
  | (with_reducible refine ws_ret ?_)
  | (with_reducible refine ws_next ?_)
  | (with_reducible refine ws_drop ?_)
  | (with_reducible refine ws_retN ?_))
local macro_rules | `(tactic| walk_at "lq") => `(tactic| first
  | ((with_reducible show Lo.WE _ _ _ _ _ _); walk_at "we")
  | ((with_reducible show Lo.WA _ _ _ _ _ _); first | (with_reducible refine wa_cons ?_) | (with_reducible refine wa_nil ?_))
  | ((with_reducible show Lo.WS _ _ _ _ _ _); walk_at "wq")
  | ((with_reducible show Lo.WT _ _ _ _ _ _); walk_at "wt")
  | ((with_reducible show Lo.WR _ _ _ _ _ _ _); walk_at "wr")
  | ((with_reducible show Lo.WU _ _ _ _ _ _); (with_reducible refine wu_neg ?_))
  | ((with_reducible show Lo.WC _ _ _ _ _ _); first | ((with_reducible refine' wc_len ?hv ?_); (case hv => rfl)) | (with_reducible refine wc_int ?_))
  | walk_at "da")
local macro_rules | `(tactic| walk_at "ws") => `(tactic| (with_reducible refine ws_sub ?_))
local macro_rules | `(tactic| walk_at "wq") => `(tactic| (with_reducible refine ws_sub ?_))
local macro_rules | `(tactic| walk_at "da") => `(tactic| ((with_reducible show ∃ (i : Int) (j : Nat) (ss : List SV), SV.d (D.int _) = SV.d (D.int i) ∧ _); refine ⟨_, _, _, rfl, (rfl : _ = some (OW.lst _)), rfl, ?_⟩))
local macro_rules | `(tactic| walk_at "da") => `(tactic| ((with_reducible show ∃ (k : Nat) (ss : List SV), SV.p _ = SV.p k ∧ _); refine ⟨_, _, rfl, (rfl : _ = some (OW.lst _)), ?_⟩))
local macro_rules | `(tactic| walk_at "we") => `(tactic| (with_reducible refine we_bm ?_))
local macro_rules | `(tactic| walk_at "lo") => `(tactic| ((with_reducible show Lo.WC _ _ (Lo.rLen _) _ [SV.p _] _); refine wc_lenO (rfl : _ = some (OW.lst _)) ?_))
local macro_rules | `(tactic| walk_at "lq") => `(tactic| ((with_reducible show Lo.WC _ _ (Lo.rLen _) _ [SV.p _] _); refine wc_lenO (rfl : _ = some (OW.lst _)) ?_))
local macro_rules | `(tactic| walk_at "da") => `(tactic| ((with_reducible show ∃ (k : Nat) (sr : List SV) (xs : List D), [SV.p _] = SV.p k :: sr ∧ _); refine ⟨_, _, _, rfl, (rfl : _ = some OW.hand), .nil, ?_⟩))
local macro_rules | `(tactic| walk_at "da") => `(tactic| ((with_reducible show ∃ (k : Nat) (sr : List SV) (xs : List D), [SV.p _, SV.d _] = SV.p k :: sr ∧ _); refine ⟨_, _, _, rfl, (rfl : _ = some OW.hand), .cons .nil, ?_⟩))
local macro_rules | `(tactic| walk_at "da") => `(tactic| ((with_reducible show ∃ (k : Nat) (sr : List SV) (xs : List D), [SV.p _, SV.d _, SV.d _] = SV.p k :: sr ∧ _); refine ⟨_, _, _, rfl, (rfl : _ = some OW.hand), .cons (.cons .nil), ?_⟩))
local macro_rules | `(tactic| walk_at "da") => `(tactic| ((with_reducible show ∃ (xs : List D), AllD [] xs ∧ _); refine ⟨_, .nil, ?_⟩))
local macro_rules | `(tactic| walk_at "da") => `(tactic| ((with_reducible show ∃ (xs : List D), AllD [SV.d _] xs ∧ _); refine ⟨_, .cons .nil, ?_⟩))
local macro_rules | `(tactic| walk_at "da") => `(tactic| ((with_reducible show ∃ (xs : List D), AllD [SV.d _, SV.d _] xs ∧ _); refine ⟨_, .cons (.cons .nil), ?_⟩))
local macro_rules | `(tactic| walk_at "da") => `(tactic| ((with_reducible show ∃ (xs : List D), AllD [SV.d _, SV.d _, SV.d _] xs ∧ _); refine ⟨_, .cons (.cons (.cons .nil)), ?_⟩))
local macro_rules | `(tactic| walk_at "da") => `(tactic| ((with_reducible show ∃ (xs : List D), AllD [SV.d _, SV.d _, SV.d _, SV.d _] xs ∧ _); refine ⟨_, .cons (.cons (.cons (.cons .nil))), ?_⟩))
local macro_rules | `(tactic| walk_at "lo") => `(tactic| ((with_reducible show Lo.WO _ _ _ _ _ _); first | (with_reducible refine wo_none ?_) | (with_reducible refine wo_some ?_)))
local macro_rules | `(tactic| walk_at "lq") => `(tactic| ((with_reducible show Lo.WO _ _ _ _ _ _); first | (with_reducible refine wo_none ?_) | (with_reducible refine wo_some ?_)))
local macro_rules | `(tactic| walk_at "da") => `(tactic| first | ((with_reducible refine' takeG ?h ?_); (case h => (constructor <;> omega)); (intro k h0 h1)) | fail "no")
local macro_rules | `(tactic| walk_at "wr") => `(tactic| first | ((with_reducible refine' wr_pow ?h ?_); (case h => exact ⟨by decide, by decide, by decide⟩)) | fail "no")
local macro_rules | `(tactic| walk_at "we") => `(tactic| first | (with_reducible refine we_dnew ?_) | (with_reducible refine we_setd ?_) | (with_reducible refine we_dget ?_) | (with_reducible refine we_dget2 ?_) | (with_reducible refine we_sadd ?_) | fail "no")
local macro_rules | `(tactic| walk_at "lo") => `(tactic| ((with_reducible show Lo.WC _ _ (rSet0 _) _ _ _); refine wc_set0 ?_))
local macro_rules | `(tactic| walk_at "da") => `(tactic| ((with_reducible show ∃ (ks : List L2.Key) (vs : List D), SV.d (D.dct _ _) = SV.d (D.dct ks vs) ∧ _); refine ⟨_, _, rfl, ?_⟩))
local macro_rules | `(tactic| walk_at "da") => `(tactic| ((with_reducible show ∃ (dy : D) (key : L2.Key), SV.d (D.int _) = SV.d dy ∧ _); refine ⟨_, _, rfl, rfl, ?_⟩))
local macro_rules | `(tactic| walk_at "we") => `(tactic| first | (with_reducible refine we_bm0 ?_) | fail "no")
local macro_rules | `(tactic| walk_at "wr") => `(tactic| first | ((with_reducible show WR _ _ (rSNotIn _) _ _ _ _); refine wr_snotin (rfl : _ = some (oSet _ _ _)) ?_) | fail "no")
local macro_rules | `(tactic| walk_at "da") => `(tactic| ((with_reducible show ∃ (k : Nat) (S : Int → Bool) (n : Nat), SV.p _ = SV.p k ∧ _); refine ⟨_, _, _, rfl, (rfl : _ = some (oSet _ _ _)), ?_⟩))

local macro_rules | `(tactic| walk_at "lo") => `(tactic| ((with_reducible show List.length _ ≤ 100000 ∧ _); first | (refine ⟨Nat.le_of_ble_eq_true rfl, ?_⟩) | fail "no"))
local macro_rules | `(tactic| walk_at "lq") => `(tactic| ((with_reducible show List.length _ ≤ 100000 ∧ _); first | (refine ⟨Nat.le_of_ble_eq_true rfl, ?_⟩) | fail "no"))
local macro_rules | `(tactic| walk_at "lo") => `(tactic| ((with_reducible show ∃ (xs : List D), AllD [SV.d _, SV.d _, SV.d _, SV.d _, SV.d _] xs ∧ _); refine ⟨_, .cons (.cons (.cons (.cons (.cons .nil)))), ?_⟩))
local macro_rules | `(tactic| walk_at "lq") => `(tactic| ((with_reducible show ∃ (xs : List D), AllD [SV.d _, SV.d _, SV.d _, SV.d _, SV.d _] xs ∧ _); refine ⟨_, .cons (.cons (.cons (.cons (.cons .nil)))), ?_⟩))
local macro_rules | `(tactic| walk_at "lo") => `(tactic| ((with_reducible show ∃ (xs : List D), AllD [SV.d _, SV.d _, SV.d _, SV.d _, SV.d _, SV.d _] xs ∧ _); refine ⟨_, .cons (.cons (.cons (.cons (.cons (.cons .nil))))), ?_⟩))
local macro_rules | `(tactic| walk_at "lq") => `(tactic| ((with_reducible show ∃ (xs : List D), AllD [SV.d _, SV.d _, SV.d _, SV.d _, SV.d _, SV.d _] xs ∧ _); refine ⟨_, .cons (.cons (.cons (.cons (.cons (.cons .nil))))), ?_⟩))
local macro_rules | `(tactic| walk_at "lo") => `(tactic| ((with_reducible show ∃ (xs : List D), AllD [SV.d _, SV.d _, SV.d _, SV.d _, SV.d _, SV.d _, SV.d _] xs ∧ _); refine ⟨_, .cons (.cons (.cons (.cons (.cons (.cons (.cons .nil)))))), ?_⟩))
local macro_rules | `(tactic| walk_at "lq") => `(tactic| ((with_reducible show ∃ (xs : List D), AllD [SV.d _, SV.d _, SV.d _, SV.d _, SV.d _, SV.d _, SV.d _] xs ∧ _); refine ⟨_, .cons (.cons (.cons (.cons (.cons (.cons (.cons .nil)))))), ?_⟩))
local macro_rules | `(tactic| walk_at "lo") => `(tactic| ((with_reducible show ∃ (xs : List D), AllD [SV.d _, SV.d _, SV.d _, SV.d _, SV.d _, SV.d _, SV.d _, SV.d _] xs ∧ _); refine ⟨_, .cons (.cons (.cons (.cons (.cons (.cons (.cons (.cons .nil))))))), ?_⟩))
local macro_rules | `(tactic| walk_at "lq") => `(tactic| ((with_reducible show ∃ (xs : List D), AllD [SV.d _, SV.d _, SV.d _, SV.d _, SV.d _, SV.d _, SV.d _, SV.d _] xs ∧ _); refine ⟨_, .cons (.cons (.cons (.cons (.cons (.cons (.cons (.cons .nil))))))), ?_⟩))
local macro_rules | `(tactic| walk_at "lo") => `(tactic| ((with_reducible show Lo.WE _ _ (tLst (tCons _ _)) _ _ _); refine we_lst ?_))
local macro_rules | `(tactic| walk_at "lq") => `(tactic| ((with_reducible show Lo.WE _ _ (tLst (tCons _ _)) _ _ _); refine we_lst ?_))
local macro_rules | `(tactic| walk_at "lo") => `(tactic| ((with_reducible show Lo.WE _ _ (tDisp [(tC (V.str _), tC (V.str _))]) _ _ _); refine we_disp1 (d := .str _) (fun _ => rfl) ?_))
local macro_rules | `(tactic| walk_at "lq") => `(tactic| ((with_reducible show Lo.WE _ _ (tDisp [(tC (V.str _), tC (V.str _))]) _ _ _); refine we_disp1 (d := .str _) (fun _ => rfl) ?_))
local macro_rules | `(tactic| walk_at "lo") => `(tactic| ((with_reducible show Lo.WE _ _ (tDisp [(tC (V.str _), tC (V.int _))]) _ _ _); refine we_disp1 (d := .int _) (fun _ => rfl) ?_))
local macro_rules | `(tactic| walk_at "lq") => `(tactic| ((with_reducible show Lo.WE _ _ (tDisp [(tC (V.str _), tC (V.int _))]) _ _ _); refine we_disp1 (d := .int _) (fun _ => rfl) ?_))
local macro_rules | `(tactic| walk_at "wr") => `(tactic| first | (with_reducible refine wr_notB ?_) | (with_reducible refine wr_isB ?_) | fail "no")
local macro_rules | `(tactic| walk_at "we") => `(tactic| first | (with_reducible refine we_calK ?_) | fail "no")
local macro_rules | `(tactic| walk_at "da") => `(tactic| ((with_reducible show ∃ (x : D), [SV.d _] = [SV.d x] ∧ _); refine ⟨_, rfl, ?_⟩))

section
variable {P : Program} {w : World} {K : Frag} {mg : Str → Option Value} {base : Heap} {a : Ad}
/-- _law_as_list of an own list of data -/
abbrev O_as_list : FO := FvO (ι := List D) (fun _ => [.p 0, .p 1]) (fun xs => [.hand, .lst (xs.map SV.d)]) (fun xs => xs.length ≤ 1000) (fun xs d o => (d = .lst xs ∨ d = .tup xs) ∧ o = [.hand, .lst (xs.map SV.d)])
theorem okO__law_as_list {fd} (X : Txt P K mg a) (F : DefAt K "_law_as_list" "_law_as_list" s__law_as_list [] a.f__law_as_list fd) : FnOk P w K mg base (L2.CX P w) 3 a.f__law_as_list fd ["_law_hand_here", "_law_row"] (SpO (TT K a) O_as_list) := by
  refine okO (fun i => [some (.p 0), some (.p 1)]) F sc__law_as_list (fun _ => rfl) fun cdv A outer s H E hr => 
   have hu := hr.units
   ⟨_, 
   (pss_one (ps_ret (pe_ifExp (pt_cmpR (op_eqD hu) (pe_cal X.A__law_take (cal__law_take X) hr (by rfl) passL (pa_cons (pv 0) (pa_cons pe_int pa_nil))) pe_int (nomark _)) (pe_callTy call_listA (by rfl) X.n_list (by decide +kernel) (pa_cons (pv 1) pa_nil)) (pe_callTy call_tupA (by rfl) X.n_tuple (by decide +kernel) (pa_cons (pv 1) pa_nil))))), fun b xs hp => ?_⟩
  dsimp only [CxB, L2.cxOf] at hp ⊢
  repeat' walk_at "lo"
  · exact wc_listP rfl (AllD.map _) ⟨_, _, [], rfl, (List.append_nil _).symm, rfl, OwP_hand (OwP_lst OwP_nil), .inl rfl, rfl⟩
  · exact wc_tupP rfl (AllD.map _) ⟨_, _, [], rfl, (List.append_nil _).symm, rfl, OwP_hand (OwP_lst OwP_nil), .inr rfl, rfl⟩
theorem calO__law_as_list (X : Txt P K mg a) : Cal P w K mg base 3 a.f__law_as_list ["_law_hand_here", "_law_row"] (SpO (TT K a) O_as_list) [] := by
  obtain ⟨fd, F⟩ := X.F__law_as_list
  exact ⟨fd, [], okO__law_as_list X F, .nil, F.bindsN fun _ _ _ _ _ _ us hl => match us, hl with | [_, _], _ => rfl⟩
/-- three data in a row, and its own list -/
def rowsO (rows : List (List D)) : List OW := .hand :: .lst ((List.range rows.length).map fun j => SV.p (2 + j)) :: rows.map fun r => OW.lst (r.map SV.d)
def prevR (rows : List (List D)) (place : Nat) : Int := if place = 0 then -1 else match rows[place - 1]? with | some (.int n :: _) => n | _ => -1
def psO (n : Nat) : List SV := (List.range n).map fun j => SV.p (2 + j)
/-- what _law_spoilt leaves -/
def spPost (rows : List (List D)) (place : Nat) (d : D) (o : List OW) : Prop := ∃ row, rows[place]? = some row ∧
  ((∃ x : D, d = .str "row" ∧ (x = .non ∨ x = .tup [] ∨ x = .lst (row.take 2) ∨ x = .lst (row ++ row.take 1) ∨ x = .str "abc") ∧ o = (rowsO rows).set 1 (.lst ((psO rows.length).set place (.d x)))) ∨
   (∃ x : D, d = .str "role" ∧ (noRole 6 x ∨ ∃ n : Int, x = .int n ∧ 0 ≤ n ∧ n ≤ prevR rows place) ∧ o = (rowsO rows).set (2 + place) (.lst ((row.set 0 x).map SV.d))) ∨
   (∃ (k : Nat) (x : D), d = .str "ending" ∧ (k = 1 ∨ k = 2) ∧ noEnd x ∧ o = (rowsO rows).set (2 + place) (.lst ((row.set k x).map SV.d))))
abbrev O_spoilt : FO := FvO (ι := List (List D) × Nat) (fun i => [.p 0, .p 1, .d (.int (i.2 : Int))]) (fun i => rowsO i.1) (fun i => i.2 < i.1.length ∧ i.1.length ≤ 6 ∧ ∀ r ∈ i.1, ∃ (n : Int) (y z : D), r = [.int n, y, z] ∧ 0 ≤ n ∧ n ≤ 5) (fun i => spPost i.1 i.2)
theorem rows_row {rows : List (List D)} {place : Nat} {row : List D} (h : rows[place]? = some row) : (rowsO rows)[2 + place]? = some (.lst (row.map SV.d)) := by
  rw [Nat.add_comm]
  show (rows.map fun r => OW.lst (r.map SV.d))[place]? = _
  rw [List.getElem?_map, h]
  rfl
theorem ps_at {n place : Nat} (h : place < n) : atI (psO n) (place : Int) = some (.p (2 + place)) := atI_nat (by
  unfold psO
  rw [List.getElem?_map, List.getElem?_range h]
  rfl)
theorem OwP_of {n : Nat} {os : List OW} (h : ∀ o ∈ os, o = .hand ∨ ∃ xs, o = .lst xs ∧ ∀ x ∈ xs, ∀ k, x = .p k → k < n) : OwP n os := fun o m => by
  rcases h o m with rfl | ⟨xs, rfl, hx⟩
  · exact ⟨fun _ e => (nomatch e), fun _ _ e => (nomatch e), fun _ e => (nomatch e)⟩
  · exact ⟨fun ys e => by cases e; exact hx, fun _ _ e => (nomatch e), fun _ e => (nomatch e)⟩
theorem rowsO_len (rows : List (List D)) : (rowsO rows).length = rows.length + 2 := by
  show (rows.map _).length + 2 = _
  rw [List.length_map]
theorem psO_in {n k : Nat} {x : SV} (h : x ∈ psO n) (e : x = .p k) : k < n + 2 := by
  obtain ⟨j, hj, rfl⟩ := List.mem_map.mp h
  cases e
  have := List.mem_range.mp hj
  omega
theorem rows_ok {rows : List (List D)} : ∀ o ∈ rowsO rows, o = .hand ∨ ∃ xs, o = .lst xs ∧ ∀ x ∈ xs, ∀ k, x = .p k → k < rows.length + 2 := fun o m => by
  rcases List.mem_cons.mp m with rfl | m
  · exact .inl rfl
  rcases List.mem_cons.mp m with rfl | m
  · exact .inr ⟨_, rfl, fun x hx k e => psO_in hx e⟩
  · obtain ⟨r, _, rfl⟩ := List.mem_map.mp m
    refine .inr ⟨_, rfl, fun x hx k e => ?_⟩
    obtain ⟨d, _, rfl⟩ := List.mem_map.mp hx
    cases e
theorem OwP_set {rows : List (List D)} {j : Nat} {ss : List SV} (h : ∀ x ∈ ss, ∀ k, x = .p k → k < rows.length + 2) : OwP (rowsO rows).length ((rowsO rows).set j (.lst ss)) := by
  rw [rowsO_len]
  refine OwP_of fun o m => ?_
  rcases List.mem_or_eq_of_mem_set m with m | rfl
  · exact rows_ok o m
  · exact .inr ⟨_, rfl, h⟩
theorem okO__law_spoilt {fd} (X : Txt P K mg a) (F : DefAt K "_law_spoilt" "_law_spoilt" s__law_spoilt [] a.f__law_spoilt fd) : FnOk P w K mg base (L2.CX P w) 4 a.f__law_spoilt fd ["_law_hand_here", "_law_rows", "_law_place"] (SpO (TT K a) O_spoilt) := by
  refine okO (fun i => [some (.p 0), some (.p 1), some (.d (.int (i.2 : Int))), none]) F sc__law_spoilt (fun _ => rfl) fun cdv A outer s H E hr => 
   have hu := hr.units
   ⟨_, 
   (pss_cons (ps_set (i := 3) sc__law_spoilt.nd rfl (Or.inl rfl) (pe_cal X.A__law_take (cal__law_take X) hr (by rfl) passL (pa_cons (pv 0) (pa_cons pe_int pa_nil))))
  (pss_cons (ps_if (pt_cmpR (op_eqD hu) (pv 3) pe_int (nomark _))
  (pss_cons (ps_asg (pe_ix ix_any (pe_tup (pa_cons pe_non (pa_cons (pe_tup pa_nil) (pa_cons (pe_slice sl_any (pe_ix ix_any (pv 1) (pv 2) (fun _ _ => rfl)) po_none (po_some pe_int)) (pa_cons (pe_op op_addA (pe_ix ix_any (pv 1) (pv 2) (fun _ _ => rfl)) (pe_slice sl_any (pe_ix ix_any (pv 1) (pv 2) (fun _ _ => rfl)) po_none (po_some pe_int))) (pa_cons pe_str pa_nil)))))) (pe_cal X.A__law_take (cal__law_take X) hr (by rfl) passL (pa_cons (pv 0) (pa_cons pe_int pa_nil))) (fun _ _ => rfl)) (pg_sub (pv 1) (pv 2) set_list))
  (pss_one (ps_ret pe_str)))
  pss_nil)
  (pss_cons (ps_if (pt_cmpR (op_eqD hu) (pv 3) pe_int (nomark _))
  (pss_cons (ps_asg (pe_cal X.A__law_no_role (cal__law_no_role X) hr (by rfl) passL (pa_cons (pv 0) (pa_cons pe_int pa_nil))) (pg_sub (pe_ix ix_any (pv 1) (pv 2) (fun _ _ => rfl)) pe_int set_list))
  (pss_one (ps_ret pe_str)))
  pss_nil)
  (pss_cons (ps_if (PW.pt (pw_and (pt_cmpR (op_eqD hu) (pv 3) pe_int (nomark _)) (pw_and1 (pt_cmpR op_gt (pv 2) pe_int (nomark _)))))
  (pss_cons (ps_asg (pe_op op_sub (pe_ix ix_any (pe_ix ix_any (pv 1) (pe_op op_sub (pv 2) pe_int) (fun _ _ => rfl)) pe_int (fun _ _ => rfl)) (pe_cal X.A__law_take (cal__law_take X) hr (by rfl) passL (pa_cons (pv 0) (pa_cons (pe_op op_addA (pe_ix ix_any (pe_ix ix_any (pv 1) (pe_op op_sub (pv 2) pe_int) (fun _ _ => rfl)) pe_int (fun _ _ => rfl)) pe_int) pa_nil)))) (pg_sub (pe_ix ix_any (pv 1) (pv 2) (fun _ _ => rfl)) pe_int set_list))
  (pss_one (ps_ret pe_str)))
  pss_nil)
  (pss_cons (ps_asg (pe_cal X.A__law_no_ending (cal__law_no_ending X) hr (by rfl) passL (pa_cons (pv 0) pa_nil)) (pg_sub (pe_ix ix_any (pv 1) (pv 2) (fun _ _ => rfl)) (pe_op op_addA pe_int (pe_cal X.A__law_take (cal__law_take X) hr (by rfl) passL (pa_cons (pv 0) (pa_cons pe_int pa_nil)))) set_list))
  (pss_one (ps_ret pe_str))))))), fun b ⟨rows, place⟩ hp => ?_⟩
  dsimp only [CxB, L2.cxOf] at hp ⊢
  obtain ⟨hpl, h6, hrow⟩ := hp
  obtain ⟨row, hat⟩ : ∃ row, rows[place]? = some row := ⟨_, List.getElem?_eq_getElem hpl⟩
  obtain ⟨n, y, z, hr3, hn0, hn5⟩ := hrow row (List.mem_of_getElem? hat)
  have o1 : (rowsO rows)[1]? = some (.lst (psO rows.length)) := rfl
  have o2 := rows_row hat
  have i1 := ps_at hpl
  have lp : (psO rows.length).length = rows.length := by
    unfold psO
    rw [List.length_map, List.length_range]
  have hix : ixN (psO rows.length).length (place : Int) = some place := by
    rw [lp]
    exact Evl.ixN_nat hpl
  have finR : ∀ x : D, (x = .non ∨ x = .tup [] ∨ x = .lst (row.take 2) ∨ x = .lst (row ++ row.take 1) ∨ x = .str "abc") → ∃ d o1 o2, SV.d (.str "row") = SV.d d ∧ (rowsO rows).set 1 (.lst ((psO rows.length).set place (.d x))) = o1 ++ o2 ∧ o1.length = (rowsO rows).length ∧ OwP (rowsO rows).length o1 ∧ spPost rows place d o1 := fun x hx => by
    refine ⟨_, _, [], rfl, (List.append_nil _).symm, by rw [List.length_set], OwP_set fun u hu k e => ?_, row, hat, .inl ⟨x, rfl, hx, rfl⟩⟩
    rcases List.mem_or_eq_of_mem_set hu with hu | rfl
    · exact psO_in hu e
    · cases e
  have finD : ∀ (wd : Str) (xs : List D), spPost rows place (.str wd) ((rowsO rows).set (2 + place) (.lst (xs.map SV.d))) → ∃ d o1 o2, SV.d (.str wd) = SV.d d ∧ (rowsO rows).set (2 + place) (.lst (xs.map SV.d)) = o1 ++ o2 ∧ o1.length = (rowsO rows).length ∧ OwP (rowsO rows).length o1 ∧ spPost rows place d o1 := fun wd xs h => by
    refine ⟨_, _, [], rfl, (List.append_nil _).symm, by rw [List.length_set], OwP_set fun u hu k e => ?_, h⟩
    obtain ⟨d, _, rfl⟩ := List.mem_map.mp hu
    cases e
  subst hr3
  repeat' walk_at "lo"
  · refine we_slP ?_
    repeat' walk_at "lo"
    refine wr_ixO o1 i1 ?_
    repeat' walk_at "lo"
    refine ⟨_, _, [.int n, y, z], rfl, o2, AllD.map _, ?_⟩
    repeat' walk_at "lo"
    refine wr_ixO o1 i1 ?_
    refine we_slP ?_
    repeat' walk_at "lo"
    refine wr_ixO o1 i1 ?_
    repeat' walk_at "lo"
    refine ⟨_, _, [.int n, y, z], rfl, o2, AllD.map _, ?_⟩
    refine wr_addP o2 (AllD.map _) (Nat.le_of_ble_eq_true rfl) ?_
    repeat' walk_at "lo"
    rename_i k h0 h1
    have hk : k = 0 ∨ k = 1 ∨ k = 2 ∨ k = 3 ∨ k = 4 := by omega
    have c2 : Lo.cutD [D.int n, y, z] none (some 2) = [D.int n, y] := by rfl
    have c1 : Lo.cutD [D.int n, y, z] none (some 1) = [D.int n] := by rfl
    rw [c1, c2]
    rcases hk with rfl | rfl | rfl | rfl | rfl
    · refine wr_ixT (x := .non) rfl ?_
      repeat' walk_at "lo"
      refine ⟨_, _, _, rfl, o1, hix, ?_⟩
      repeat' walk_at "lo"
      exact finR _ (.inl rfl)
    · refine wr_ixT (x := .tup []) rfl ?_
      repeat' walk_at "lo"
      refine ⟨_, _, _, rfl, o1, hix, ?_⟩
      repeat' walk_at "lo"
      exact finR _ (.inr (.inl rfl))
    · refine wr_ixT (x := .lst [.int n, y]) rfl ?_
      repeat' walk_at "lo"
      refine ⟨_, _, _, rfl, o1, hix, ?_⟩
      repeat' walk_at "lo"
      exact finR _ (.inr (.inr (.inl rfl)))
    · refine wr_ixT (x := .lst [.int n, y, z, .int n]) rfl ?_
      repeat' walk_at "lo"
      refine ⟨_, _, _, rfl, o1, hix, ?_⟩
      repeat' walk_at "lo"
      exact finR _ (.inr (.inr (.inr (.inl rfl))))
    · refine wr_ixT (x := .str "abc") rfl ?_
      repeat' walk_at "lo"
      refine ⟨_, _, _, rfl, o1, hix, ?_⟩
      repeat' walk_at "lo"
      exact finR _ (.inr (.inr (.inr (.inr rfl))))
  · refine ⟨⟨by decide, by decide⟩, fun _ z => z, ?_⟩
    intro d hd
    refine we_op ?_
    repeat' walk_at "lo"
    refine wr_ixO o1 i1 ?_
    repeat' walk_at "lo"
    refine ⟨_, 0, _, rfl, o2, rfl, ?_⟩
    repeat' walk_at "lo"
    exact finD "role" [d, y, z] ⟨_, hat, .inr (.inl ⟨d, rfl, .inl hd, rfl⟩)⟩
  · rename_i hpos
    have hpos : 0 < place := by simpa using hpos
    obtain ⟨prow, hpat⟩ : ∃ prow, rows[place - 1]? = some prow := ⟨_, List.getElem?_eq_getElem (by omega)⟩
    obtain ⟨pn, py, pz, hpr, hp0, hp5⟩ := hrow prow (List.mem_of_getElem? hpat)
    subst hpr
    have o3 := rows_row hpat
    have i3 : atI (psO rows.length) ((place : Int) - 1) = some (.p (2 + (place - 1))) := by
      have := ps_at (n := rows.length) (place := place - 1) (by omega)
      rw [show ((place : Int) - 1) = ((place - 1 : Nat) : Int) by omega]
      exact this
    have hprev : prevR rows place = pn := by
      unfold prevR
      rw [if_neg (by omega), hpat]
    refine wr_ixO o1 i3 ?_
    repeat' walk_at "lo"
    refine wr_ixO o3 (x := .d (.int pn)) rfl ?_
    repeat' walk_at "lo"
    refine wr_ixO o1 i3 ?_
    repeat' walk_at "lo"
    refine wr_ixO o3 (x := .d (.int pn)) rfl ?_
    repeat' walk_at "lo"
    rename_i k h0 h1
    refine wr_ixO o1 i1 ?_
    repeat' walk_at "lo"
    refine ⟨_, 0, _, rfl, o2, rfl, ?_⟩
    repeat' walk_at "lo"
    exact finD "role" [.int (pn - k), y, z] ⟨_, hat, .inr (.inl ⟨.int (pn - k), rfl, .inr ⟨_, rfl, by omega, by omega⟩, rfl⟩)⟩
  · refine ⟨(), rfl, trivial, fun _ z => z, ?_⟩
    intro d hd
    refine we_op ?_
    repeat' walk_at "lo"
    refine wr_ixO o1 i1 ?_
    repeat' walk_at "lo"
    rename_i k h0 h1
    have hk : k = 0 ∨ k = 1 := by omega
    rcases hk with rfl | rfl
    · refine ⟨_, 1, _, rfl, o2, rfl, ?_⟩
      repeat' walk_at "lo"
      exact finD "ending" [.int n, d, z] ⟨_, hat, .inr (.inr ⟨1, d, rfl, .inl rfl, hd, rfl⟩)⟩
    · refine ⟨_, 2, _, rfl, o2, rfl, ?_⟩
      repeat' walk_at "lo"
      exact finD "ending" [.int n, y, d] ⟨_, hat, .inr (.inr ⟨2, d, rfl, .inr rfl, hd, rfl⟩)⟩
  · refine ⟨(), rfl, trivial, fun _ z => z, ?_⟩
    intro d hd
    refine we_op ?_
    repeat' walk_at "lo"
    refine wr_ixO o1 i1 ?_
    repeat' walk_at "lo"
    rename_i k h0 h1
    have hk : k = 0 ∨ k = 1 := by omega
    rcases hk with rfl | rfl
    · refine ⟨_, 1, _, rfl, o2, rfl, ?_⟩
      repeat' walk_at "lo"
      exact finD "ending" [.int n, d, z] ⟨_, hat, .inr (.inr ⟨1, d, rfl, .inl rfl, hd, rfl⟩)⟩
    · refine ⟨_, 2, _, rfl, o2, rfl, ?_⟩
      repeat' walk_at "lo"
      exact finD "ending" [.int n, y, d] ⟨_, hat, .inr (.inr ⟨2, d, rfl, .inr rfl, hd, rfl⟩)⟩
theorem calO__law_spoilt (X : Txt P K mg a) : Cal P w K mg base 4 a.f__law_spoilt ["_law_hand_here", "_law_rows", "_law_place"] (SpO (TT K a) O_spoilt) [] := by
  obtain ⟨fd, F⟩ := X.F__law_spoilt
  exact ⟨fd, [], okO__law_spoilt X F, .nil, F.bindsN fun _ _ _ _ _ _ us hl => match us, hl with | [_, _, _], _ => rfl⟩
end
end L3
end
section
set_option Elab.async false
set_option linter.all false
set_option maxRecDepth 100000
set_option maxHeartbeats 1000000
namespace L3
open PySem PySem.Spec PyProof.Rows L2 PySem.W PySem.Calls Lo
/-- a thing that is told as a plain ending -/
def IsEn (y : D) (e : List Str) : Prop := items y = some (e.map .str)
/-- .. a row -/
def IsRw (u : D) (r : Rw) : Prop := ∃ y z, items u = some [.int r.role, y, z] ∧ IsEn y r.one ∧ IsEn z r.many
theorem part_str {x : D} (h : isPart x = true) : ∃ z : Str, x = .str z ∧ z.length ≤ 3 ∧ lett z = true := by
  cases x with
  | str z =>
    have h' : (decide ((z.length : Int) ≤ 3) && lett z) = true := h
    rw [Bool.and_eq_true, decide_eq_true_eq] at h'
    exact ⟨z, rfl, by omega, h'.2⟩
  | _ => cases h
theorem part_of {z : Str} (h : z.length ≤ 3) (hl : lett z = true) : isPart (.str z) = true := by
  show (decide ((z.length : Int) ≤ 3) && lett z) = true
  rw [hl, decide_eq_true (by omega)]
  rfl
theorem strs_of : ∀ {xs : List D}, (∀ x ∈ xs, isPart x = true) → ∃ e : List Str, xs = e.map .str ∧ ∀ z ∈ e, z.length ≤ 3 ∧ lett z = true
  | [], _ => ⟨[], rfl, fun _ h => nomatch h⟩
  | x :: xs, h => by
    obtain ⟨z, rfl, h1, h2⟩ := part_str (h x (by simp))
    obtain ⟨e, rfl, he⟩ := strs_of (xs := xs) fun y m => h y (by simp [m])
    refine ⟨z :: e, rfl, fun y hy => ?_⟩
    rcases List.mem_cons.mp hy with rfl | hy
    · exact ⟨h1, h2⟩
    · exact he y hy
theorem end_plain {y : D} (h : isEnding y = true) : ∃ e, IsEn y e ∧ okEn e := by
  unfold isEnding at h
  rw [Bool.and_eq_true] at h
  obtain ⟨xs, e, h1, h4⟩ := row_some h.1
  have h2 := h.2
  rw [e] at h2
  have h2' : xs.all isPart = true := h2
  obtain ⟨es, rfl, he⟩ := strs_of fun x m => List.all_eq_true.mp h2' x m
  rw [List.length_map] at h1 h4
  exact ⟨es, e, by omega, by omega, he⟩
theorem end_good {y : D} {e : List Str} (h : IsEn y e) (ok : okEn e) : isEnding y = true := by
  unfold isEnding
  rw [Bool.and_eq_true]
  refine ⟨?_, ?_⟩
  · unfold isRow
    rw [h]
    show (decide _ && decide _) = true
    rw [List.length_map, decide_eq_true (by have := ok.1; omega), decide_eq_true (by have := ok.2.1; omega)]
    rfl
  · rw [h]
    show (e.map D.str).all isPart = true
    rw [List.all_eq_true]
    intro x m
    obtain ⟨z, hz, rfl⟩ := List.mem_map.mp m
    exact part_of (ok.2.2 z hz).1 (ok.2.2 z hz).2
theorem rowT_of {u : D} {r : Rw} (h : IsRw u r) : rowT u = r.d := by
  obtain ⟨y, z, e, h1, h2⟩ := h
  unfold rowT
  rw [e]
  show D.tup [_, .tup ((items y).getD []), .tup ((items z).getD [])] = _
  rw [h1, h2]
  rfl
theorem roleOf_of {u : D} {r : Rw} (h : IsRw u r) : roleOf u = r.role := by
  obtain ⟨y, z, e, _, _⟩ := h
  unfold roleOf
  rw [e]
theorem rowF_none {u : D} {last : Int} (h : rowF last u = none) : ∃ r : Rw, IsRw u r ∧ okEn r.one ∧ okEn r.many ∧ last < r.role ∧ r.role ≤ 5 := by
  unfold rowF at h
  split at h
  · cases h
  · rename_i hr
    obtain ⟨x, y, z, ei⟩ := row3 (by simpa using hr)
    rw [ei] at h
    dsimp only at h
    split at h
    · cases h
    · rename_i hx
      split at h
      · cases h
      · rename_i hyz
        have hx : isWhole x (some (last + 1)) (some 5) = true := by simpa using hx
        obtain ⟨n, rfl⟩ : ∃ n, x = .int n := by
          cases x <;> first | exact ⟨_, rfl⟩ | (exact absurd hx (by simp [isWhole]))
        have hx' : (decide (last + 1 ≤ n) && decide (n ≤ 5)) = true := hx
        simp only [Bool.and_eq_true, decide_eq_true_eq] at hx'
        have hyz : (isEnding y && isEnding z) = true := by simpa using hyz
        rw [Bool.and_eq_true] at hyz
        obtain ⟨e1, i1, k1⟩ := end_plain hyz.1
        obtain ⟨e2, i2, k2⟩ := end_plain hyz.2
        exact ⟨⟨n, e1, e2⟩, ⟨y, z, ei, i1, i2⟩, k1, k2, by show last < n; omega, hx'.2⟩
theorem rowF_good {u : D} {last : Int} {r : Rw} (h : IsRw u r) (h1 : okEn r.one) (h2 : okEn r.many) (h3 : last < r.role) (h4 : r.role ≤ 5) : rowF last u = none := by
  obtain ⟨y, z, e, i1, i2⟩ := h
  unfold rowF
  have hr : isRow u 3 3 = true := by
    unfold isRow
    rw [e]
    rfl
  rw [if_neg (by rw [hr]; simp), e]
  dsimp only
  have hx : isWhole (.int r.role) (some (last + 1)) (some 5) = true := by
    show (decide _ && decide _) = true
    rw [decide_eq_true (by omega), decide_eq_true h4]
    rfl
  rw [if_neg (by rw [hx]; simp), if_neg (by rw [end_good i1 h1, end_good i2 h2]; simp)]
/-- things and rows, one by one, the roles rising -/
def Rise : Int → List D → List Rw → Prop
  | _, [], [] => True
  | last, u :: us, r :: rs => IsRw u r ∧ okEn r.one ∧ okEn r.many ∧ last < r.role ∧ r.role ≤ 5 ∧ Rise r.role us rs
  | _, _, _ => False
theorem tabF_rise : ∀ {us : List D} {last : Int}, tabF last us = none → ∃ rs, Rise last us rs
  | [], _, _ => ⟨[], trivial⟩
  | u :: us, last, h => by
    unfold tabF at h
    cases e : rowF last u with
    | some wd => rw [e] at h; cases h
    | none =>
      rw [e] at h
      obtain ⟨r, hr, h1, h2, h3, h4⟩ := rowF_none e
      rw [roleOf_of hr] at h
      obtain ⟨rs, hrs⟩ := tabF_rise h
      exact ⟨r :: rs, hr, h1, h2, h3, h4, hrs⟩
theorem rise_tabF : ∀ {us : List D} {rs : List Rw} {last : Int}, Rise last us rs → tabF last us = none
  | [], [], _, _ => rfl
  | u :: us, r :: rs, last, ⟨hr, h1, h2, h3, h4, h5⟩ => by
    unfold tabF
    rw [rowF_good hr h1 h2 h3 h4]
    show tabF (roleOf u) us = none
    rw [roleOf_of hr]
    exact rise_tabF h5
  | [], _ :: _, _, h => h.elim
  | _ :: _, [], _, h => h.elim
theorem rise_rowT : ∀ {us : List D} {rs : List Rw} {last : Int}, Rise last us rs → us.map rowT = rs.map Rw.d
  | [], [], _, _ => rfl
  | u :: us, r :: rs, last, ⟨hr, _, _, _, _, h5⟩ => by
    rw [List.map_cons, List.map_cons, rowT_of hr, rise_rowT h5]
  | [], _ :: _, _, h => h.elim
  | _ :: _, [], _, h => h.elim
theorem rise_ok : ∀ {us : List D} {rs : List Rw} {last : Int}, Rise last us rs → -1 ≤ last → ∀ r ∈ rs, okRw r
  | [], [], _, _, _ => fun _ h => nomatch h
  | u :: us, r :: rs, last, ⟨hr, h1, h2, h3, h4, h5⟩, hl => fun x hx => by
    rcases List.mem_cons.mp hx with rfl | hx
    · exact ⟨h1, h2, by omega, h4⟩
    · exact rise_ok h5 (by omega) x hx
  | [], _ :: _, _, h, _ => h.elim
  | _ :: _, [], _, h, _ => h.elim
theorem rise_len : ∀ {us : List D} {rs : List Rw} {last : Int}, Rise last us rs → us.length = rs.length
  | [], [], _, _ => rfl
  | u :: us, r :: rs, last, ⟨_, _, _, _, _, h5⟩ => by
    rw [List.length_cons, List.length_cons, rise_len h5]
  | [], _ :: _, _, h => h.elim
  | _ :: _, [], _, h => h.elim
/-- a right table is told by plain rows -/
theorem tab_plain {t : D} (h : tabW t = none) : ∃ us rs, items t = some us ∧ Rise (-1) us rs ∧ tabT t = tbD rs ∧ 1 ≤ rs.length ∧ rs.length ≤ 6 ∧ ∀ r ∈ rs, okRw r := by
  unfold tabW at h
  split at h
  · cases h
  · rename_i hk
    obtain ⟨us, e, h1, h6⟩ := row_some (by simpa using hk : isRow t 1 6 = true)
    rw [e] at h
    have h' : tabF (-1) us = none := h
    obtain ⟨rs, hr⟩ := tabF_rise h'
    have hl := rise_len hr
    refine ⟨us, rs, e, hr, ?_, by omega, by omega, rise_ok hr (Int.le_refl _)⟩
    unfold tabT
    rw [e]
    show D.tup (us.map rowT) = _
    rw [rise_rowT hr]
    rfl
/-- .. and such rows make a right table -/
theorem tab_good {t : D} {us : List D} {rs : List Rw} (e : items t = some us) (hr : Rise (-1) us rs) (h1 : 1 ≤ rs.length) (h6 : rs.length ≤ 6) : tabW t = none ∧ tabT t = tbD rs := by
  have hl := rise_len hr
  have hk : isRow t 1 6 = true := by
    unfold isRow
    rw [e]
    show (decide _ && decide _) = true
    rw [decide_eq_true (by omega), decide_eq_true (by omega)]
    rfl
  refine ⟨?_, ?_⟩
  · unfold tabW
    rw [if_neg (by rw [hk]; simp), e]
    exact rise_tabF hr
  · unfold tabT
    rw [e]
    show D.tup (us.map rowT) = _
    rw [rise_rowT hr]
    rfl
end L3
end
section
set_option Elab.async false
set_option linter.all false
set_option maxRecDepth 100000
set_option maxHeartbeats 1000000
namespace L3
open PySem PySem.Spec PyProof.Rows L2 PySem.W PySem.Calls Lo
local macro_rules | `(tactic| walk_at "sd") => `(tactic| first | exact .d | rfl | assumption | (with_reducible decide) | omega | exact .nil | exact AllD.nil)
local macro_rules | `(tactic| walk_at "we") => `(tactic| first
  | ((with_reducible refine' we_var ?hv ?_); (case hv => rfl))
  | (with_reducible refine we_int ?_)
  | (with_reducible refine we_op ?_)
  | (with_reducible refine we_str ?_)
  | (with_reducible refine we_isi ?_)
  | (with_reducible refine we_isi2 ?_)
  | (with_reducible refine we_cb ?_)
  | (with_reducible refine we_andV ?_)
  | (with_reducible refine we_orV ?_)
  | (with_reducible refine we_notV ?_)
  | (with_reducible refine we_non ?_)
  | (with_reducible refine we_bl ?_)
  | (with_reducible refine we_if ?_)
  | (with_reducible refine we_un ?_)
  | (with_reducible refine we_cal0 ?_)
  | (with_reducible refine we_cal2 ?_)
  | (with_reducible refine we_calH ?_)
  | (with_reducible refine we_prp ?_)
  | (with_reducible refine we_tup ?_)
  | (with_reducible refine we_chain ?_))
local macro_rules | `(tactic| walk_at "ws") => `(tactic| first
  | (with_reducible refine ws_seq ?_)
  | (with_reducible refine ws_if ?_)
  | (with_reducible refine ws_set ?_)
  | (with_reducible refine ws_ret ?_)
  | (with_reducible refine ws_next ?_)
  | (with_reducible refine ws_drop ?_)
  | (with_reducible refine ws_retN ?_))
local macro_rules | `(tactic| walk_at "wt") => `(tactic| first
  | (with_reducible refine wt_test ?_)
  | (with_reducible refine wt_B ?_)
  | (with_reducible refine wt_and ?_)
  | (with_reducible refine wt_or ?_)
  | (with_reducible refine wt_not ?_))
local macro_rules | `(tactic| walk_at "wr") => `(tactic| first
  | (with_reducible refine wr_addI ?_)
  | (with_reducible refine wr_leI ?_)
  | (with_reducible refine wr_B0 ?_)
  | (with_reducible refine wr_I0 ?_)
  | (with_reducible refine wr_isN ?_)
  | (with_reducible refine wr_notN ?_)
  | (with_reducible refine wr_leS ?_)
  | ((with_reducible refine' wr_ixL ?hv ?_); (case hv => rfl))
  | ((with_reducible refine' wr_ixT ?hv ?_); (case hv => rfl))
  | ((with_reducible refine' wr_ixO ?hv ?hw ?_); (case hv => rfl); (case hw => rfl))
  | ((with_reducible refine' wr_eqD ?h1 ?h2 ?h3 ?h4 ?_); (case h1 => exact .d); (case h2 => exact .d); (case h3 => rfl); (case h4 => rfl))
  | ((with_reducible refine' wr_neD ?h1 ?h2 ?h3 ?h4 ?_); (case h1 => exact .d); (case h2 => exact .d); (case h3 => rfl); (case h4 => rfl)))
local macro_rules | `(tactic| walk_at "da") => `(tactic| first
  | (with_reducible refine ⟨_, rfl, ?_⟩)
  | (with_reducible refine ⟨fun _ => ?_, fun h => Bool.noConfusion h⟩)
  | (with_reducible refine ⟨fun h => Bool.noConfusion h, fun _ => ?_⟩)
  | (with_reducible refine ⟨_, rfl, ?_, ?_⟩)
  | ((with_reducible refine' ⟨_, _, .d, ?h1, ?h2, ?_⟩); (case h1 => walk_at "sd"); (case h2 => rfl))
  | ((with_reducible refine' ⟨_, _, _, .d, ?h1, ?h2, ?h3, ?_⟩); (case h1 => walk_at "sd"); (case h2 => rfl); (case h3 => rfl))
  | (with_reducible refine ⟨fun hk => ?_, fun hk => ?_⟩)
  | (show ∃ d, SV.d _ = SV.d d ∧ _; with_reducible refine ⟨_, rfl, ?_⟩))
local macro_rules | `(tactic| walk_at "lo") => `(tactic| first
  | ((with_reducible show Lo.WE _ _ _ _ _ _); walk_at "we")
  | ((with_reducible show Lo.WA _ _ _ _ _ _); first | (with_reducible refine wa_cons ?_) | (with_reducible refine wa_nil ?_))
  | ((with_reducible show Lo.WS _ _ _ _ _ _); walk_at "ws")
  | ((with_reducible show Lo.WT _ _ _ _ _ _); walk_at "wt")
  | ((with_reducible show Lo.WR _ _ _ _ _ _ _); walk_at "wr")
  | ((with_reducible show Lo.WU _ _ _ _ _ _); (with_reducible refine wu_neg ?_))
  | ((with_reducible show Lo.WC _ _ _ _ _ _); first | ((with_reducible refine' wc_len ?hv ?_); (case hv => rfl)) | (with_reducible refine wc_int ?_))
  | walk_at "da")
local macro_rules | `(tactic| walk_at "wq") => `(tactic| first
  | (with_reducible refine ws_seq (t := tAsg _ _) ?_)
  | (with_reducible refine ws_seq (t := tDrop _) ?_)
  | (with_reducible refine ws_set ?_)
  | (with_reducible refine ws_ret ?_)
  | (with_reducible refine ws_next ?_)
  | (with_reducible refine ws_drop ?_)
  | (with_reducible refine ws_retN ?_))
local macro_rules | `(tactic| walk_at "lq") => `(tactic| first
  | ((with_reducible show Lo.WE _ _ _ _ _ _); walk_at "we")
  | ((with_reducible show Lo.WA _ _ _ _ _ _); first | (with_reducible refine wa_cons ?_) | (with_reducible refine wa_nil ?_))
  | ((with_reducible show Lo.WS _ _ _ _ _ _); walk_at "wq")
  | ((with_reducible show Lo.WT _ _ _ _ _ _); walk_at "wt")
  | ((with_reducible show Lo.WR _ _ _ _ _ _ _); walk_at "wr")
  | ((with_reducible show Lo.WU _ _ _ _ _ _); (with_reducible refine wu_neg ?_))
  | ((with_reducible show Lo.WC _ _ _ _ _ _); first | ((with_reducible refine' wc_len ?hv ?_); (case hv => rfl)) | (with_reducible refine wc_int ?_))
  | walk_at "da")
local macro_rules | `(tactic| walk_at "ws") => `(tactic| (with_reducible refine ws_sub ?_))
local macro_rules | `(tactic| walk_at "wq") => `(tactic| (with_reducible refine ws_sub ?_))
local macro_rules | `(tactic| walk_at "da") => `(tactic| ((with_reducible show ∃ (i : Int) (j : Nat) (ss : List SV), SV.d (D.int _) = SV.d (D.int i) ∧ _); refine ⟨_, _, _, rfl, (rfl : _ = some (OW.lst _)), rfl, ?_⟩))
local macro_rules | `(tactic| walk_at "da") => `(tactic| ((with_reducible show ∃ (k : Nat) (ss : List SV), SV.p _ = SV.p k ∧ _); refine ⟨_, _, rfl, (rfl : _ = some (OW.lst _)), ?_⟩))
local macro_rules | `(tactic| walk_at "we") => `(tactic| (with_reducible refine we_bm ?_))
local macro_rules | `(tactic| walk_at "lo") => `(tactic| ((with_reducible show Lo.WC _ _ (Lo.rLen _) _ [SV.p _] _); refine wc_lenO (rfl : _ = some (OW.lst _)) ?_))
local macro_rules | `(tactic| walk_at "lq") => `(tactic| ((with_reducible show Lo.WC _ _ (Lo.rLen _) _ [SV.p _] _); refine wc_lenO (rfl : _ = some (OW.lst _)) ?_))
local macro_rules | `(tactic| walk_at "da") => `(tactic| ((with_reducible show ∃ (k : Nat) (sr : List SV) (xs : List D), [SV.p _] = SV.p k :: sr ∧ _); refine ⟨_, _, _, rfl, (rfl : _ = some OW.hand), .nil, ?_⟩))
local macro_rules | `(tactic| walk_at "da") => `(tactic| ((with_reducible show ∃ (k : Nat) (sr : List SV) (xs : List D), [SV.p _, SV.d _] = SV.p k :: sr ∧ _); refine ⟨_, _, _, rfl, (rfl : _ = some OW.hand), .cons .nil, ?_⟩))
local macro_rules | `(tactic| walk_at "da") => `(tactic| ((with_reducible show ∃ (k : Nat) (sr : List SV) (xs : List D), [SV.p _, SV.d _, SV.d _] = SV.p k :: sr ∧ _); refine ⟨_, _, _, rfl, (rfl : _ = some OW.hand), .cons (.cons .nil), ?_⟩))
local macro_rules | `(tactic| walk_at "da") => `(tactic| ((with_reducible show ∃ (xs : List D), AllD [] xs ∧ _); refine ⟨_, .nil, ?_⟩))
local macro_rules | `(tactic| walk_at "da") => `(tactic| ((with_reducible show ∃ (xs : List D), AllD [SV.d _] xs ∧ _); refine ⟨_, .cons .nil, ?_⟩))
local macro_rules | `(tactic| walk_at "da") => `(tactic| ((with_reducible show ∃ (xs : List D), AllD [SV.d _, SV.d _] xs ∧ _); refine ⟨_, .cons (.cons .nil), ?_⟩))
local macro_rules | `(tactic| walk_at "da") => `(tactic| ((with_reducible show ∃ (xs : List D), AllD [SV.d _, SV.d _, SV.d _] xs ∧ _); refine ⟨_, .cons (.cons (.cons .nil)), ?_⟩))
local macro_rules | `(tactic| walk_at "da") => `(tactic| ((with_reducible show ∃ (xs : List D), AllD [SV.d _, SV.d _, SV.d _, SV.d _] xs ∧ _); refine ⟨_, .cons (.cons (.cons (.cons .nil))), ?_⟩))
local macro_rules | `(tactic| walk_at "lo") => `(tactic| ((with_reducible show Lo.WO _ _ _ _ _ _); first | (with_reducible refine wo_none ?_) | (with_reducible refine wo_some ?_)))
local macro_rules | `(tactic| walk_at "lq") => `(tactic| ((with_reducible show Lo.WO _ _ _ _ _ _); first | (with_reducible refine wo_none ?_) | (with_reducible refine wo_some ?_)))
local macro_rules | `(tactic| walk_at "da") => `(tactic| first | ((with_reducible refine' takeG ?h ?_); (case h => (constructor <;> omega)); (intro k h0 h1)) | fail "no")
local macro_rules | `(tactic| walk_at "wr") => `(tactic| first | ((with_reducible refine' wr_pow ?h ?_); (case h => exact ⟨by decide, by decide, by decide⟩)) | fail "no")
local macro_rules | `(tactic| walk_at "we") => `(tactic| first | (with_reducible refine we_dnew ?_) | (with_reducible refine we_setd ?_) | (with_reducible refine we_dget ?_) | (with_reducible refine we_dget2 ?_) | (with_reducible refine we_sadd ?_) | fail "no")
local macro_rules | `(tactic| walk_at "lo") => `(tactic| ((with_reducible show Lo.WC _ _ (rSet0 _) _ _ _); refine wc_set0 ?_))
local macro_rules | `(tactic| walk_at "da") => `(tactic| ((with_reducible show ∃ (ks : List L2.Key) (vs : List D), SV.d (D.dct _ _) = SV.d (D.dct ks vs) ∧ _); refine ⟨_, _, rfl, ?_⟩))
local macro_rules | `(tactic| walk_at "da") => `(tactic| ((with_reducible show ∃ (dy : D) (key : L2.Key), SV.d (D.int _) = SV.d dy ∧ _); refine ⟨_, _, rfl, rfl, ?_⟩))
local macro_rules | `(tactic| walk_at "we") => `(tactic| first | (with_reducible refine we_bm0 ?_) | fail "no")
local macro_rules | `(tactic| walk_at "wr") => `(tactic| first | ((with_reducible show WR _ _ (rSNotIn _) _ _ _ _); refine wr_snotin (rfl : _ = some (oSet _ _ _)) ?_) | fail "no")
local macro_rules | `(tactic| walk_at "da") => `(tactic| ((with_reducible show ∃ (k : Nat) (S : Int → Bool) (n : Nat), SV.p _ = SV.p k ∧ _); refine ⟨_, _, _, rfl, (rfl : _ = some (oSet _ _ _)), ?_⟩))

local macro_rules | `(tactic| walk_at "lo") => `(tactic| ((with_reducible show List.length _ ≤ 100000 ∧ _); first | (refine ⟨Nat.le_of_ble_eq_true rfl, ?_⟩) | fail "no"))
local macro_rules | `(tactic| walk_at "lq") => `(tactic| ((with_reducible show List.length _ ≤ 100000 ∧ _); first | (refine ⟨Nat.le_of_ble_eq_true rfl, ?_⟩) | fail "no"))
local macro_rules | `(tactic| walk_at "lo") => `(tactic| ((with_reducible show ∃ (xs : List D), AllD [SV.d _, SV.d _, SV.d _, SV.d _, SV.d _] xs ∧ _); refine ⟨_, .cons (.cons (.cons (.cons (.cons .nil)))), ?_⟩))
local macro_rules | `(tactic| walk_at "lq") => `(tactic| ((with_reducible show ∃ (xs : List D), AllD [SV.d _, SV.d _, SV.d _, SV.d _, SV.d _] xs ∧ _); refine ⟨_, .cons (.cons (.cons (.cons (.cons .nil)))), ?_⟩))
local macro_rules | `(tactic| walk_at "lo") => `(tactic| ((with_reducible show ∃ (xs : List D), AllD [SV.d _, SV.d _, SV.d _, SV.d _, SV.d _, SV.d _] xs ∧ _); refine ⟨_, .cons (.cons (.cons (.cons (.cons (.cons .nil))))), ?_⟩))
local macro_rules | `(tactic| walk_at "lq") => `(tactic| ((with_reducible show ∃ (xs : List D), AllD [SV.d _, SV.d _, SV.d _, SV.d _, SV.d _, SV.d _] xs ∧ _); refine ⟨_, .cons (.cons (.cons (.cons (.cons (.cons .nil))))), ?_⟩))
local macro_rules | `(tactic| walk_at "lo") => `(tactic| ((with_reducible show ∃ (xs : List D), AllD [SV.d _, SV.d _, SV.d _, SV.d _, SV.d _, SV.d _, SV.d _] xs ∧ _); refine ⟨_, .cons (.cons (.cons (.cons (.cons (.cons (.cons .nil)))))), ?_⟩))
local macro_rules | `(tactic| walk_at "lq") => `(tactic| ((with_reducible show ∃ (xs : List D), AllD [SV.d _, SV.d _, SV.d _, SV.d _, SV.d _, SV.d _, SV.d _] xs ∧ _); refine ⟨_, .cons (.cons (.cons (.cons (.cons (.cons (.cons .nil)))))), ?_⟩))
local macro_rules | `(tactic| walk_at "lo") => `(tactic| ((with_reducible show ∃ (xs : List D), AllD [SV.d _, SV.d _, SV.d _, SV.d _, SV.d _, SV.d _, SV.d _, SV.d _] xs ∧ _); refine ⟨_, .cons (.cons (.cons (.cons (.cons (.cons (.cons (.cons .nil))))))), ?_⟩))
local macro_rules | `(tactic| walk_at "lq") => `(tactic| ((with_reducible show ∃ (xs : List D), AllD [SV.d _, SV.d _, SV.d _, SV.d _, SV.d _, SV.d _, SV.d _, SV.d _] xs ∧ _); refine ⟨_, .cons (.cons (.cons (.cons (.cons (.cons (.cons (.cons .nil))))))), ?_⟩))
local macro_rules | `(tactic| walk_at "lo") => `(tactic| ((with_reducible show Lo.WE _ _ (tLst (tCons _ _)) _ _ _); refine we_lst ?_))
local macro_rules | `(tactic| walk_at "lq") => `(tactic| ((with_reducible show Lo.WE _ _ (tLst (tCons _ _)) _ _ _); refine we_lst ?_))
local macro_rules | `(tactic| walk_at "lo") => `(tactic| ((with_reducible show Lo.WE _ _ (tDisp [(tC (V.str _), tC (V.str _))]) _ _ _); refine we_disp1 (d := .str _) (fun _ => rfl) ?_))
local macro_rules | `(tactic| walk_at "lq") => `(tactic| ((with_reducible show Lo.WE _ _ (tDisp [(tC (V.str _), tC (V.str _))]) _ _ _); refine we_disp1 (d := .str _) (fun _ => rfl) ?_))
local macro_rules | `(tactic| walk_at "lo") => `(tactic| ((with_reducible show Lo.WE _ _ (tDisp [(tC (V.str _), tC (V.int _))]) _ _ _); refine we_disp1 (d := .int _) (fun _ => rfl) ?_))
local macro_rules | `(tactic| walk_at "lq") => `(tactic| ((with_reducible show Lo.WE _ _ (tDisp [(tC (V.str _), tC (V.int _))]) _ _ _); refine we_disp1 (d := .int _) (fun _ => rfl) ?_))
local macro_rules | `(tactic| walk_at "wr") => `(tactic| first | (with_reducible refine wr_notB ?_) | (with_reducible refine wr_isB ?_) | fail "no")
local macro_rules | `(tactic| walk_at "we") => `(tactic| first | (with_reducible refine we_calK ?_) | fail "no")
local macro_rules | `(tactic| walk_at "da") => `(tactic| ((with_reducible show ∃ (x : D), [SV.d _] = [SV.d x] ∧ _); refine ⟨_, rfl, ?_⟩))

local macro_rules | `(tactic| walk_at "we") => `(tactic| first
  | (with_reducible refine we_st0 (by assumption) ?_)
  | (with_reducible refine we_st1 (by assumption) ?_)
  | fail "no")
/-- all endings of the rows -/
def ensOf (rows : List Rw) : List (List Str) := rows.flatMap fun r => [r.one, r.many]
def hhE (u : D) : List D := match u with | .tup (_ :: xs) => xs | _ => []
theorem ens_flat : ∀ rows : List Rw, ((rows.map Rw.d).flatMap fun x => (hhE x).map (fun y => y)) = (ensOf rows).map txD
  | [] => rfl
  | r :: rows => by
    have ih := ens_flat rows
    rw [List.map_cons, List.flatMap_cons, ih]
    rfl
theorem ens_len (rows : List Rw) : (ensOf rows).length = 2 * rows.length := by
  induction rows with
  | nil => rfl
  | cons r rows ih =>
    show ([r.one, r.many] ++ ensOf rows).length = _
    rw [List.length_append, ih, List.length_cons]
    show 2 + 2 * rows.length = 2 * (rows.length + 1)
    omega
theorem ens_ok {rows : List Rw} (h : ∀ r ∈ rows, okRw r) : ∀ e ∈ ensOf rows, okEn e := fun e he => by
  obtain ⟨r, hr, he⟩ := List.mem_flatMap.mp he
  rcases List.mem_cons.mp he with rfl | he
  · exact (h r hr).1
  · rw [List.mem_singleton.mp he]
    exact (h r hr).2.1
theorem okEn_ne {e : List Str} (h : okEn e) : e ≠ [] := fun z => by
  have := h.1
  rw [z] at this
  cases this
section
variable {P : Program} {w : World} {K : Frag} {mg : Str → Option Value} {base : Heap} {a : Ad}
abbrev F_Stock_endings : DF := Fv (ι := Stk) (fun i => [i.d]) (fun i => okStk i) (fun i d => ∃ es, TX.Srt (ensOf i.rows) es ∧ d = .tup (es.map txD)) noErr
theorem ok_Stock_endings {fd} (X : Txt P K mg a) (F : DefAt K "endings" "Stock.endings" s_Stock_endings [] a.f_Stock_endings fd) : FnOk P w K mg base (L2.CX P w) 1 a.f_Stock_endings fd ["self"] (SpP (TT K a) F_Stock_endings) := by
  refine okP (fun i => [some (.d (i.d)), none, none]) F sc_Stock_endings (fun _ => rfl) fun cdv A outer s H E hr => 
   have hu := hr.units
   ⟨_, 
   (pss_one (ps_ret (pe_callTy call_tupA (by rfl) X.n_tuple (by decide +kernel) (pa_cons (pe_callB (TX.cr_sortTx rfl hu) (by rfl) X.n_sorted (by decide +kernel) (pa_cons (pe_callTy (TX.cr_setTx rfl hu) (by rfl) X.n_set (by decide +kernel) (pa_cons (pe_lc2 (vs1 := [2]) (by rfl) sc_Stock_endings.nd (pi_seq (pe_fld (pv 0) rfl)) (blkOk_by (own := [("row", 1), ("ending", 2)]) (N := N_Stock_endings) (sc := defScope s_Stock_endings) (by decide +kernel)) (by decide) (fun _ _ _ _ _ => (pg_name (i := 1) sc_Stock_endings.nd rfl (Or.inl rfl))) (fun _ _ _ _ _ => pts_nil) (fun _ _ _ _ _ => (kSeq (K := K) rfl (pe_slice (kSl K rSlAny rfl sl_any) (pv 1) (po_some pe_int) po_none))) (fun _ _ _ _ _ => (pg_name (i := 2) sc_Stock_endings.nd rfl (Or.inl rfl))) (fun _ _ _ _ _ => pts_nil) (fun _ _ _ _ _ => (pv 2))) pa_nil)) pa_nil)) pa_nil)))), fun b f hp hx => ?_⟩
  dsimp only [CxB, L2.cxOf] at hp ⊢
  refine ws_ret (we_cb (wa_cons ?_))
  refine we_ssetTx rfl ?_
  refine wa_cons ?_
  refine we_lc2f (js := [1]) (js1 := [2]) (by decide) (by decide) hhE (fun _ y => y) (wi_seq ?_)
  repeat' walk_at "lq"
  refine ⟨_, .inr rfl, Nat.le_refl _, OwP_nil, ?_, ?_, ?_⟩
  · rw [ens_flat, List.length_map, ens_len]
    have := hp.n
    omega
  · intro x acc hm
    obtain ⟨r, hr, rfl⟩ := List.mem_map.mp hm
    refine wg_name ⟨rfl, wi_seq (we_sl ?_)⟩
    repeat' walk_at "lq"
    refine .inr (.inl ⟨_, rfl, _, .inr rfl, rfl, rfl, fun y acc2 hy => wg_name ?_⟩)
    repeat' walk_at "lq"
    exact ⟨rfl, rfl⟩
  · rw [ens_flat]
    refine wa_nil ?_
    refine ⟨ensOf f.rows, rfl, by rw [ens_len]; have := hp.n; omega, fun e he => okEn_ne (ens_ok hp.r e he), fun es hs o => ?_⟩
    repeat' walk_at "lq"
    refine wc_tup (.inl rfl) ?_
    exact ⟨_, rfl, es, hs, rfl⟩
theorem cal_Stock_endings (X : Txt P K mg a) : Cal P w K mg base 1 a.f_Stock_endings ["self"] (SpP (TT K a) F_Stock_endings) [] := by
  obtain ⟨fd, F⟩ := X.F_Stock_endings
  exact ⟨fd, [], ok_Stock_endings X F, .nil, F.bindsN fun _ _ _ _ _ _ us hl => match us, hl with | [_], _ => rfl⟩
end
end L3
end
section
set_option Elab.async false
set_option linter.all false
set_option autoImplicit false
set_option maxRecDepth 100000
set_option maxHeartbeats 1000000
/-! x in xs, of nested data -/
namespace Lo
open PySem PySem.Spec PyProof.Rows L2 Evl
theorem hu65 {k : Nat} {A : Around} (r : Room k A) : A.units + 65 < cLine := by
  have := r.un
  omega
theorem eqv_self {d : D} (h : d.okd = true) : d.eqv d = true := by
  simp only [D.okd, Bool.and_eq_true] at h
  exact SeqAt.eqv_refl _ (SeqAt.canLay_of_shaped h.2)
theorem pyL_map : ∀ xs : List D, D.pyL xs = xs.map D.py
  | [] => rfl
  | x :: xs => by
    rw [D.pyL, pyL_map xs]
    rfl
section
variable {T : Tb} {b : Bd} {own : List OW} {P : PSv}
def D.among (x : D) (xs : List D) : Bool := xs.any fun z => z.eqv x
theorem among_py (x : D) (xs : List D) : (xs.map D.py).any (fun z => PyData.eqv z x.py) = x.among xs := by
  unfold D.among
  rw [List.any_map]
  rfl
theorem wr_inDL {x y : SV} {dx : D} {xs : List D} (tx : Thw own x dx) (ty : Thw own y (.lst xs)) (fx : dx.okd = true) (fy : (D.lst xs).okd = true) (p : P (.d (.bl (dx.among xs))) own) : WR T b (rInD T.K) own x y P := fun W vx vy ha rx ry Q q => by
  simp only [D.okd, Bool.and_eq_true] at fx fy
  have e : (D.lst xs).py = .list (xs.map D.py) := by rw [D.py, pyL_map]
  have h2 := Rep.dp fy.1 (ty.rep ha ry)
  rw [e] at h2
  refine ⟨_, _, Rep.dp fx.1 (tx.rep ha rx), h2, fx.2, e ▸ fy.2, ?_⟩
  rw [among_py]
  exact q _ (.d (.bl (dx.among xs))) own W ha (Le.refl W) rfl p
theorem wr_notInDL {x y : SV} {dx : D} {xs : List D} (tx : Thw own x dx) (ty : Thw own y (.lst xs)) (fx : dx.okd = true) (fy : (D.lst xs).okd = true) (p : P (.d (.bl (!dx.among xs))) own) : WR T b (rNotInD T.K) own x y P := fun W vx vy ha rx ry Q q => by
  simp only [D.okd, Bool.and_eq_true] at fx fy
  have e : (D.lst xs).py = .list (xs.map D.py) := by rw [D.py, pyL_map]
  have h2 := Rep.dp fy.1 (ty.rep ha ry)
  rw [e] at h2
  refine ⟨_, _, Rep.dp fx.1 (tx.rep ha rx), h2, fx.2, e ▸ fy.2, ?_⟩
  rw [among_py]
  exact q _ (.d (.bl (!dx.among xs))) own W ha (Le.refl W) rfl p
theorem among_iff {x : D} {xs : List D} (hx : x.isp = true) (h : ∀ z ∈ xs, z.isp = true) : x.among xs = true ↔ x ∈ xs := by
  unfold D.among
  rw [List.any_eq_true]
  exact ⟨fun ⟨z, hz, e⟩ => (eqv_isp z x (h z hz) hx).mp e ▸ hz, fun m => ⟨x, m, (eqv_isp x x hx hx).mpr rfl⟩⟩
end
end Lo
end
section
set_option Elab.async false
set_option linter.all false
set_option maxRecDepth 100000
set_option maxHeartbeats 1000000
namespace L3
open PySem PySem.Spec PyProof.Rows L2 PySem.W PySem.Calls Lo
local macro_rules | `(tactic| walk_at "sd") => `(tactic| first | exact .d | rfl | assumption | (with_reducible decide) | omega | exact .nil | exact AllD.nil)
local macro_rules | `(tactic| walk_at "we") => `(tactic| first
  | ((with_reducible refine' we_var ?hv ?_); (case hv => rfl))
  | (with_reducible refine we_int ?_)
  | (with_reducible refine we_op ?_)
  | (with_reducible refine we_str ?_)
  | (with_reducible refine we_isi ?_)
  | (with_reducible refine we_isi2 ?_)
  | (with_reducible refine we_cb ?_)
  | (with_reducible refine we_andV ?_)
  | (with_reducible refine we_orV ?_)
  | (with_reducible refine we_notV ?_)
  | (with_reducible refine we_non ?_)
  | (with_reducible refine we_bl ?_)
  | (with_reducible refine we_if ?_)
  | (with_reducible refine we_un ?_)
  | (with_reducible refine we_cal0 ?_)
  | (with_reducible refine we_cal2 ?_)
  | (with_reducible refine we_calH ?_)
  | (with_reducible refine we_prp ?_)
  | (with_reducible refine we_tup ?_)
  | (with_reducible refine we_chain ?_))
local macro_rules | `(tactic| walk_at "ws") => `(tactic| first
  | (with_reducible refine ws_seq ?_)
  | (with_reducible refine ws_if ?_)
  | (with_reducible refine ws_set ?_)
  | (with_reducible refine ws_ret ?_)
  | (with_reducible refine ws_next ?_)
  | (with_reducible refine ws_drop ?_)
  | (with_reducible refine ws_retN ?_))
local macro_rules | `(tactic| walk_at "wt") => `(tactic| first
  | (with_reducible refine wt_test ?_)
  | (with_reducible refine wt_B ?_)
  | (with_reducible refine wt_and ?_)
  | (with_reducible refine wt_or ?_)
  | (with_reducible refine wt_not ?_))
local macro_rules | `(tactic| walk_at "wr") => `(tactic| first
  | (with_reducible refine wr_addI ?_)
  | (with_reducible refine wr_leI ?_)
  | (with_reducible refine wr_B0 ?_)
  | (with_reducible refine wr_I0 ?_)
  | (with_reducible refine wr_isN ?_)
  | (with_reducible refine wr_notN ?_)
  | (with_reducible refine wr_leS ?_)
  | ((with_reducible refine' wr_ixL ?hv ?_); (case hv => rfl))
  | ((with_reducible refine' wr_ixT ?hv ?_); (case hv => rfl))
  | ((with_reducible refine' wr_ixO ?hv ?hw ?_); (case hv => rfl); (case hw => rfl))
  | ((with_reducible refine' wr_eqD ?h1 ?h2 ?h3 ?h4 ?_); (case h1 => exact .d); (case h2 => exact .d); (case h3 => rfl); (case h4 => rfl))
  | ((with_reducible refine' wr_neD ?h1 ?h2 ?h3 ?h4 ?_); (case h1 => exact .d); (case h2 => exact .d); (case h3 => rfl); (case h4 => rfl)))
local macro_rules | `(tactic| walk_at "da") => `(tactic| first
  | (with_reducible refine ⟨_, rfl, ?_⟩)
  | (with_reducible refine ⟨fun _ => ?_, fun h => Bool.noConfusion h⟩)
  | (with_reducible refine ⟨fun h => Bool.noConfusion h, fun _ => ?_⟩)
  | (with_reducible refine ⟨_, rfl, ?_, ?_⟩)
  | ((with_reducible refine' ⟨_, _, .d, ?h1, ?h2, ?_⟩); (case h1 => walk_at "sd"); (case h2 => rfl))
  | ((with_reducible refine' ⟨_, _, _, .d, ?h1, ?h2, ?h3, ?_⟩); (case h1 => walk_at "sd"); (case h2 => rfl); (case h3 => rfl))
  | (with_reducible refine ⟨fun hk => ?_, fun hk => ?_⟩)
  | (show ∃ d, SV.d _ = SV.d d ∧ _; with_reducible refine ⟨_, rfl, ?_⟩))
local macro_rules | `(tactic| walk_at "lo") => `(tactic| first
  | ((with_reducible show Lo.WE _ _ _ _ _ _); walk_at "we")
  | ((with_reducible show Lo.WA _ _ _ _ _ _); first | (with_reducible refine wa_cons ?_) | (with_reducible refine wa_nil ?_))
  | ((with_reducible show Lo.WS _ _ _ _ _ _); walk_at "ws")
  | ((with_reducible show Lo.WT _ _ _ _ _ _); walk_at "wt")
  | ((with_reducible show Lo.WR _ _ _ _ _ _ _); walk_at "wr")
  | ((with_reducible show Lo.WU _ _ _ _ _ _); (with_reducible refine wu_neg ?_))
  | ((with_reducible show Lo.WC _ _ _ _ _ _); first | ((with_reducible refine' wc_len ?hv ?_); (case hv => rfl)) | (with_reducible refine wc_int ?_))
  | walk_at "da")
local macro_rules | `(tactic| walk_at "wq") => `(tactic| first
  | (with_reducible refine ws_seq (t := tAsg _ _) ?_)
  | (with_reducible refine ws_seq (t := tDrop _) ?_)
  | (with_reducible refine ws_set ?_)
  | (with_reducible refine ws_ret ?_)
  | (with_reducible refine ws_next ?_)
  | (with_reducible refine ws_drop ?_)
  | (with_reducible refine ws_retN ?_))
local macro_rules | `(tactic| walk_at "lq") => `(tactic| first
  | ((with_reducible show Lo.WE _ _ _ _ _ _); walk_at "we")
  | ((with_reducible show Lo.WA _ _ _ _ _ _); first | (with_reducible refine wa_cons ?_) | (with_reducible refine wa_nil ?_))
  | ((with_reducible show Lo.WS _ _ _ _ _ _); walk_at "wq")
  | ((with_reducible show Lo.WT _ _ _ _ _ _); walk_at "wt")
  | ((with_reducible show Lo.WR _ _ _ _ _ _ _); walk_at "wr")
  | ((with_reducible show Lo.WU _ _ _ _ _ _); (with_reducible refine wu_neg ?_))
  | ((with_reducible show Lo.WC _ _ _ _ _ _); first | ((with_reducible refine' wc_len ?hv ?_); (case hv => rfl)) | (with_reducible refine wc_int ?_))
  | walk_at "da")
local macro_rules | `(tactic| walk_at "ws") => `(tactic| (with_reducible refine ws_sub ?_))
local macro_rules | `(tactic| walk_at "wq") => `(tactic| (with_reducible refine ws_sub ?_))
local macro_rules | `(tactic| walk_at "da") => `(tactic| ((with_reducible show ∃ (i : Int) (j : Nat) (ss : List SV), SV.d (D.int _) = SV.d (D.int i) ∧ _); refine ⟨_, _, _, rfl, (rfl : _ = some (OW.lst _)), rfl, ?_⟩))
local macro_rules | `(tactic| walk_at "da") => `(tactic| ((with_reducible show ∃ (k : Nat) (ss : List SV), SV.p _ = SV.p k ∧ _); refine ⟨_, _, rfl, (rfl : _ = some (OW.lst _)), ?_⟩))
local macro_rules | `(tactic| walk_at "we") => `(tactic| (with_reducible refine we_bm ?_))
local macro_rules | `(tactic| walk_at "lo") => `(tactic| ((with_reducible show Lo.WC _ _ (Lo.rLen _) _ [SV.p _] _); refine wc_lenO (rfl : _ = some (OW.lst _)) ?_))
local macro_rules | `(tactic| walk_at "lq") => `(tactic| ((with_reducible show Lo.WC _ _ (Lo.rLen _) _ [SV.p _] _); refine wc_lenO (rfl : _ = some (OW.lst _)) ?_))
local macro_rules | `(tactic| walk_at "da") => `(tactic| ((with_reducible show ∃ (k : Nat) (sr : List SV) (xs : List D), [SV.p _] = SV.p k :: sr ∧ _); refine ⟨_, _, _, rfl, (rfl : _ = some OW.hand), .nil, ?_⟩))
local macro_rules | `(tactic| walk_at "da") => `(tactic| ((with_reducible show ∃ (k : Nat) (sr : List SV) (xs : List D), [SV.p _, SV.d _] = SV.p k :: sr ∧ _); refine ⟨_, _, _, rfl, (rfl : _ = some OW.hand), .cons .nil, ?_⟩))
local macro_rules | `(tactic| walk_at "da") => `(tactic| ((with_reducible show ∃ (k : Nat) (sr : List SV) (xs : List D), [SV.p _, SV.d _, SV.d _] = SV.p k :: sr ∧ _); refine ⟨_, _, _, rfl, (rfl : _ = some OW.hand), .cons (.cons .nil), ?_⟩))
local macro_rules | `(tactic| walk_at "da") => `(tactic| ((with_reducible show ∃ (xs : List D), AllD [] xs ∧ _); refine ⟨_, .nil, ?_⟩))
local macro_rules | `(tactic| walk_at "da") => `(tactic| ((with_reducible show ∃ (xs : List D), AllD [SV.d _] xs ∧ _); refine ⟨_, .cons .nil, ?_⟩))
local macro_rules | `(tactic| walk_at "da") => `(tactic| ((with_reducible show ∃ (xs : List D), AllD [SV.d _, SV.d _] xs ∧ _); refine ⟨_, .cons (.cons .nil), ?_⟩))
local macro_rules | `(tactic| walk_at "da") => `(tactic| ((with_reducible show ∃ (xs : List D), AllD [SV.d _, SV.d _, SV.d _] xs ∧ _); refine ⟨_, .cons (.cons (.cons .nil)), ?_⟩))
local macro_rules | `(tactic| walk_at "da") => `(tactic| ((with_reducible show ∃ (xs : List D), AllD [SV.d _, SV.d _, SV.d _, SV.d _] xs ∧ _); refine ⟨_, .cons (.cons (.cons (.cons .nil))), ?_⟩))
local macro_rules | `(tactic| walk_at "lo") => `(tactic| ((with_reducible show Lo.WO _ _ _ _ _ _); first | (with_reducible refine wo_none ?_) | (with_reducible refine wo_some ?_)))
local macro_rules | `(tactic| walk_at "lq") => `(tactic| ((with_reducible show Lo.WO _ _ _ _ _ _); first | (with_reducible refine wo_none ?_) | (with_reducible refine wo_some ?_)))
local macro_rules | `(tactic| walk_at "da") => `(tactic| first | ((with_reducible refine' takeG ?h ?_); (case h => (constructor <;> omega)); (intro k h0 h1)) | fail "no")
local macro_rules | `(tactic| walk_at "wr") => `(tactic| first | ((with_reducible refine' wr_pow ?h ?_); (case h => exact ⟨by decide, by decide, by decide⟩)) | fail "no")
local macro_rules | `(tactic| walk_at "we") => `(tactic| first | (with_reducible refine we_dnew ?_) | (with_reducible refine we_setd ?_) | (with_reducible refine we_dget ?_) | (with_reducible refine we_dget2 ?_) | (with_reducible refine we_sadd ?_) | fail "no")
local macro_rules | `(tactic| walk_at "lo") => `(tactic| ((with_reducible show Lo.WC _ _ (rSet0 _) _ _ _); refine wc_set0 ?_))
local macro_rules | `(tactic| walk_at "da") => `(tactic| ((with_reducible show ∃ (ks : List L2.Key) (vs : List D), SV.d (D.dct _ _) = SV.d (D.dct ks vs) ∧ _); refine ⟨_, _, rfl, ?_⟩))
local macro_rules | `(tactic| walk_at "da") => `(tactic| ((with_reducible show ∃ (dy : D) (key : L2.Key), SV.d (D.int _) = SV.d dy ∧ _); refine ⟨_, _, rfl, rfl, ?_⟩))
local macro_rules | `(tactic| walk_at "we") => `(tactic| first | (with_reducible refine we_bm0 ?_) | fail "no")
local macro_rules | `(tactic| walk_at "wr") => `(tactic| first | ((with_reducible show WR _ _ (rSNotIn _) _ _ _ _); refine wr_snotin (rfl : _ = some (oSet _ _ _)) ?_) | fail "no")
local macro_rules | `(tactic| walk_at "da") => `(tactic| ((with_reducible show ∃ (k : Nat) (S : Int → Bool) (n : Nat), SV.p _ = SV.p k ∧ _); refine ⟨_, _, _, rfl, (rfl : _ = some (oSet _ _ _)), ?_⟩))

local macro_rules | `(tactic| walk_at "lo") => `(tactic| ((with_reducible show List.length _ ≤ 100000 ∧ _); first | (refine ⟨Nat.le_of_ble_eq_true rfl, ?_⟩) | fail "no"))
local macro_rules | `(tactic| walk_at "lq") => `(tactic| ((with_reducible show List.length _ ≤ 100000 ∧ _); first | (refine ⟨Nat.le_of_ble_eq_true rfl, ?_⟩) | fail "no"))
local macro_rules | `(tactic| walk_at "lo") => `(tactic| ((with_reducible show ∃ (xs : List D), AllD [SV.d _, SV.d _, SV.d _, SV.d _, SV.d _] xs ∧ _); refine ⟨_, .cons (.cons (.cons (.cons (.cons .nil)))), ?_⟩))
local macro_rules | `(tactic| walk_at "lq") => `(tactic| ((with_reducible show ∃ (xs : List D), AllD [SV.d _, SV.d _, SV.d _, SV.d _, SV.d _] xs ∧ _); refine ⟨_, .cons (.cons (.cons (.cons (.cons .nil)))), ?_⟩))
local macro_rules | `(tactic| walk_at "lo") => `(tactic| ((with_reducible show ∃ (xs : List D), AllD [SV.d _, SV.d _, SV.d _, SV.d _, SV.d _, SV.d _] xs ∧ _); refine ⟨_, .cons (.cons (.cons (.cons (.cons (.cons .nil))))), ?_⟩))
local macro_rules | `(tactic| walk_at "lq") => `(tactic| ((with_reducible show ∃ (xs : List D), AllD [SV.d _, SV.d _, SV.d _, SV.d _, SV.d _, SV.d _] xs ∧ _); refine ⟨_, .cons (.cons (.cons (.cons (.cons (.cons .nil))))), ?_⟩))
local macro_rules | `(tactic| walk_at "lo") => `(tactic| ((with_reducible show ∃ (xs : List D), AllD [SV.d _, SV.d _, SV.d _, SV.d _, SV.d _, SV.d _, SV.d _] xs ∧ _); refine ⟨_, .cons (.cons (.cons (.cons (.cons (.cons (.cons .nil)))))), ?_⟩))
local macro_rules | `(tactic| walk_at "lq") => `(tactic| ((with_reducible show ∃ (xs : List D), AllD [SV.d _, SV.d _, SV.d _, SV.d _, SV.d _, SV.d _, SV.d _] xs ∧ _); refine ⟨_, .cons (.cons (.cons (.cons (.cons (.cons (.cons .nil)))))), ?_⟩))
local macro_rules | `(tactic| walk_at "lo") => `(tactic| ((with_reducible show ∃ (xs : List D), AllD [SV.d _, SV.d _, SV.d _, SV.d _, SV.d _, SV.d _, SV.d _, SV.d _] xs ∧ _); refine ⟨_, .cons (.cons (.cons (.cons (.cons (.cons (.cons (.cons .nil))))))), ?_⟩))
local macro_rules | `(tactic| walk_at "lq") => `(tactic| ((with_reducible show ∃ (xs : List D), AllD [SV.d _, SV.d _, SV.d _, SV.d _, SV.d _, SV.d _, SV.d _, SV.d _] xs ∧ _); refine ⟨_, .cons (.cons (.cons (.cons (.cons (.cons (.cons (.cons .nil))))))), ?_⟩))
local macro_rules | `(tactic| walk_at "lo") => `(tactic| ((with_reducible show Lo.WE _ _ (tLst (tCons _ _)) _ _ _); refine we_lst ?_))
local macro_rules | `(tactic| walk_at "lq") => `(tactic| ((with_reducible show Lo.WE _ _ (tLst (tCons _ _)) _ _ _); refine we_lst ?_))
local macro_rules | `(tactic| walk_at "lo") => `(tactic| ((with_reducible show Lo.WE _ _ (tDisp [(tC (V.str _), tC (V.str _))]) _ _ _); refine we_disp1 (d := .str _) (fun _ => rfl) ?_))
local macro_rules | `(tactic| walk_at "lq") => `(tactic| ((with_reducible show Lo.WE _ _ (tDisp [(tC (V.str _), tC (V.str _))]) _ _ _); refine we_disp1 (d := .str _) (fun _ => rfl) ?_))
local macro_rules | `(tactic| walk_at "lo") => `(tactic| ((with_reducible show Lo.WE _ _ (tDisp [(tC (V.str _), tC (V.int _))]) _ _ _); refine we_disp1 (d := .int _) (fun _ => rfl) ?_))
local macro_rules | `(tactic| walk_at "lq") => `(tactic| ((with_reducible show Lo.WE _ _ (tDisp [(tC (V.str _), tC (V.int _))]) _ _ _); refine we_disp1 (d := .int _) (fun _ => rfl) ?_))
local macro_rules | `(tactic| walk_at "wr") => `(tactic| first | (with_reducible refine wr_notB ?_) | (with_reducible refine wr_isB ?_) | fail "no")
local macro_rules | `(tactic| walk_at "we") => `(tactic| first | (with_reducible refine we_calK ?_) | fail "no")
local macro_rules | `(tactic| walk_at "da") => `(tactic| ((with_reducible show ∃ (x : D), [SV.d _] = [SV.d x] ∧ _); refine ⟨_, rfl, ?_⟩))

local macro_rules | `(tactic| walk_at "we") => `(tactic| first
  | (with_reducible refine we_st0 (by assumption) ?_)
  | (with_reducible refine we_st1 (by assumption) ?_)
  | fail "no")
theorem ens_okd {es : List (List Str)} (h : ∀ e ∈ es, okEn e) : (D.lst (es.map txD)).okd = true := (Lay.lst (n := 1) fun x m => by
  obtain ⟨e, he, rfl⟩ := List.mem_map.mp m
  exact txD_lay (h e he)).okd (by decide)
def isRole (ro : Int) (d : D) : Bool := match d with | .tup (x :: _) => x.eqv (.int ro) | _ => false
theorem role_rows (rows : List Rw) (ro : Int) : List.map (fun d => d) (List.filter (isRole ro) (rows.map Rw.d)) = (rows.filter fun r => decide (r.role = ro)).map Rw.d := by
  rw [List.map_id', List.filter_map]
  exact congrArg (List.map Rw.d) (List.filter_congr fun r _ => eqv_int _ _)
theorem oe_okd {f : Stk} (h : okStk f) {ro : Int} {nu : D} : D.okd (oe (enOf f.rows ro nu)) = true := by
  unfold enOf
  cases e : f.rows.find? fun r => decide (r.role = ro) with
  | none => exact okd_non
  | some r =>
    have hr := h.r r (List.mem_of_find?_eq_some e)
    show D.okd (txD (if rankOf nu = 1 then r.many else r.one)) = true
    split
    · exact tx_okd hr.2.1
    · exact tx_okd hr.1
theorem filt_tx (l es : List (List Str)) : List.map (fun d => d) (List.filter (fun d => !D.among d (es.map txD)) (l.map txD)) = (l.filter fun e => !decide (e ∈ es)).map txD := by
  have ag : ∀ e : List Str, D.among (txD e) (es.map txD) = decide (e ∈ es) := fun e => by
    have k := among_iff (x := txD e) (xs := es.map txD) (txD_isp e) fun z m => by
      obtain ⟨y, _, rfl⟩ := List.mem_map.mp m
      exact txD_isp y
    by_cases q : e ∈ es
    · rw [decide_eq_true q]
      exact k.mpr (List.mem_map.mpr ⟨e, q, rfl⟩)
    · rw [decide_eq_false q]
      cases z : D.among (txD e) (es.map txD) with
      | false => rfl
      | true =>
        obtain ⟨y, hy, ey⟩ := List.mem_map.mp (k.mp z)
        exact absurd (txD_inj ey ▸ hy) q
  rw [List.map_id', List.filter_map]
  exact congrArg (List.map txD) (List.filter_congr fun e _ => by show (!D.among (txD e) (es.map txD)) = _; rw [ag])
section
variable {P : Program} {w : World} {K : Frag} {mg : Str → Option Value} {base : Heap} {a : Ad}
abbrev F__law_shows : DF := Fv (ι := Stk) (fun i => [i.d, .str i.z, tbD i.rows]) (fun i => okStk i) (fun i d => d = .bl true) noErr
theorem ok__law_shows {fd} (X : Txt P K mg a) (F : DefAt K "_law_shows" "_law_shows" s__law_shows [] a.f__law_shows fd) : FnOk P w K mg base (L2.CX P w) 3 a.f__law_shows fd ["_law_stock", "_law_name", "_law_table_here"] (SpP (TT K a) F__law_shows) := by
  refine okP (fun i => [some (.d (i.d)), some (.d (.str i.z)), some (.d (tbD i.rows)), none, none, none, none, none, none, none]) F sc__law_shows (fun _ => rfl) fun cdv A outer s H E hr => 
   have hu := hr.units
   ⟨_, 
   (pss_cons (ps_if (PW.pt (pw_or (pt_not (pt_val (pe_callB call_isi (by rfl) X.n_isinstance (by decide +kernel) (pa_cons (pv 0) (pa_cons (pe_glob (v := .ref a.C_Stock) rfl X.g_Stock rfl) pa_nil))))) (pw_or (pt_cmpR (op_neD hu) (pe_fld (pv 0) rfl) (pv 1) (nomark _)) (pw_or (pt_cmpR (op_neD hu) (pe_fld (pv 0) rfl) (pv 2) (nomark _)) (pw_or1 (pt_not (pt_val (pe_callB call_isi (by rfl) X.n_isinstance (by decide +kernel) (pa_cons (pe_fld (pv 0) rfl) (pa_cons (pe_bltn (v := .ty "tuple") rfl X.n_tuple (by decide +kernel) rfl) pa_nil))))))))))
  (pss_one (ps_ret pe_bl))
  pss_nil)
  (pss_cons (ps_if (PW.pt (pw_or (pt_cmpR (op_neD hu) (pe_prp (pv 0) X.cl_Stock X.pr_Stock_borne (cal_Stock_borne X) hr passL (by rfl)) (pe_callTy call_tupA (by rfl) X.n_tuple (by decide +kernel) (pa_cons (pe_lc (own := [("_law_row", 3)]) (by rfl) sc__law_shows.nd (pi_seq (pv 2)) (blkOk_by (own := [("_law_row", 3)]) (N := N__law_shows) (sc := defScope s__law_shows) (by decide +kernel)) (fun _ _ _ _ _ => (pg_name (i := 3) sc__law_shows.nd rfl (Or.inl rfl))) (fun _ _ _ _ _ => pts_nil) (fun _ _ _ _ _ => (pe_ix (kIx K Lo.rIx rfl ix_any) (pv 3) pe_int (fun _ _ => rfl)))) pa_nil)) (nomark _)) (pw_or1 (pt_not (pt_val (pe_callB call_isi (by rfl) X.n_isinstance (by decide +kernel) (pa_cons (pe_prp (pv 0) X.cl_Stock X.pr_Stock_borne (cal_Stock_borne X) hr passL (by rfl)) (pa_cons (pe_bltn (v := .ty "tuple") rfl X.n_tuple (by decide +kernel) rfl) pa_nil))))))))
  (pss_one (ps_ret pe_bl))
  pss_nil)
  (pss_cons (ps_set (i := 4) sc__law_shows.nd rfl (Or.inr rfl) (pe_lst pa_nil))
  (pss_cons (ps_for (passes_of rfl) rfl (pi_seq (pv 2)) (pg_name (i := 3) sc__law_shows.nd rfl (Or.inl rfl))
  (pss_one (ps_set (i := 4) sc__law_shows.nd rfl (Or.inr rfl) (pe_op op_addA (pv 4) (pe_lc (own := [("_law_ending", 5)]) (by rfl) sc__law_shows.nd (pi_seq (pe_slice sl_any (pv 3) (po_some pe_int) po_none)) (blkOk_by (own := [("_law_ending", 5)]) (N := N__law_shows) (sc := defScope s__law_shows) (by decide +kernel)) (fun _ _ _ _ _ => (pg_name (i := 5) sc__law_shows.nd rfl (Or.inl rfl))) (fun _ _ _ _ _ => (pts_one (pt_cmpR (kOp K rNotInD rfl (op_notInD (hu65 hr))) (pv 5) (pv 4) (by rfl)))) (fun _ _ _ _ _ => (pv 5)))))))
  (pss_cons (ps_if (pt_cmpR (op_neD hu) (pe_prp (pv 0) X.cl_Stock X.pr_Stock_endings (cal_Stock_endings X) hr passL (by rfl)) (pe_callTy call_tupA (by rfl) X.n_tuple (by decide +kernel) (pa_cons (pe_callB (TX.cr_sortTx rfl hu) (by rfl) X.n_sorted (by decide +kernel) (pa_cons (pe_callTy (TX.cr_setTx rfl hu) (by rfl) X.n_set (by decide +kernel) (pa_cons (pv 4) pa_nil)) pa_nil)) pa_nil)) (nomark _))
  (pss_one (ps_ret pe_bl))
  pss_nil)
  (pss_cons (ps_for (passes_of rfl) rfl (pi_range1 rfl X.n_range (pa_cons pe_int pa_nil)) (pg_name (i := 6) sc__law_shows.nd rfl (Or.inr rfl))
  (pss_cons (ps_setLc (i := 7) (own := [("_law_row", 3)]) (by rfl) sc__law_shows.nd rfl rfl (sw_true rfl rfl rfl (by decide +kernel)) (pi_seq (pv 2)) (blkOk_by (own := [("_law_row", 3)]) (N := N__law_shows) (sc := defScope s__law_shows) (by decide +kernel)) (fun _ _ _ _ _ => (pg_name (i := 3) sc__law_shows.nd rfl (Or.inl rfl))) (fun _ _ _ _ _ => (pts_one (pt_cmpR (kOp K rEqD rfl (op_eqD hu)) (pe_ix (kIx K Lo.rIx rfl ix_any) (pv 3) pe_int (fun _ _ => rfl)) (pv 6) (nomark _)))) (fun _ _ _ _ _ => (pv 3)))
  (pss_one (ps_for (passes_of rfl) rfl (pi_seq (pe_tup (pa_cons pe_str (pa_cons pe_str pa_nil)))) (pg_name (i := 8) sc__law_shows.nd rfl (Or.inl rfl))
  (pss_cons (ps_set (i := 9) sc__law_shows.nd rfl (Or.inl rfl) pe_non)
  (pss_cons (ps_if (pt_cmpR (op_neD hu) (pv 7) (pe_lst pa_nil) (nomark _))
  (pss_one (ps_set (i := 9) sc__law_shows.nd rfl (Or.inl rfl) (pe_ifExp (pt_cmpR (op_eqD hu) (pv 8) pe_str (nomark _)) (pe_ix ix_any (pe_ix ix_any (pv 7) pe_int (fun _ _ => rfl)) pe_int (fun _ _ => rfl)) (pe_ix ix_any (pe_ix ix_any (pv 7) pe_int (fun _ _ => rfl)) pe_int (fun _ _ => rfl)))))
  pss_nil)
  (pss_one (ps_if (pt_cmpR (op_neD hu) (pe_cam (pv 0) X.cl_Stock X.mt_Stock_ending_for (cal_Stock_ending_for X) hr passL (pa_cons (pv 6) (pa_cons (pv 8) pa_nil))) (pv 9) (nomark _))
  (pss_one (ps_ret pe_bl))
  pss_nil))))))))
  (pss_one (ps_ret pe_bl)))))))), fun b f hp hx => ?_⟩
  dsimp only [CxB, L2.cxOf] at hp ⊢
  have hb : okStk f := hp
  refine ws_cut (fun o s => o = [] ∧ s = [some (.d f.d), some (.d (.str f.z)), some (.d (tbD f.rows)), none, none, none, none, none, none, none]) ?_ ?_
  · refine ws_if ?_
    refine wt_or (wt_not (wt_B (we_isiC (T := TT K a) ?_)))
    repeat' walk_at "lq"
    refine ⟨f.d, true, .d, .inr ⟨0, _, rfl, tyO X, X.is_Stock_Stock⟩, ?_⟩
    repeat' walk_at "lq"
    refine wr_neD .d .d (okd_str hp.z) (okd_str hp.z) ?_
    rw [eqv_str, decide_eq_true rfl]
    repeat' walk_at "lq"
    refine wr_neD .d .d (tb_okd hp.r) (tb_okd hp.r) ?_
    rw [eqv_tb, decide_eq_true rfl]
    repeat' walk_at "lq"
    exact ⟨rfl, rfl⟩
  rintro o s ⟨rfl, rfl⟩
  refine ws_cut (fun o s => o = [] ∧ s = [some (.d f.d), some (.d (.str f.z)), some (.d (tbD f.rows)), none, none, none, none, none, none, none]) ?_ ?_
  · refine ws_if ?_
    repeat' walk_at "lq"
    refine ⟨0, _, rfl, rfl, ⟨f, rfl, hp, fun _ z => z, ?_⟩⟩
    rintro d rfl
    repeat' walk_at "lq"
    refine we_lcf (js := [3]) (by decide) (fun d => match d with | .tup (x :: _) => x | _ => .non) (wi_seq ?_)
    repeat' walk_at "lq"
    refine ⟨_, .inr rfl, Nat.le_refl _, OwP_nil, by rw [List.length_map]; exact Nat.le_trans hp.n (by decide), fun x acc hm => ?_, ?_⟩
    · obtain ⟨r, hr, rfl⟩ := List.mem_map.mp hm
      refine wg_name ?_
      repeat' walk_at "lq"
      refine wr_ixT rfl ?_
      exact ⟨rfl, rfl⟩
    · rw [List.map_map]
      have e : f.rows.map ((fun d : D => match d with | .tup (x :: _) => x | _ => .non) ∘ Rw.d) = f.rows.map fun r => .int r.role := rfl
      rw [e]
      repeat' walk_at "lq"
      refine wc_tup (.inl rfl) ?_
      have ob : D.okd (.tup (f.rows.map fun r => .int r.role)) = true := okd_tup fun x m => by
        obtain ⟨r, _, rfl⟩ := List.mem_map.mp m
        exact ⟨rfl, rfl⟩
      refine wr_neD .d .d ob ob ?_
      rw [eqv_self ob]
      repeat' walk_at "lq"
      refine ⟨0, _, rfl, rfl, ⟨f, rfl, hp, fun _ z => z, ?_⟩⟩
      rintro d rfl
      repeat' walk_at "lq"
      exact ⟨rfl, rfl⟩
  rintro o s ⟨rfl, rfl⟩
  refine ws_seq (ws_set (we_lst (wa_nil ⟨[], .nil, Nat.zero_le _, ?_⟩)))
  refine ws_seq (ws_for (js := [3]) (fun its i o s => o = [] ∧ ∃ es : List (List Str), s = [some (.d f.d), some (.d (.str f.z)), some (.d (tbD f.rows)), none, some (.d (.lst (es.map txD))), none, none, none, none, none] ∧ (∀ k, k ∈ es ↔ k ∈ ensOf (f.rows.take i)) ∧ es.length ≤ 2 * i ∧ ∀ e ∈ es, okEn e) (wi_seq ?_))
  repeat' walk_at "lq"
  refine ⟨_, .inr rfl, Nat.le_refl _, ⟨rfl, [], rfl, fun k => Iff.rfl, Nat.zero_le _, fun _ h => nomatch h⟩, ?_, ?_⟩
  · rintro i u o s hi ⟨rfl, es, rfl, hmem, hlen, hok⟩
    rw [List.getElem?_map] at hi
    obtain ⟨r, hr, rfl⟩ := Option.map_eq_some_iff.mp hi
    have hin := List.mem_of_getElem? hr
    have hi6 : i < f.rows.length := (List.getElem?_eq_some_iff.mp hr).1
    have hn6 := hp.n
    refine ⟨OwP_nil, Nat.le_refl _, wg_name ?_⟩
    repeat' walk_at "lq"
    refine we_lcff (js := [5]) (by decide) (fun d => !d.among (es.map txD)) (fun d => d) (wi_seq (we_sl ?_))
    repeat' walk_at "lq"
    refine .inr (.inl ⟨_, rfl, _, .inr rfl, Nat.le_refl _, OwP_nil, by show 2 ≤ 100000; decide, fun x acc hm => ?_, ?_⟩)
    · have hx : ∃ e, x = txD e ∧ okEn e := by
        have hm' : x ∈ [txD r.one, txD r.many] := hm
        rcases List.mem_cons.mp hm' with rfl | hm'
        · exact ⟨_, rfl, (hp.r r hin).1⟩
        · rw [List.mem_singleton.mp hm']
          exact ⟨_, rfl, (hp.r r hin).2.1⟩
      obtain ⟨e, rfl, he⟩ := hx
      refine wg_name ?_
      repeat' walk_at "lq"
      refine wr_notInDL .d .d (tx_okd he) (ens_okd hok) ?_
      repeat' walk_at "lq"
      refine ⟨rfl, fun _ => ?_, fun _ => rfl⟩
      repeat' walk_at "lq"
      exact ⟨rfl, rfl⟩
    · have e1 : List.map (fun d => d) (List.filter (fun d => !d.among (es.map txD)) (Lo.cutD [D.int r.role, txD r.one, txD r.many] (some 1) none)) = ([r.one, r.many].filter fun e => !decide (e ∈ es)).map txD := filt_tx [r.one, r.many] es
      rw [e1]
      have hf : ([r.one, r.many].filter fun e => !decide (e ∈ es)).length ≤ 2 := List.length_filter_le ..
      refine wr_addL .d .d (fun k e => nomatch e) (fun k e => nomatch e) (by rw [List.length_map, List.length_map]; omega) ?_
      rw [← List.map_append]
      refine ⟨_, _, ⟨List.prefix_refl _, .keepd (.keepd (.keepd (.drop (.keepd (.drop (.drop (.drop (.drop (.drop .nil)))))))))⟩, OwP_nil, Nat.le_refl _, rfl, _, rfl, fun k => ?_, by rw [List.length_append]; omega, fun e he => ?_⟩
      · rw [List.take_add_one, hr, List.mem_append, hmem k, List.mem_filter]
        show _ ↔ k ∈ ensOf (f.rows.take i ++ [r])
        unfold ensOf
        rw [List.flatMap_append, List.mem_append]
        have hmem' := hmem k
        unfold ensOf at hmem'
        constructor
        · rintro (h | ⟨h, _⟩)
          · exact .inl h
          · exact .inr (by simpa using h)
        · rintro (h | h)
          · exact .inl h
          · by_cases q : k ∈ es
            · exact .inl (hmem'.mp q)
            · exact .inr ⟨by simpa using h, by simp [q]⟩
      · rcases List.mem_append.mp he with he | he
        · exact hok e he
        · have he' := (List.mem_filter.mp he).1
          rcases List.mem_cons.mp he' with rfl | he'
          · exact (hp.r r hin).1
          · rw [List.mem_singleton.mp he']
            exact (hp.r r hin).2.1
  rintro o s ⟨rfl, es, rfl, hmem, hlen, hok⟩
  rw [List.length_map] at hmem hlen
  rw [List.take_length] at hmem
  have hn6 := hp.n
  refine ws_cut (fun o s => ∃ o1, o = [.ho o1] ∧ s = [some (.d f.d), some (.d (.str f.z)), some (.d (tbD f.rows)), none, some (.d (.lst (es.map txD))), none, none, none, none, none]) ?_ ?_
  · refine ws_if ?_
    repeat' walk_at "lq"
    refine ⟨0, _, rfl, rfl, ⟨f, rfl, hp, fun _ z => z, ?_⟩⟩
    rintro d ⟨es1, hs1, rfl⟩
    refine we_cb (wa_cons ?_)
    refine we_ssetTx rfl ?_
    refine wa_cons (we_var rfl (wa_nil ?_))
    refine ⟨es, rfl, by omega, fun e he => okEn_ne (hok e he), fun es2 hs2 o => ?_⟩
    have ee : es1 = es2 := hs1.one hs2 fun k => (hmem k).symm
    subst ee
    rw [show es1.map txtD = es1.map txD from rfl]
    repeat' walk_at "lq"
    refine wc_tup (.inl rfl) ?_
    have ob : D.okd (.tup (es1.map txD)) = true := (Lay.tup (n := 1) fun x m => by
      obtain ⟨e, he, rfl⟩ := List.mem_map.mp m
      exact txD_lay (hok e ((hs2.mem e).mp he))).okd (by decide)
    refine wr_neD .d .d ob ob ?_
    rw [eqv_self ob]
    repeat' walk_at "lq"
    rfl
  rintro o s ⟨o1, rfl, rfl⟩
  refine ws_seq (ws_for (js := [6]) (fun its i o s => o = [.ho o1] ∧ s = [some (.d f.d), some (.d (.str f.z)), some (.d (tbD f.rows)), none, some (.d (.lst (es.map txD))), none, none, none, none, none]) (wi_rng1 ?_))
  repeat' walk_at "lq"
  refine ⟨by decide, by decide, Nat.le_refl _, ⟨rfl, rfl⟩, ?_, ?_⟩
  · rintro i u o s hi ⟨rfl, rfl⟩
    obtain ⟨_, rfl⟩ := rngD_get hi
    generalize (0 + (i : Int)) = ro
    refine ⟨?_, Nat.le_refl _, wg_name ?_⟩
    · exact OwP_ho OwP_nil
    refine ws_seq (ws_set ?_)
    refine we_lcff (js := [3]) (by decide) (isRole ro) (fun d => d) (wi_seq ?_)
    repeat' walk_at "lq"
    refine ⟨_, .inr rfl, Nat.le_refl _, OwP_ho OwP_nil, by rw [List.length_map]; omega, fun x acc hm => ?_, ?_⟩
    · obtain ⟨r, hr, rfl⟩ := List.mem_map.mp hm
      refine wg_name ?_
      repeat' walk_at "lq"
      refine wr_ixT (x := .int r.role) rfl ?_
      repeat' walk_at "lq"
      refine ⟨rfl, fun _ => ?_, fun _ => rfl⟩
      repeat' walk_at "lq"
      exact ⟨rfl, rfl⟩
    rw [role_rows]
    refine ws_for (js := [8]) (fun its i o s => o = [.ho o1] ∧ s = [some (.d f.d), some (.d (.str f.z)), some (.d (tbD f.rows)), none, some (.d (.lst (es.map txD))), none, some (.d (.int ro)), some (.d (.lst ((f.rows.filter fun r => decide (r.role = ro)).map Rw.d))), none, none]) (wi_seq ?_)
    repeat' walk_at "lq"
    refine ⟨_, .inr rfl, Nat.le_refl _, ?_, ?_, ?_⟩
    · exact ⟨rfl, rfl⟩
    · rintro i u o s hi ⟨rfl, rfl⟩
      obtain ⟨nu, rfl, hnu⟩ : ∃ nu : Str, u = .str nu ∧ (nu = "one" ∨ nu = "many") := by
        match i, hi with
        | 0, hi => exact ⟨_, (Option.some.inj hi).symm, .inl rfl⟩
        | 1, hi => exact ⟨_, (Option.some.inj hi).symm, .inr rfl⟩
      have onu : okSt nu = true := by rcases hnu with rfl | rfl <;> decide +kernel
      refine ⟨OwP_ho OwP_nil, Nat.le_refl _, wg_name ?_⟩
      refine ws_seq (ws_set (we_non ?_))
      refine ws_cut (fun o s => o = [.ho o1] ∧ s = [some (.d f.d), some (.d (.str f.z)), some (.d (tbD f.rows)), none, some (.d (.lst (es.map txD))), none, some (.d (.int ro)), some (.d (.lst ((f.rows.filter fun r => decide (r.role = ro)).map Rw.d))), some (.d (.str nu)), some (.d (oe (enOf f.rows ro (.str nu))))]) ?_ ?_
      · have ehd : (f.rows.filter fun r => decide (r.role = ro)).head? = f.rows.find? fun r => decide (r.role = ro) := List.head?_filter
        have eal : ∀ r ∈ f.rows.filter fun r => decide (r.role = ro), okRw r := fun r hr => hp.r r (List.mem_filter.mp hr).1
        have een : enOf f.rows ro (.str nu) = ((f.rows.filter fun r => decide (r.role = ro)).head?).map fun r => if rankOf (.str nu) = 1 then r.many else r.one := by
          rw [ehd]
          rfl
        rw [een]
        generalize (f.rows.filter fun r => decide (r.role = ro)) = rs at eal
        have ork : D.okd (.lst (rs.map Rw.d)) = true := (Lay.lst (n := 2) fun x m => by
          obtain ⟨r, hr, rfl⟩ := List.mem_map.mp m
          exact rwd_lay (eal r hr)).okd (by decide)
        have emany : okSt "many" = true := by decide +kernel
        refine ws_if (wt_test ?_)
        refine we_op (we_var rfl (we_lst (wa_nil ⟨[], .nil, Nat.zero_le _, ?_⟩)))
        refine wr_neD .d .d ork (by decide +kernel) ?_
        cases rs with
        | nil =>
          have e : (D.lst (([] : List Rw).map Rw.d)).eqv (.lst []) = true := by decide +kernel
          rw [e]
          repeat' walk_at "lq"
          exact ⟨rfl, rfl⟩
        | cons r rs =>
          have e : (D.lst ((r :: rs).map Rw.d)).eqv (.lst []) = false := rfl
          rw [e]
          repeat' walk_at "lq"
          refine wr_eqD .d .d (okd_str onu) (okd_str emany) ?_
          rw [eqv_str]
          have hat : atI ((r :: rs).map Rw.d) ((0 : Nat) : Int) = some r.d := atI_nat rfl
          repeat' walk_at "lq"
          · rename_i hk
            have hk : nu = "many" := of_decide_eq_true hk
            refine wr_ixL hat ?_
            repeat' walk_at "lq"
            refine wr_ixT (x := txD r.many) rfl ⟨rfl, ?_⟩
            subst hk
            rfl
          · rename_i hk
            have hk : nu ≠ "many" := of_decide_eq_false hk
            have hk1 : nu = "one" := hnu.resolve_right hk
            refine wr_ixL hat ?_
            repeat' walk_at "lq"
            refine wr_ixT (x := txD r.one) rfl ⟨rfl, ?_⟩
            subst hk1
            rfl
      · rintro o s ⟨rfl, rfl⟩
        refine ws_if (wt_test ?_)
        refine we_op (we_cam ?_)
        repeat' walk_at "lq"
        refine ⟨0, _, rfl, rfl, by show ¬ ("ending_for" : Str) ∈ stN; decide +kernel, ?_⟩
        repeat' walk_at "lq"
        refine ⟨⟨(f, ro, .str nu), rfl, ⟨hp, .inr ⟨nu, rfl, onu⟩⟩, fun _ z => z, ?_⟩⟩
        rintro d rfl
        have oko : D.okd (oe (enOf f.rows ro (.str nu))) = true := oe_okd hp
        repeat' walk_at "lq"
        refine wr_neD .d .d oko oko ?_
        rw [eqv_self oko]
        repeat' walk_at "lq"
        exact ⟨_, _, ⟨List.prefix_refl _, .keepd (.keepd (.keepd (.drop (.keepd (.drop (.keepd (.keepd (.drop (.drop .nil)))))))))⟩, OwP_ho OwP_nil, Nat.le_refl _, rfl, rfl⟩
    · rintro o s ⟨rfl, rfl⟩
      exact ⟨_, _, ⟨List.prefix_refl _, .keepd (.keepd (.keepd (.drop (.keepd (.drop (.drop (.drop (.drop (.drop .nil)))))))))⟩, OwP_ho OwP_nil, Nat.le_refl _, rfl, rfl⟩
  · rintro o s ⟨rfl, rfl⟩
    repeat' walk_at "lq"
    rfl
theorem cal__law_shows (X : Txt P K mg a) : Cal P w K mg base 3 a.f__law_shows ["_law_stock", "_law_name", "_law_table_here"] (SpP (TT K a) F__law_shows) [] := by
  obtain ⟨fd, F⟩ := X.F__law_shows
  exact ⟨fd, [], ok__law_shows X F, .nil, F.bindsN fun _ _ _ _ _ _ us hl => match us, hl with | [_, _, _], _ => rfl⟩
end
end L3
end
section
set_option Elab.async false
set_option linter.all false
set_option autoImplicit false
set_option maxRecDepth 100000
set_option maxHeartbeats 1000000
/-! [f(x) for x in xs], xs an own list of own objects -/
namespace Lo
open PySem PySem.Spec PyProof.Rows L2 Evl
section
variable {T : Tb} {b : Bd} {own : List OW} {ds : List (Option SV)} {P : PSv}
theorem we_lcP {src i k : Nat} {ss : List SV} {te : TE} {vs : List Nat} (h0 : ds[src]? = some (some (.p k))) (ho : own[k]? = some (.lst ss)) (pp : OwP own.length own) (hi : i ∈ vs) (I : Nat → List D → Prop) (i0 : I 0 [])
    (hs : ∀ j s acc, ss[j]? = some s → I j acc → acc.length ≤ j → ss.length ≤ 100000 → WE T b te (own ++ [.lst (acc.map SV.d)]) ((wipeD ds vs).set i (some s)) fun s' o4 => ∃ d, s' = .d d ∧ o4 = own ++ [.lst (acc.map SV.d)] ∧ I (j + 1) (acc ++ [d]))
    (hd : ∀ acc, I ss.length acc → P (.d (.lst acc)) own) (hsz : ss.length ≤ 100000) : WE T b (tLc (iSeq T.K (tVar src)) (gName i) tYes te vs) own ds P := fun W σ ha sl Q q => by
  obtain ⟨v0, ev0, a, ea, rfl⟩ := sl.get h0
  have dl := ha.ow.len
  have kl : k < own.length := (List.getElem?_eq_some_iff.mp ho).1
  obtain ⟨a1, ea1, _, _, _, ws0, eh0, rr0⟩ := ha.ow.get ho
  cases ea.symm.trans ea1
  refine ⟨.ref a, ev0, .inl ⟨a, rfl, ⟨ws0, sq_of eh0⟩, fun Dd hD => ?_⟩⟩
  have cont : ∀ {W2 : Wd} {acc : List SV}, HA T b W2 (own ++ [.lst acc]) → Le W W2 → ∃ ws, W2.H a = some (.lst ws) ∧ RpSL T W2 ss ws := fun {W2 acc} h2 l2 => by
    have ho2 : (own ++ [OW.lst acc])[k]? = some (.lst ss) := by rw [List.getElem?_append_left kl]; exact ho
    obtain ⟨a2, ea2, _, _, _, ws, eh, rr⟩ := h2.ow.get ho2
    cases (prefix_get l2.a ea).symm.trans ea2
    exact ⟨ws, eh, rr⟩
  obtain ⟨hA0, lA0⟩ := ha.allocOwn (ss := ([] : List D).map SV.d) (vs := []) hD rfl
  have at0 : (W.as ++ [Dd])[own.length]? = some Dd := by rw [← dl]; simp
  refine ⟨fun j m H2 => m = ss.length - j ∧ j ≤ ss.length ∧ ∃ W2 acc, W2.H = H2 ∧ HA T b W2 (own ++ [.lst (acc.map SV.d)]) ∧ Le W W2 ∧ W2.as[own.length]? = some Dd ∧ I j acc ∧ acc.length ≤ j, ⟨ss.length, by simp, Nat.zero_le _, _, [], rfl, hA0, lA0, at0, i0, Nat.le_refl _⟩, ?_⟩
  rintro j m H2 ⟨rfl, hj, W2, acc, rfl, ha2, l2, atD, iv, hal⟩
  obtain ⟨ws, eh, rr⟩ := cont ha2 l2
  have wl : ws.length = ss.length := RpSL.len rr
  by_cases hlt : j < ss.length
  · obtain ⟨x, hx⟩ : ∃ x, ss[j]? = some x := ⟨_, List.getElem?_eq_getElem hlt⟩
    obtain ⟨v, hv, rv⟩ := rr.get hx
    refine .inr ⟨⟨ws, v, sq_of eh, hv⟩, fun H' => ∃ W3 acc', W3.H = H' ∧ HA T b W3 (own ++ [.lst (acc'.map SV.d)]) ∧ Le W W3 ∧ W3.as[own.length]? = some Dd ∧ I (j + 1) acc' ∧ acc'.length ≤ j + 1, fun H' ⟨W3, acc', e, h4, l4, a4, i4, n4⟩ => ⟨ss.length - (j + 1), by omega, rfl, hlt, W3, acc', e, h4, l4, a4, i4, n4⟩, fun v' H' ⟨eH, hw⟩ => ?_⟩
    subst eH
    have ev : v' = v := Option.some.inj ((hw ws (sq_of eh)).symm.trans hv)
    subst ev
    have sl2 : SlL T W2 (wipe σ vs) (wipeD ds vs) := (SlL.wipe sl vs).mono l2
    have sl3 : SlL T W2 ((wipe σ vs).set i (some v')) ((wipeD ds vs).set i (some x)) := SlL.set (fun sv e => by cases e; exact rv) i sl2
    refine ⟨wipe_same (js := [i]) (fun z hz => by rw [List.mem_singleton.mp hz]; exact hi) (by simp) (fun z hz => by rw [List.getElem?_set_ne (fun q => hz (by simp [q]))]), ?_⟩
    refine hs j x acc hx iv hal hsz W2 _ ha2 sl3 _ fun y s o6 W6 ha6 l6 r6 ⟨d, es, eo, i6⟩ => ?_
    subst es
    subst eo
    have at6 : W6.as[own.length]? = some Dd := prefix_get l6.a atD
    have ho6 : (own ++ [OW.lst (acc.map SV.d)])[own.length]? = some (.lst (acc.map SV.d)) := by simp
    obtain ⟨a', ea', g', b', n', vs', eh', rr'⟩ := ha6.ow.get ho6
    have z : a' = Dd := Option.some.inj (ea'.symm.trans at6)
    subst z
    have app := rpSL_snoc r6 rr'
    have e1 : acc.map SV.d ++ [SV.d d] = (acc ++ [d]).map SV.d := by simp
    rw [e1] at app
    obtain ⟨ha7, l7⟩ := ha6.setOwn ho6 at6 app
    have es : (own ++ [OW.lst (acc.map SV.d)]).set own.length (.lst ((acc ++ [d]).map SV.d)) = own ++ [.lst ((acc ++ [d]).map SV.d)] := by simp
    rw [es] at ha7
    have nl : vs'.length = acc.length := by rw [RpSL.len rr', List.length_map]
    exact ⟨vs', eh', sz_lt (by omega), _, acc ++ [d], rfl, ha7, (l2.trans l6).trans l7, at6, i6, by simp; omega⟩
  · have e : j = ss.length := by omega
    subst e
    refine .inl ⟨⟨ws, sq_of eh, by omega⟩, ?_⟩
    obtain ⟨W', eH, ha', lle, r⟩ := ha2.closeLst atD pp
    rw [← eH]
    exact q _ (.d (.lst acc)) own W' ha' (lle W l2 (by rw [dl]; exact Nat.le_refl _)) r (hd acc iv)
end
end Lo
end
section
set_option Elab.async false
set_option linter.all false
set_option maxRecDepth 100000
set_option maxHeartbeats 1000000
namespace L3
open PySem PySem.Spec PyProof.Rows L2 PySem.W PySem.Calls Lo
/-- d can be shown: in so many signs, so deep -/
structure Fine (c n : Nat) (d : D) : Prop where
  s : d.shw = true
  b : d.rc ≤ c
  l : d.py.depth ≤ n
theorem Fine.mono {c c' n n' : Nat} {d : D} (h : Fine c n d) (hc : c ≤ c') (hn : n ≤ n') : Fine c' n' d := ⟨h.s, Nat.le_trans h.b hc, Nat.le_trans h.l hn⟩
theorem depL {n : Nat} : ∀ {xs : List D}, (∀ x ∈ xs, x.py.depth ≤ n) → PyData.depthAll (D.pyL xs) ≤ n
  | [], _ => Nat.zero_le _
  | x :: xs, h => by
    show max x.py.depth (PyData.depthAll (D.pyL xs)) ≤ n
    exact Nat.max_le.mpr ⟨h x (.head _), depL fun y m => h y (.tail _ m)⟩
theorem Fine.tup {c n : Nat} {xs : List D} (h : ∀ x ∈ xs, Fine c n x) {m k : Nat} (hm : xs.length ≤ m) (hk : m * (c + 2) + 4 ≤ k) : Fine k (n + 1) (.tup xs) := by
  have h1 := rcL_of (c := c) fun x m => (h x m).b
  have h2 : xs.length * (c + 2) ≤ m * (c + 2) := Nat.mul_le_mul_right _ hm
  refine ⟨shwL_of fun x m => (h x m).s, by show D.rcL xs + 4 ≤ k; omega, ?_⟩
  show PyData.depthAll (D.pyL xs) + 1 ≤ n + 1
  exact Nat.succ_le_succ (depL fun x m => (h x m).l)
theorem Fine.lst {c n : Nat} {xs : List D} (h : ∀ x ∈ xs, Fine c n x) {m k : Nat} (hm : xs.length ≤ m) (hk : m * (c + 2) + 4 ≤ k) : Fine k (n + 1) (.lst xs) := by
  have h1 := rcL_of (c := c) fun x m => (h x m).b
  have h2 : xs.length * (c + 2) ≤ m * (c + 2) := Nat.mul_le_mul_right _ hm
  refine ⟨shwL_of fun x m => (h x m).s, by show D.rcL xs + 4 ≤ k; omega, ?_⟩
  show PyData.depthAll (D.pyL xs) + 1 ≤ n + 1
  exact Nat.succ_le_succ (depL fun x m => (h x m).l)
theorem Fine.seq {c n : Nat} {d : D} {xs : List D} (hd : d = .lst xs ∨ d = .tup xs) (h : ∀ x ∈ xs, Fine c n x) {m k : Nat} (hm : xs.length ≤ m) (hk : m * (c + 2) + 4 ≤ k) : Fine k (n + 1) d := by
  rcases hd with rfl | rfl
  · exact Fine.lst h hm hk
  · exact Fine.tup h hm hk
theorem Fine.int {i : Int} {n : Nat} (h : i.natAbs < 2 ^ 100) : Fine 103 n (.int i) := by
  have := log2_le h
  refine ⟨decide_eq_true (by omega), by show i.natAbs.log2 + 3 ≤ 103; omega, Nat.zero_le _⟩
theorem Fine.str {z : Str} {c n : Nat} (h : okSt z = true) (hc : 10 * z.length + 2 ≤ c) : Fine c n (.str z) := ⟨h, hc, Nat.zero_le _⟩
theorem rcL_le {x : D} : ∀ {xs : List D}, x ∈ xs → x.rc ≤ D.rcL xs
  | y :: ys, m => by
    show x.rc ≤ y.rc + 2 + D.rcL ys
    rcases List.mem_cons.mp m with rfl | m
    · omega
    · have := rcL_le m
      omega
theorem rcL_len : ∀ xs : List D, xs.length ≤ D.rcL xs
  | [] => Nat.zero_le _
  | y :: ys => by
    have := rcL_len ys
    show ys.length + 1 ≤ y.rc + 2 + D.rcL ys
    omega
theorem shwL_in {x : D} : ∀ {xs : List D}, D.shwL xs = true → x ∈ xs → x.shw = true
  | y :: ys, h, m => by
    have h' : (y.shw && D.shwL ys) = true := h
    rw [Bool.and_eq_true] at h'
    rcases List.mem_cons.mp m with rfl | m
    · exact h'.1
    · exact shwL_in h'.2 m
/-- what can be shown has nothing odd within -/
def Tame (d : D) : Prop := d.shw = true ∧ d.rc ≤ 100000
theorem Fine.tame {c n : Nat} {d : D} (h : Fine c n d) (hc : c ≤ 100000) : Tame d := ⟨h.s, Nat.le_trans h.b hc⟩
theorem Tame.o {d : D} (h : Tame d) : d.isO = false := by
  cases d with
  | obj c fs => exact absurd h.1 (by simp [D.shw])
  | _ => rfl
theorem Tame.items {d : D} {xs : List D} (h : Tame d) (e : items d = some xs) : xs.length ≤ 100000 ∧ ∀ x ∈ xs, Tame x := by
  have key : D.shwL xs = true ∧ D.rcL xs + 4 ≤ 100000 := by
    rcases items_of e with rfl | rfl
    · exact ⟨h.1, h.2⟩
    · exact ⟨h.1, h.2⟩
  refine ⟨by have := rcL_len xs; omega, fun x m => ⟨shwL_in key.1 m, ?_⟩⟩
  have := rcL_le m
  omega
theorem Tame.str {d : D} (h : Tame d) : okStr d := ⟨h.o, fun z e => by
  subst e
  have : 10 * z.length + 2 ≤ 100000 := h.2
  omega⟩
theorem Tame.row {d : D} (h : Tame d) : okRow d := ⟨h.o, fun xs e => ⟨(h.items e).1, fun x m => ((h.items e).2 x m).str⟩⟩
theorem Tame.row3 {d : D} (h : Tame d) : okRow3 d := ⟨h.o, fun xs e => ⟨(h.items e).1, fun x m => ((h.items e).2 x m).row⟩⟩
theorem Tame.tab {d : D} (h : Tame d) : okTab d := ⟨h.o, fun xs e => ⟨(h.items e).1, fun x m => ((h.items e).2 x m).row3⟩⟩
theorem Fine.rpd {c n : Nat} {d : D} (h : Fine c n d) (hc : c ≤ 100000) (hn : n ≤ 60) : ∃ z, Rpd d z := by
  have hb : d.rc ≤ 100000 := Nat.le_trans h.b hc
  have hs := shown_rc h.s
  cases d with
  | non => exact ⟨_, .non⟩
  | bl k => exact ⟨_, .bl⟩
  | int i => exact ⟨_, .int (of_decide_eq_true h.s)⟩
  | str z => exact ⟨_, .str (Nat.le_trans hs.2.2.2 hb)⟩
  | lst xs => exact ⟨_, .row rfl (rp_of_rc h.s (Nat.le_trans h.l hn) hb)⟩
  | tup xs => exact ⟨_, .row rfl (rp_of_rc h.s (Nat.le_trans h.l hn) hb)⟩
  | obj c fs => exact absurd h.s (by simp [D.shw])
  | dct ks vs => exact absurd h.s (by simp [D.shw])
end L3
end
section
set_option Elab.async false
set_option linter.all false
set_option maxRecDepth 100000
set_option maxHeartbeats 1000000
namespace L3
open PySem PySem.Spec PyProof.Rows L2 PySem.W PySem.Calls Lo
/-- the rows of a right table -/
structure Tab (rows : List Rw) : Prop where
  ok : ∀ r ∈ rows, okRw r
  up : rows.Pairwise fun x y => x.role < y.role
  l1 : 1 ≤ rows.length
  l6 : rows.length ≤ 6
/-- things that are told for rows, one by one -/
def RwL : List D → List Rw → Prop
  | [], rs => rs = []
  | u :: us, rs => ∃ r rs', rs = r :: rs' ∧ IsRw u r ∧ RwL us rs'
theorem RwL.rise : ∀ {us : List D} {rs : List Rw} {last : Int}, RwL us rs → (∀ r ∈ rs, okRw r) → rs.Pairwise (fun x y => x.role < y.role) → (∀ r ∈ rs, last < r.role) → Rise last us rs
  | [], rs, last, h, _, _, _ => by
    have h' : rs = [] := h
    subst h'
    trivial
  | u :: us, _, last, ⟨r, rs, rfl, h1, h2⟩, ok, up, lo => by
    obtain ⟨u1, u2⟩ := List.pairwise_cons.mp up
    have k := ok r (.head _)
    exact ⟨h1, k.1, k.2.1, lo r (.head _), k.2.2.2, h2.rise (fun x m => ok x (.tail _ m)) u2 u1⟩
theorem Tab.rise {us : List D} {rows : List Rw} (t : Tab rows) (h : RwL us rows) : Rise (-1) us rows := h.rise t.ok t.up fun r m => by
  have := (t.ok r m).2.2.1
  omega
theorem Tab.good {g : D} {us : List D} {rows : List Rw} (t : Tab rows) (e : items g = some us) (h : RwL us rows) : tabW g = none ∧ tabT g = tbD rows := tab_good e (t.rise h) t.l1 t.l6
theorem isEn_tx (e : List Str) : IsEn (txD e) e := rfl
theorem isRw_d (r : Rw) : IsRw r.d r := ⟨_, _, rfl, isEn_tx r.one, isEn_tx r.many⟩
theorem rwL_self : ∀ rows : List Rw, RwL (rows.map Rw.d) rows
  | [] => rfl
  | r :: rows => ⟨r, rows, rfl, isRw_d r, rwL_self rows⟩
theorem Tab.self {rows : List Rw} (t : Tab rows) : tabW (tbD rows) = none ∧ tabT (tbD rows) = tbD rows := t.good rfl (rwL_self rows)
theorem Tab.take1 {rows : List Rw} (t : Tab rows) : Tab (rows.take 1) := ⟨fun r m => t.ok r (List.mem_of_mem_take m), t.up.sublist (List.take_sublist _ _), by rw [List.length_take]; have := t.l1; omega, by rw [List.length_take]; omega⟩
/-- a name that can be -/
structure Nam (z : Str) : Prop where
  l1 : 1 ≤ z.length
  l8 : z.length ≤ 8
  a : lett z = true
theorem Nam.is {z : Str} (h : Nam z) : isName (.str z) 8 = true := by
  show (decide (1 ≤ (z.length : Int)) && (decide ((z.length : Int) ≤ 8) && lett z)) = true
  rw [h.a, decide_eq_true (by have := h.l1; omega), decide_eq_true (by have := h.l8; omega)]
  rfl
theorem Nam.ok {z : Str} (h : Nam z) {rows : List Rw} (t : Tab rows) : okStk ⟨z, rows⟩ := ⟨lett_ok h.a, t.l6, t.ok⟩
theorem stW_good {z : Str} {g : D} {us : List D} {rows : List Rw} (n : Nam z) (t : Tab rows) (e : items g = some us) (h : RwL us rows) : stW (.str z) g = none ∧ stD (.str z) g = (Stk.mk z rows).d := by
  have k := t.good e h
  refine ⟨?_, ?_⟩
  · unfold stW
    rw [if_neg (by rw [n.is]; simp)]
    exact k.1
  · show D.obj 0 [.str z, tabT g] = _
    rw [k.2]
    rfl
/-- told rows are tame -/
theorem fine_en {y : D} {e : List Str} (h : y = .lst (e.map .str) ∨ y = .tup (e.map .str)) (ok : okEn e) : Fine 140 1 y := by
  refine Fine.seq (c := 32) (n := 0) (m := 4) h (fun x m => ?_) (by rw [List.length_map]; exact ok.2.1) (by decide)
  obtain ⟨z, hz, rfl⟩ := List.mem_map.mp m
  have := ok.2.2 z hz
  exact Fine.str (lett_ok this.2) (by omega)
theorem fine_role {n : Int} {k : Nat} (h0 : 0 ≤ n) (h5 : n ≤ 5) : Fine 300 k (.int n) := (Fine.int (by omega)).mono (by decide) (Nat.le_refl _)
/-- a row as an own list -/
structure RowL (xs : List D) (r : Rw) : Prop where
  e : ∃ y z, xs = [.int r.role, y, z] ∧ (y = .lst (r.one.map .str) ∨ y = .tup (r.one.map .str)) ∧ (z = .lst (r.many.map .str) ∨ z = .tup (r.many.map .str))
theorem RowL.fine {xs : List D} {r : Rw} (h : RowL xs r) (ok : okRw r) : ∀ x ∈ xs, Fine 300 1 x := by
  obtain ⟨y, z, rfl, h1, h2⟩ := h.e
  intro x m
  simp only [List.mem_cons, List.not_mem_nil, or_false] at m
  rcases m with rfl | rfl | rfl
  · exact fine_role ok.2.2.1 ok.2.2.2
  · exact (fine_en h1 ok.1).mono (by decide) (Nat.le_refl _)
  · exact (fine_en h2 ok.2.1).mono (by decide) (Nat.le_refl _)
theorem RowL.is {xs : List D} {r : Rw} (h : RowL xs r) {u : D} (hu : u = .lst xs ∨ u = .tup xs) : IsRw u r := by
  obtain ⟨y, z, rfl, h1, h2⟩ := h.e
  have en : ∀ {y : D} {e : List Str}, (y = .lst (e.map .str) ∨ y = .tup (e.map .str)) → IsEn y e := fun h => by rcases h with rfl | rfl <;> rfl
  refine ⟨y, z, ?_, en h1, en h2⟩
  rcases hu with rfl | rfl <;> rfl
theorem RowL.seq_fine {xs : List D} {r : Rw} (h : RowL xs r) (ok : okRw r) {u : D} (hu : u = .lst xs ∨ u = .tup xs) : Fine 1212 2 u := by
  refine Fine.seq (c := 300) (n := 1) (m := 4) hu (h.fine ok) ?_ (by decide)
  obtain ⟨y, z, rfl, _⟩ := h.e
  exact Nat.le_of_ble_eq_true rfl
/-- rows as own lists -/
def RowsL : List (List D) → List Rw → Prop
  | [], rs => rs = []
  | u :: us, rs => ∃ r rs', rs = r :: rs' ∧ RowL u r ∧ RowsL us rs'
theorem RowsL.len : ∀ {L : List (List D)} {rs : List Rw}, RowsL L rs → L.length = rs.length
  | [], rs, h => by
    have h' : rs = [] := h
    subst h'
    rfl
  | u :: us, _, ⟨r, rs, rfl, _, h⟩ => by rw [List.length_cons, List.length_cons, h.len]
theorem RowsL.snoc {x : List D} {r : Rw} (hx : RowL x r) : ∀ {L : List (List D)} {rs : List Rw}, RowsL L rs → RowsL (L ++ [x]) (rs ++ [r])
  | [], rs, h => by
    have h' : rs = [] := h
    subst h'
    exact ⟨r, [], rfl, hx, rfl⟩
  | u :: us, _, ⟨s, rs, rfl, h1, h⟩ => ⟨s, rs ++ [r], rfl, h1, h.snoc hx⟩
theorem RowsL.at : ∀ {L : List (List D)} {rs : List Rw} {i : Nat} {x : List D}, RowsL L rs → L[i]? = some x → ∃ r, rs[i]? = some r ∧ RowL x r
  | u :: us, _, 0, x, ⟨r, rs, rfl, h1, h⟩, e => by
    cases e
    exact ⟨r, rfl, h1⟩
  | u :: us, _, i + 1, x, ⟨r, rs, rfl, h1, h⟩, e => by
    obtain ⟨s, e1, e2⟩ := h.at (i := i) (by simpa using e)
    exact ⟨s, by simpa using e1, e2⟩
  | [], _, i, x, _, e => by simp at e
/-- the rows, each listed or in a tuple -/
def SeqsL : List D → List (List D) → Prop
  | [], L => L = []
  | u :: us, L => ∃ x L', L = x :: L' ∧ (u = .lst x ∨ u = .tup x) ∧ SeqsL us L'
theorem SeqsL.snoc {x : List D} {u : D} (hx : u = .lst x ∨ u = .tup x) : ∀ {us : List D} {L : List (List D)}, SeqsL us L → SeqsL (us ++ [u]) (L ++ [x])
  | [], L, h => by
    have h' : L = [] := h
    subst h'
    exact ⟨x, [], rfl, hx, rfl⟩
  | _ :: us, _, ⟨y, L, rfl, h1, h⟩ => ⟨y, L ++ [x], rfl, h1, h.snoc hx⟩
theorem SeqsL.rwL : ∀ {us : List D} {L : List (List D)} {rs : List Rw}, SeqsL us L → RowsL L rs → RwL us rs
  | [], L, rs, h, k => by
    have h' : L = [] := h
    subst h'
    exact k
  | u :: us, _, _, ⟨x, L, rfl, h1, h⟩, ⟨r, rs, rfl, k1, k⟩ => ⟨r, rs, rfl, k1.is h1, h.rwL k⟩
theorem SeqsL.fine : ∀ {us : List D} {L : List (List D)} {rs : List Rw}, SeqsL us L → RowsL L rs → (∀ r ∈ rs, okRw r) → ∀ u ∈ us, Fine 1212 2 u
  | [], _, _, _, _, _ => fun _ m => nomatch m
  | v :: us, _, _, ⟨x, L, rfl, h1, h⟩, ⟨r, rs, rfl, k1, k⟩, ok => fun u m => by
    rcases List.mem_cons.mp m with rfl | m
    · exact k1.seq_fine (ok r (.head _)) h1
    · exact h.fine k (fun x m => ok x (.tail _ m)) u m
theorem SeqsL.len : ∀ {us : List D} {L : List (List D)}, SeqsL us L → us.length = L.length
  | [], L, h => by
    have h' : L = [] := h
    subst h'
    rfl
  | u :: us, _, ⟨x, L, rfl, _, h⟩ => by rw [List.length_cons, List.length_cons, h.len]
theorem seqs_lst : ∀ L : List (List D), SeqsL (L.map D.lst) L
  | [] => rfl
  | x :: L => ⟨x, L, rfl, .inl rfl, seqs_lst L⟩
/-- the role of the row ahead -/
def ahead (rows : List Rw) (last : Int) (place : Nat) : Int := if place = 0 then last else match rows[place - 1]? with | some r => r.role | none => last
/-- a row that is wrong, behind right ones -/
theorem tabF_at : ∀ {us : List D} {rs : List Rw} {last : Int} {place : Nat} {x : D} {rest : List D} {wd : Str}, Rise last us rs → place ≤ us.length → rowF (ahead rs last place) x = some wd → tabF last (us.take place ++ x :: rest) = some wd
  | us, rs, last, 0, x, rest, wd, _, _, h => by
    have h' : rowF last x = some wd := h
    show tabF last (x :: rest) = some wd
    unfold tabF
    rw [h']
  | u :: us, r :: rs, last, p + 1, x, rest, wd, ⟨hr, h1, h2, h3, h4, h5⟩, hp, h => by
    show tabF last (u :: (us.take p ++ x :: rest)) = some wd
    unfold tabF
    rw [rowF_good hr h1 h2 h3 h4]
    show tabF (roleOf u) (us.take p ++ x :: rest) = some wd
    rw [roleOf_of hr]
    refine tabF_at h5 (Nat.le_of_succ_le_succ hp) ?_
    rw [← h]
    congr 1
    unfold ahead
    rw [if_neg (Nat.succ_ne_zero p)]
    cases p with
    | zero => rfl
    | succ q =>
      rw [if_neg (Nat.succ_ne_zero q)]
      show (match rs[q]? with | some r => r.role | none => r.role) = (match (r :: rs)[q + 1]? with | some r => r.role | none => last)
      rw [List.getElem?_cons_succ]
      have hq : q < rs.length := by
        have := rise_len h5
        have hp' : q + 1 + 1 ≤ us.length + 1 := hp
        omega
      rw [List.getElem?_eq_getElem hq]
  | [], [], _, _ + 1, _, _, _, _, hp, _ => absurd hp (by simp)
  | [], _ :: _, _, _, _, _, _, h, _, _ => h.elim
  | _ :: _, [], _, _, _, _, _, h, _, _ => h.elim
/-- the forms of a wrong row -/
theorem rowF_row {last : Int} {x : D} (h : isRow x 3 3 = false) : rowF last x = some ("row" : Str) := by
  unfold rowF
  rw [if_pos h]
theorem isRow3 {x a b c : D} (e : items x = some [a, b, c]) : isRow x 3 3 = true := by
  unfold isRow
  rw [e]
  rfl
theorem rowF_role {last : Int} {x a b c : D} (e : items x = some [a, b, c]) (h : isWhole a (some (last + 1)) (some 5) = false) : rowF last x = some ("role" : Str) := by
  unfold rowF
  rw [if_neg (by rw [isRow3 e]; simp), e]
  exact if_pos h
theorem rowF_end {last : Int} {x a b c : D} (e : items x = some [a, b, c]) (h : isWhole a (some (last + 1)) (some 5) = true) (h2 : (isEnding b && isEnding c) = false) : rowF last x = some ("ending" : Str) := by
  unfold rowF
  rw [if_neg (by rw [isRow3 e]; simp), e]
  dsimp only
  rw [if_neg (by rw [h]; simp), if_pos h2]
theorem whole_no {x : D} {last : Int} (h : isWhole x (some 0) (some 5) = false) (hl : -1 ≤ last) : isWhole x (some (last + 1)) (some 5) = false := by
  cases x with
  | int n =>
    have h' : (decide (0 ≤ n) && decide (n ≤ 5)) = false := h
    show (decide (last + 1 ≤ n) && decide (n ≤ 5)) = false
    rw [Bool.and_eq_false_iff, decide_eq_false_iff_not, decide_eq_false_iff_not] at h' ⊢
    omega
  | bl k => rfl
  | _ => rfl
end L3
end
section
set_option Elab.async false
set_option linter.all false
set_option maxRecDepth 100000
set_option maxHeartbeats 1000000
namespace L3
open PySem PySem.Spec PyProof.Rows L2 PySem.W PySem.Calls Lo
/-- own rows, with their own list -/
def rowsS (ss : List SV) (M : List (List D)) : List OW := .hand :: .lst ss :: M.map fun r => OW.lst (r.map SV.d)
theorem rowsS_O (L : List (List D)) : rowsO L = rowsS (psO L.length) L := rfl
theorem rowsS_1 (ss ss' : List SV) (M : List (List D)) : (rowsS ss M).set 1 (.lst ss') = rowsS ss' M := rfl
theorem rowsS_2 (ss : List SV) (M : List (List D)) (k : Nat) (xs : List D) : (rowsS ss M).set (2 + k) (.lst (xs.map SV.d)) = rowsS ss (M.set k xs) := by
  rw [Nat.add_comm]
  show OW.hand :: OW.lst ss :: (M.map fun r => OW.lst (r.map SV.d)).set k (.lst (xs.map SV.d)) = OW.hand :: OW.lst ss :: (M.set k xs).map fun r => OW.lst (r.map SV.d)
  rw [List.map_set]
/-- as what they stand for -/
def fzM (us : List D) (M : List (List D)) (k : Nat) : Option D := if k = 0 then none else if k = 1 then some (.lst us) else (M[k - 2]?).map D.lst
theorem fzM_2 (us : List D) (M : List (List D)) (k : Nat) : fzM us M (2 + k) = (M[k]?).map D.lst := by
  unfold fzM
  rw [if_neg (by omega), if_neg (by omega), Nat.add_sub_cancel_left]
theorem TwL_ds (f : Nat → Option D) : ∀ xs : List D, TwL f (xs.map SV.d) xs
  | [] => rfl
  | x :: xs => ⟨x, xs, rfl, rfl, TwL_ds f xs⟩
theorem TwV.ds {f : Nat → Option D} {x : D} : TwV f (.d x) x := rfl
theorem TwL.set {f : Nat → Option D} {s : SV} {y : D} (h : TwV f s y) : ∀ {ss : List SV} {ys : List D} (k : Nat), TwL f ss ys → TwL f (ss.set k s) (ys.set k y)
  | [], ys, k, e => by
    have e' : ys = [] := e
    subst e'
    exact rfl
  | _ :: ss, _, 0, ⟨y', r, rfl, h1, h2⟩ => ⟨y, r, rfl, h, h2⟩
  | _ :: ss, _, k + 1, ⟨y', r, rfl, h1, h2⟩ => ⟨y', r.set k y, rfl, h1, TwL.set h k h2⟩
theorem TwL.len {f : Nat → Option D} : ∀ {ss : List SV} {ys : List D}, TwL f ss ys → ss.length = ys.length
  | [], ys, e => by
    have e' : ys = [] := e
    subst e'
    rfl
  | _ :: ss, _, ⟨y', r, rfl, h1, h2⟩ => by rw [List.length_cons, List.length_cons, TwL.len h2]
/-- what is asked of f -/
def FzL (f : Nat → Option D) (M : List (List D)) : Prop := ∀ k, f (2 + k) = (M[k]?).map D.lst
theorem TwL_ps {f : Nat → Option D} {M : List (List D)} (h : FzL f M) : TwL f (psO M.length) (M.map D.lst) := by
  have gen : ∀ (N : List (List D)) (b : Nat), (∀ j : Nat, j < N.length → M[b + j]? = N[j]?) → TwL f ((List.range N.length).map fun j => SV.p (2 + (b + j))) (N.map D.lst) := fun N => by
    induction N with
    | nil => exact fun _ _ => rfl
    | cons x N ih =>
      intro b e
      rw [List.length_cons, List.range_succ_eq_map, List.map_cons, List.map_map]
      refine ⟨.lst x, N.map D.lst, rfl, ?_, ?_⟩
      · show f (2 + (b + 0)) = some (.lst x)
        rw [h, e 0 (Nat.zero_lt_succ _)]
        rfl
      · have := ih (b + 1) fun j hj => by
          have := e (j + 1) (Nat.succ_lt_succ hj)
          rw [List.getElem?_cons_succ] at this
          rw [← this]
          congr 1
          omega
        have e2 : (List.range N.length).map (fun j => SV.p (2 + (b + 1 + j))) = (List.range N.length).map ((fun j => SV.p (2 + (b + j))) ∘ Nat.succ) := List.map_congr_left fun j _ => by
          show SV.p _ = SV.p _
          congr 1
          omega
        rw [← e2]
        exact this
  have := gen M 0 fun j _ => by rw [Nat.zero_add]
  have e2 : (List.range M.length).map (fun j => SV.p (2 + (0 + j))) = psO M.length := List.map_congr_left fun j _ => by rw [Nat.zero_add]
  rw [e2] at this
  exact this
/-- told rows: right, or wrong by a word -/
def Sit (rows : List Rw) (us : List D) : Option Str → Prop
  | none => RwL us rows
  | some wd => tabF (-1) us = some wd
structure Things (rows : List Rw) (o : List OW) (us : List D) (v : Option Str) : Prop where
  own : ∃ ss M, o = rowsS ss M ∧ ∀ f, FzL f M → TwL f ss us
  l : us.length = rows.length
  f : ∀ u ∈ us, Fine 1300 2 u
  sit : Sit rows us v
def wdD : Option Str → D
  | none => .non
  | some z => .str z
theorem Things.good {rows : List Rw} {L : List (List D)} (t : Tab rows) (h : RowsL L rows) : Things rows (rowsO L) (L.map D.lst) none :=
  ⟨⟨_, L, rowsS_O L, fun f hf => TwL_ps hf⟩, by rw [List.length_map, h.len], fun u m => ((seqs_lst L).fine h t.ok u m).mono (by decide) (Nat.le_refl _), (seqs_lst L).rwL h⟩
theorem mem_set {α : Type} {x u : α} {l : List α} {k : Nat} (h : u ∈ l.set k x) : u ∈ l ∨ u = x := List.mem_or_eq_of_mem_set h
theorem set_split {α : Type} : ∀ {l : List α} {k : Nat} (x : α), k < l.length → l.set k x = l.take k ++ x :: l.drop (k + 1)
  | y :: l, 0, x, _ => rfl
  | y :: l, k + 1, x, h => by
    show y :: l.set k x = y :: (l.take k ++ x :: l.drop (k + 1))
    rw [set_split x (Nat.lt_of_succ_lt_succ h)]
/-- a wrong row, and perhaps a hole behind it -/
theorem bad_at {rows : List Rw} {L : List (List D)} {k : Nat} {x : D} {wd : Str} (t : Tab rows) (h : RowsL L rows) (hk : k < L.length) (hx : rowF (ahead rows (-1) k) x = some wd) :
    tabF (-1) ((L.map D.lst).set k x) = some wd ∧ tabF (-1) (((L.map D.lst).set k x).set (k + 1) .non) = some wd := by
  have ri := t.rise ((seqs_lst L).rwL h)
  have hl : k < (L.map D.lst).length := by rw [List.length_map]; exact hk
  rw [set_split x hl]
  refine ⟨tabF_at ri (Nat.le_of_lt hl) hx, ?_⟩
  have e : ((L.map D.lst).take k ++ x :: (L.map D.lst).drop (k + 1)).set (k + 1) .non = (L.map D.lst).take k ++ x :: ((L.map D.lst).drop (k + 1)).set 0 .non := by
    rw [List.set_append_right _ _ (by rw [List.length_take]; omega), List.length_take, Nat.min_eq_left (Nat.le_of_lt hl), Nat.add_sub_cancel_left]
    rfl
  rw [e]
  exact tabF_at ri (Nat.le_of_lt hl) hx
theorem fine_no : Fine 300 0 .non := ⟨rfl, Nat.le_of_ble_eq_true rfl, Nat.zero_le _⟩
theorem role_fine {x : D} (h : noRole 6 x) : Fine 300 1 x := by
  obtain ⟨h1, _, _, h2, h3, _, _⟩ := h
  refine ⟨h2, h3, ?_⟩
  cases x with
  | lst xs => cases h1
  | tup xs => cases h1
  | dct ks vs => cases h1
  | obj c fs => cases h1
  | _ => exact Nat.zero_le _
theorem end_fine {x : D} (h : noEnd x) : Fine 300 1 x := ⟨h.s, h.b, h.l.2.2⟩
theorem prevR_of {rows : List Rw} {L : List (List D)} {k : Nat} (h : RowsL L rows) : prevR L k = ahead rows (-1) k := by
  unfold prevR ahead
  by_cases h0 : k = 0
  · rw [if_pos h0, if_pos h0]
  · rw [if_neg h0, if_neg h0]
    cases e : L[k - 1]? with
    | none =>
      have : rows[k - 1]? = none := by
        rw [List.getElem?_eq_none_iff] at e ⊢
        rw [← h.len]
        exact e
      rw [this]
    | some x =>
      obtain ⟨r, hr, y, z, rfl, _⟩ := h.at e
      rw [hr]
theorem ahead_lt {rows : List Rw} {k : Nat} {r : Rw} (t : Tab rows) (e : rows[k]? = some r) : -1 ≤ ahead rows (-1) k ∧ ahead rows (-1) k < r.role := by
  have r0 := (t.ok r (List.mem_of_getElem? e)).2.2.1
  unfold ahead
  by_cases h0 : k = 0
  · rw [if_pos h0]
    omega
  · rw [if_neg h0]
    cases e2 : rows[k - 1]? with
    | none =>
      show -1 ≤ (-1 : Int) ∧ (-1 : Int) < r.role
      omega
    | some q =>
      obtain ⟨h1, g1⟩ := List.getElem?_eq_some_iff.mp e
      obtain ⟨h2, g2⟩ := List.getElem?_eq_some_iff.mp e2
      have := List.pairwise_iff_getElem.mp t.up (k - 1) k h2 h1 (by omega)
      rw [g1, g2] at this
      have q0 := (t.ok q (List.mem_of_getElem? e2)).2.2.1
      exact ⟨by show -1 ≤ q.role; omega, this⟩
theorem Things.spoilt {rows : List Rw} {L : List (List D)} {place : Nat} {d : D} {o : List OW} (t : Tab rows) (h : RowsL L rows) (sp : spPost L place d o) :
    ∃ (wd : Str) (us : List D) (ss : List SV) (M : List (List D)), d = .str wd ∧ o = rowsS ss M ∧ ss.length = L.length ∧ M.length = L.length ∧ (∀ s ∈ ss, ∀ k, s = .p k → k < L.length + 2) ∧ Things rows (rowsS ss M) us (some wd) ∧ Things rows (rowsS (ss.set (place + 1) (.d .non)) M) (us.set (place + 1) .non) (some wd) := by
  obtain ⟨row, hat, hs⟩ := sp
  have hk := (List.getElem?_eq_some_iff.mp hat).1
  obtain ⟨r, hr, hrow⟩ := h.at hat
  obtain ⟨y, z, e3, hy, hz⟩ := hrow.e
  have hf := hrow.fine (t.ok r (List.mem_of_getElem? hr))
  have ah := ahead_lt t hr
  have lL := h.len
  have key : ∀ (wd : Str) (x : D) (ss : List SV) (M : List (List D)), rowF (ahead rows (-1) place) x = some wd → Fine 1300 2 x → d = .str wd → o = rowsS ss M → ss.length = L.length → M.length = L.length → (∀ s ∈ ss, ∀ k, s = .p k → k < L.length + 2) → (∀ f, FzL f M → TwL f ss ((L.map D.lst).set place x)) → ∃ (wd : Str) (us : List D) (ss : List SV) (M : List (List D)), d = .str wd ∧ o = rowsS ss M ∧ ss.length = L.length ∧ M.length = L.length ∧ (∀ s ∈ ss, ∀ k, s = .p k → k < L.length + 2) ∧ Things rows (rowsS ss M) us (some wd) ∧ Things rows (rowsS (ss.set (place + 1) (.d .non)) M) (us.set (place + 1) .non) (some wd) := fun wd x ss M hx fx hd ho l1 l2 hp tw => by
    have b := bad_at t h hk hx
    have fu : ∀ u ∈ (L.map D.lst).set place x, Fine 1300 2 u := fun u m => by
      rcases mem_set m with m | rfl
      · exact ((seqs_lst L).fine h t.ok u m).mono (by decide) (Nat.le_refl _)
      · exact fx
    refine ⟨wd, _, ss, M, hd, ho, l1, l2, hp, ⟨⟨ss, M, rfl, tw⟩, by rw [List.length_set, List.length_map, lL], fu, b.1⟩, ⟨⟨_, M, rfl, fun f hf => TwL.set TwV.ds _ (tw f hf)⟩, by rw [List.length_set, List.length_set, List.length_map, lL], fun u m => ?_, b.2⟩⟩
    rcases mem_set m with m | rfl
    · exact fu u m
    · exact fine_no.mono (by decide) (Nat.zero_le _)
  have psx : ∀ s ∈ psO L.length, ∀ k, s = .p k → k < L.length + 2 := fun s m k e => psO_in m e
  have lps : ∀ n, (psO n).length = n := fun n => by
    unfold psO
    rw [List.length_map, List.length_range]
  have keyR : ∀ (wd : Str) (xs : List D), rowF (ahead rows (-1) place) (.lst xs) = some wd → (∀ x ∈ xs, Fine 300 1 x) → xs.length = 3 → d = .str wd → o = (rowsO L).set (2 + place) (.lst (xs.map SV.d)) → _ := fun wd xs hx fx l3 hd ho => key wd (.lst xs) (psO L.length) (L.set place xs) hx ((Fine.lst (c := 300) (n := 1) (m := 4) fx (by omega) (by decide)).mono (Nat.le_refl _) (Nat.le_refl _)) hd (by rw [ho, rowsS_O, rowsS_2]) (lps _) (by rw [List.length_set]) psx fun f hf => by
    have := TwL_ps hf
    rw [List.length_set, List.map_set] at this
    exact this
  rcases hs with ⟨x, hd, hx, ho⟩ | ⟨x, hd, hx, ho⟩ | ⟨k, x, hd, hk2, hx, ho⟩
  · have iR : isRow x 3 3 = false ∧ Fine 1300 2 x := by
      rcases hx with rfl | rfl | rfl | rfl | rfl
      · exact ⟨rfl, fine_no.mono (by decide) (Nat.zero_le _)⟩
      · exact ⟨rfl, ⟨rfl, Nat.le_of_ble_eq_true rfl, Nat.le_of_ble_eq_true rfl⟩⟩
      · subst e3
        exact ⟨rfl, Fine.lst (c := 300) (n := 1) (m := 4) (fun u m => hf u (List.mem_of_mem_take m)) (Nat.le_of_ble_eq_true rfl) (by decide)⟩
      · subst e3
        refine ⟨rfl, Fine.lst (c := 300) (n := 1) (m := 4) (fun u m => ?_) (Nat.le_of_ble_eq_true rfl) (by decide)⟩
        rcases List.mem_append.mp m with m | m
        · exact hf u m
        · exact hf u (List.mem_of_mem_take m)
      · exact ⟨rfl, Fine.str (by decide +kernel) (by decide +kernel)⟩
    exact key "row" x ((psO L.length).set place (.d x)) L (rowF_row iR.1) iR.2 hd (by rw [ho]; rfl) (by rw [List.length_set, lps]) rfl (fun s m k e => by
      rcases mem_set m with m | rfl
      · exact psx s m k e
      · cases e) fun f hf => TwL.set TwV.ds _ (TwL_ps hf)
  · subst e3
    have fx : Fine 300 1 x ∧ isWhole x (some (ahead rows (-1) place + 1)) (some 5) = false := by
      rcases hx with hx | ⟨n, rfl, n0, n1⟩
      · exact ⟨role_fine hx, whole_no hx.2.2.2.2.2.2 ah.1⟩
      · rw [prevR_of h] at n1
        have r5 := (t.ok r (List.mem_of_getElem? hr)).2.2.2
        refine ⟨fine_role n0 (by omega), ?_⟩
        show (decide (ahead rows (-1) place + 1 ≤ n) && decide (n ≤ 5)) = false
        rw [decide_eq_false (by omega)]
        rfl
    exact keyR "role" [x, y, z] (rowF_role rfl fx.2) (fun u m => by
      rcases List.mem_cons.mp m with rfl | m
      · exact fx.1
      · exact hf u (.tail _ m)) rfl hd ho
  · subst e3
    have w1 : isWhole (.int r.role) (some (ahead rows (-1) place + 1)) (some 5) = true := by
      have r5 := (t.ok r (List.mem_of_getElem? hr)).2.2.2
      show (decide (ahead rows (-1) place + 1 ≤ r.role) && decide (r.role ≤ 5)) = true
      rw [decide_eq_true (by omega), decide_eq_true r5]
      rfl
    rcases hk2 with rfl | rfl
    · refine keyR "ending" [.int r.role, x, z] (rowF_end rfl w1 (by rw [hx.e]; rfl)) (fun u m => ?_) rfl hd ho
      simp only [List.mem_cons, List.not_mem_nil, or_false] at m
      rcases m with rfl | rfl | rfl
      · exact hf _ (.head _)
      · exact end_fine hx
      · exact hf _ (.tail _ (.tail _ (.head _)))
    · refine keyR "ending" [.int r.role, y, x] (rowF_end rfl w1 (by rw [hx.e]; simp)) (fun u m => ?_) rfl hd ho
      simp only [List.mem_cons, List.not_mem_nil, or_false] at m
      rcases m with rfl | rfl | rfl
      · exact hf _ (.head _)
      · exact hf _ (.tail _ (.head _))
      · exact end_fine hx
/-- frozen -/
theorem rel_rows (us : List D) (M : List (List D)) (ss : List SV) : relOs (fzM us M) 0 (rowsS ss M) = .hand :: .gone :: M.map fun _ => OW.gone := by
  have gen : ∀ (N : List (List D)) (k : Nat), (∀ j, j < N.length → ∃ d, fzM us M (k + j) = some d) → relOs (fzM us M) k (N.map fun r => OW.lst (r.map SV.d)) = N.map fun _ => OW.gone := fun N => by
    induction N with
    | nil => exact fun _ _ => rfl
    | cons x N ih =>
      intro k e
      show relO (fzM us M) k _ :: relOs (fzM us M) (k + 1) _ = _ :: _
      rw [ih (k + 1) fun j hj => by
        have := e (j + 1) (Nat.succ_lt_succ hj)
        rw [show k + 1 + j = k + (j + 1) by omega]
        exact this]
      obtain ⟨d, hd⟩ := e 0 (Nat.zero_lt_succ _)
      rw [Nat.add_zero] at hd
      unfold relO
      rw [hd]
  show OW.hand :: OW.gone :: relOs (fzM us M) 2 _ = _
  rw [gen M 2 fun j hj => ⟨.lst M[j], by rw [fzM_2, List.getElem?_eq_getElem hj]; rfl⟩]
theorem two_rows {us : List D} {M : List (List D)} {ss : List SV} (h : TwL (fzM us M) ss us) : ∀ k d, fzM us M k = some d → TwO (fzM us M) (rowsS ss M) k d := fun k d e => by
  match k, e with
  | 0, e => cases e
  | 1, e =>
    have e' : some (D.lst us) = some d := e
    cases e'
    exact ⟨ss, rfl, h⟩
  | k + 2, e =>
    rw [Nat.add_comm, fzM_2] at e
    obtain ⟨r, hr, rfl⟩ := Option.map_eq_some_iff.mp e
    refine ⟨r.map SV.d, ?_, TwL_ds _ r⟩
    show (M.map fun r => OW.lst (r.map SV.d))[k]? = _
    rw [List.getElem?_map, hr]
    rfl
/-- a told table: right, or wrong by a word -/
def TSit (rows : List Rw) (t : D) : Option Str → Prop
  | none => ∃ us, items t = some us ∧ RwL us rows
  | some wd => tabW t = some wd
theorem isRow_of {t : D} {us : List D} {lo hi : Int} (e : items t = some us) (h1 : lo ≤ us.length) (h2 : (us.length : Int) ≤ hi) : isRow t lo hi = true := by
  unfold isRow
  rw [e]
  show (decide _ && decide _) = true
  rw [decide_eq_true h1, decide_eq_true h2]
  rfl
theorem Sit.tsit {rows : List Rw} {t : D} {us : List D} {v : Option Str} (e : items t = some us) (l1 : 1 ≤ us.length) (l6 : us.length ≤ 6) (h : Sit rows us v) : TSit rows t v := by
  cases v with
  | none => exact ⟨us, e, h⟩
  | some wd =>
    show tabW t = some wd
    unfold tabW
    rw [if_neg (by rw [isRow_of e (by omega) (by omega)]; simp), e]
    exact h
theorem tabW_no {t : D} (h : isRow t 1 6 = false) : tabW t = some ("table" : Str) := by
  unfold tabW
  rw [if_pos h]
theorem rep7 {us : List D} (h : 1 ≤ us.length) : isRow (.lst (List.replicate 7 us).flatten) 1 6 = false := by
  unfold isRow
  show (decide _ && decide _) = false
  rw [Bool.and_eq_false_iff]
  right
  refine decide_eq_false ?_
  simp only [List.length_flatten, List.map_replicate, List.sum_replicate_nat]
  omega
theorem rep7_fine {us : List D} (h : us.length ≤ 6) (f : ∀ u ∈ us, Fine 1300 2 u) : Fine 60000 3 (.lst (List.replicate 7 us).flatten) := by
  refine Fine.lst (c := 1300) (n := 2) (m := 42) (fun u m => ?_) ?_ (by decide)
  · obtain ⟨l, hl, hu⟩ := List.mem_flatten.mp m
    rw [(List.mem_replicate.mp hl).2] at hu
    exact f u hu
  · simp only [List.length_flatten, List.map_replicate, List.sum_replicate_nat]
    omega
/-- the whole: right, or wrong by a word -/
def NSit (z : Str) (rows : List Rw) (nm t : D) : Option Str → Prop
  | none => nm = .str z ∧ ∃ us, items t = some us ∧ RwL us rows
  | some wd => stW nm t = some wd
theorem TSit.nsit {z : Str} {rows : List Rw} {t : D} {v : Option Str} (n : Nam z) (h : TSit rows t v) : NSit z rows (.str z) t v := by
  cases v with
  | none => exact ⟨rfl, h⟩
  | some wd =>
    show stW (.str z) t = some wd
    unfold stW
    rw [if_neg (by rw [n.is]; simp)]
    exact h
theorem nsit_no {z : Str} {rows : List Rw} {nm t : D} (h : isName nm 8 = false) : NSit z rows nm t (some "name") := by
  show stW nm t = some _
  unfold stW
  rw [if_pos h]
theorem name_long {z : Str} (h : Nam z) : isName (.str (z ++ "abcdefgh")) 8 = false := by
  have e : (z ++ ("abcdefgh" : Str)).length = z.length + 8 := by
    show (z.cps ++ ("abcdefgh" : Str).cps).size = _
    rw [Array.size_append]
    rfl
  show (decide (1 ≤ ((z ++ ("abcdefgh" : Str)).length : Int)) && (decide (((z ++ ("abcdefgh" : Str)).length : Int) ≤ 8) && lett (z ++ "abcdefgh"))) = false
  rw [e, decide_eq_false (p := ((z.length + 8 : Nat) : Int) ≤ 8) (by have := h.l1; omega)]
  simp
theorem name_A {z : Str} : isName (.str (z ++ "A")) 8 = false := by
  show (decide (1 ≤ ((z ++ ("A" : Str)).length : Int)) && (decide (((z ++ ("A" : Str)).length : Int) ≤ 8) && lett (z ++ "A"))) = false
  rw [lett_app, show lett ("A" : Str) = false by decide +kernel]
  simp
theorem Str.length_app (x y : Str) : (x ++ y).length = x.length + y.length := by
  show (x.cps ++ y.cps).size = _
  rw [Array.size_append]
  rfl
theorem okStr_lit {z : Str} (h : z.length ≤ 100000) : okStr (.str z) := ⟨rfl, fun y e => by cases e; exact h⟩
theorem rowF_ok {last : Int} {x : D} {wd : Str} (h : rowF last x = some wd) : okSt wd = true := by
  unfold rowF at h
  split at h
  · cases h
    decide +kernel
  · split at h
    · split at h
      · cases h
        decide +kernel
      · split at h
        · cases h
          decide +kernel
        · cases h
    · cases h
theorem tabF_ok {wd : Str} : ∀ {us : List D} {last : Int}, tabF last us = some wd → okSt wd = true
  | [], _, h => by cases h
  | u :: us, last, h => by
    unfold tabF at h
    split at h
    · rename_i wd' e
      cases h
      exact rowF_ok e
    · exact tabF_ok h
theorem word_ok {nm t : D} {wd : Str} (h : stW nm t = some wd) : okSt wd = true := by
  unfold stW at h
  split at h
  · cases h
    decide +kernel
  · unfold tabW at h
    split at h
    · cases h
      decide +kernel
    · exact tabF_ok h
theorem okd_bad {wd : Str} (h : okSt wd = true) : (D.tup [.str "bad", .str wd]).okd = true := by
  refine okd_tup fun x m => ?_
  simp only [List.mem_cons, List.not_mem_nil, or_false] at m
  rcases m with rfl | rfl
  · exact ⟨rfl, okd_str (by decide +kernel)⟩
  · exact ⟨rfl, okd_str h⟩
end L3
end
section
set_option Elab.async false
set_option linter.all false
namespace Lo
open PySem PySem.Spec PyProof.Rows L2 PySem.W PySem.Calls
theorem renS_range {n : Nat} {x : SV} (h : inS n x) : renS (List.range n) x = x := by
  cases x with
  | p k =>
    have h' : k < n := h
    show SV.p ((List.range n).getD k 0) = _
    rw [List.getD_eq_getElem?_getD, List.getElem?_range h']
    rfl
  | _ => rfl
theorem map_id_of {α : Type} {f : α → α} : ∀ {l : List α}, (∀ x ∈ l, f x = x) → l.map f = l
  | [], _ => rfl
  | x :: l, h => by
    rw [List.map_cons, h x (.head _), map_id_of fun y m => h y (.tail _ m)]
theorem renO_range {n : Nat} {o : OW} (h : inO n o) : renO (List.range n) o = o := by
  cases o with
  | lst xs =>
    show OW.lst _ = _
    rw [map_id_of fun x m => renS_range (h x m)]
  | ins c fs =>
    show OW.ins c _ = _
    rw [map_id_of fun x m => by rw [renS_range (h x.2 (List.mem_map.mpr ⟨x, m, rfl⟩))]]
  | dct kvs =>
    show OW.dct _ = _
    rw [map_id_of fun x m => by rw [renS_range (h x.2 (List.mem_map.mpr ⟨x, m, rfl⟩))]]
  | _ => rfl
theorem putAll_range {n : Nat} {o ow : List OW} (h1 : o.length = n) (h2 : ow.length = n) : putAll o (List.range n) ow = ow := by
  refine List.ext_getElem? fun k => ?_
  by_cases hk : k < n
  · exact (putAll_at (ks := List.range n) (xs := ow) List.nodup_range (List.getElem?_range hk) (List.getElem?_eq_getElem (by omega)) (by omega)).trans (List.getElem?_eq_getElem (by omega)).symm
  · rw [List.getElem?_eq_none (by rw [putAll_len]; omega), List.getElem?_eq_none (by omega)]
section
variable {T : Tb} {b : Bd} {own : List OW} {ds : List (Option SV)} {P : PSv}
variable {ι : Type} {args : ι → List SV} {own0 : ι → List OW} {pre : ι → Prop} {post : ι → D → List OW → Prop}
/-- all that is owned is handed -/
theorem we_callOw {E : XK} {ta : TA} (n : Nat)
    (h : WA T b ta own ds fun ss o => ∃ i, ss = args i ∧ pre i ∧ (∀ x ∈ args i, inS n x) ∧ o = own0 i ∧ (own0 i).length = n ∧ (∀ x ∈ own0 i, x ≠ .gone ∧ inO n x) ∧
      ∀ d ow', post i d ow' → ow'.length = n ∧ (∀ x ∈ ow', inO n x) ∧ P (.d d) ow') :
    WE T b (tCall (SpO T (FvO args own0 pre post)) [] E ta) own ds P :=
  we_callO (List.range n) List.nodup_range fun W σ ha sl R q => h W σ ha sl R fun vs ss o W' h' l r ⟨i, e, p, hin, ho, hn, hx, hp⟩ => q vs ss o W' h' l r
    ⟨i, by rw [e, map_id_of fun x m => renS_range (hin x m)], p, by rw [List.length_range]; exact hin, by rw [List.length_range]; exact hn, fun j x e => by
      have hj := (List.getElem?_eq_some_iff.mp e).1
      have hx' := hx x (List.mem_of_getElem? e)
      rw [List.length_range]
      refine ⟨hx'.1, hx'.2, j, List.getElem?_range (by omega), ?_⟩
      rw [renO_range hx'.2, ho]
      exact e, fun d ow' hpo => by
      obtain ⟨h1, h2, h3⟩ := hp d ow' hpo
      rw [List.length_range, map_id_of fun x m => renO_range (h2 x m), putAll_range (by rw [ho]; exact hn) h1]
      exact ⟨h1, h2, h3⟩⟩
end
end Lo
end
section
set_option Elab.async false
set_option linter.all false
set_option maxRecDepth 100000
set_option maxHeartbeats 2000000
namespace L3
open PySem PySem.Spec PyProof.Rows L2 PySem.W PySem.Calls Lo
local macro_rules | `(tactic| walk_at "sd") => `(tactic| first | exact .d | rfl | assumption | (with_reducible decide) | omega | exact .nil | exact AllD.nil)
local macro_rules | `(tactic| walk_at "we") => `(tactic| first
  | ((with_reducible refine' we_var ?hv ?_); (case hv => rfl))
  | (with_reducible refine we_int ?_)
  | (with_reducible refine we_op ?_)
  | (with_reducible refine we_str ?_)
  | (with_reducible refine we_isi ?_)
  | (with_reducible refine we_isi2 ?_)
  | (with_reducible refine we_cb ?_)
  | (with_reducible refine we_andV ?_)
  | (with_reducible refine we_orV ?_)
  | (with_reducible refine we_notV ?_)
  | (with_reducible refine we_non ?_)
  | (with_reducible refine we_bl ?_)
  | (with_reducible refine we_if ?_)
  | (with_reducible refine we_un ?_)
  | (with_reducible refine we_cal0 ?_)
  | (with_reducible refine we_cal2 ?_)
  | (with_reducible refine we_calH ?_)
  | (with_reducible refine we_prp ?_)
  | (with_reducible refine we_tup ?_)
  | (with_reducible refine we_chain ?_))
local macro_rules | `(tactic| walk_at "ws") => `(tactic| first
  | (with_reducible refine ws_seq ?_)
  | (with_reducible refine ws_if ?_)
  | (with_reducible refine ws_set ?_)
  | (with_reducible refine ws_ret ?_)
  | (with_reducible refine ws_next ?_)
  | (with_reducible refine ws_drop ?_)
  | (with_reducible refine ws_retN ?_))
local macro_rules | `(tactic| walk_at "wt") => `(tactic| first
  | (with_reducible refine wt_test ?_)
  | (with_reducible refine wt_B ?_)
  | (with_reducible refine wt_and ?_)
  | (with_reducible refine wt_or ?_)
  | (with_reducible refine wt_not ?_))
local macro_rules | `(tactic| walk_at "wr") => `(tactic| first
  | (with_reducible refine wr_addI ?_)
  | (with_reducible refine wr_leI ?_)
  | (with_reducible refine wr_B0 ?_)
  | (with_reducible refine wr_I0 ?_)
  | (with_reducible refine wr_isN ?_)
  | (with_reducible refine wr_notN ?_)
  | (with_reducible refine wr_leS ?_)
  | ((with_reducible refine' wr_ixL ?hv ?_); (case hv => rfl))
  | ((with_reducible refine' wr_ixT ?hv ?_); (case hv => rfl))
  | ((with_reducible refine' wr_ixO ?hv ?hw ?_); (case hv => rfl); (case hw => rfl))
  | ((with_reducible refine' wr_eqD ?h1 ?h2 ?h3 ?h4 ?_); (case h1 => exact .d); (case h2 => exact .d); (case h3 => rfl); (case h4 => rfl))
  | ((with_reducible refine' wr_neD ?h1 ?h2 ?h3 ?h4 ?_); (case h1 => exact .d); (case h2 => exact .d); (case h3 => rfl); (case h4 => rfl)))
local macro_rules | `(tactic| walk_at "da") => `(tactic| first
  | (with_reducible refine ⟨_, rfl, ?_⟩)
  | (with_reducible refine ⟨fun _ => ?_, fun h => Bool.noConfusion h⟩)
  | (with_reducible refine ⟨fun h => Bool.noConfusion h, fun _ => ?_⟩)
  | (with_reducible refine ⟨_, rfl, ?_, ?_⟩)
  | ((with_reducible refine' ⟨_, _, .d, ?h1, ?h2, ?_⟩); (case h1 => walk_at "sd"); (case h2 => rfl))
  | ((with_reducible refine' ⟨_, _, _, .d, ?h1, ?h2, ?h3, ?_⟩); (case h1 => walk_at "sd"); (case h2 => rfl); (case h3 => rfl))
  | (with_reducible refine ⟨fun hk => ?_, fun hk => ?_⟩)
  | (show ∃ d, SV.d _ = SV.d d ∧ _; with_reducible refine ⟨_, rfl, ?_⟩))
local macro_rules | `(tactic| walk_at "lo") => `(tactic| first
  | ((with_reducible show Lo.WE _ _ _ _ _ _); walk_at "we")
  | ((with_reducible show Lo.WA _ _ _ _ _ _); first | (with_reducible refine wa_cons ?_) | (with_reducible refine wa_nil ?_))
  | ((with_reducible show Lo.WS _ _ _ _ _ _); walk_at "ws")
  | ((with_reducible show Lo.WT _ _ _ _ _ _); walk_at "wt")
  | ((with_reducible show Lo.WR _ _ _ _ _ _ _); walk_at "wr")
  | ((with_reducible show Lo.WU _ _ _ _ _ _); (with_reducible refine wu_neg ?_))
  | ((with_reducible show Lo.WC _ _ _ _ _ _); first | ((with_reducible refine' wc_len ?hv ?_); (case hv => rfl)) | (with_reducible refine wc_int ?_))
  | walk_at "da")
local macro_rules | `(tactic| walk_at "wq") => `(tactic| first
  | (with_reducible refine ws_seq (t := tAsg _ _) ?_)
  | (with_reducible refine ws_seq (t := tDrop _) ?_)
  | (with_reducible refine ws_set ?_)
  | (with_reducible refine ws_ret ?_)
  | (with_reducible refine ws_next ?_)
  | (with_reducible refine ws_drop ?_)
  | (with_reducible refine ws_retN ?_))
local macro_rules | `(tactic| walk_at "lq") => `(tactic| first
  | ((with_reducible show Lo.WE _ _ _ _ _ _); walk_at "we")
  | ((with_reducible show Lo.WA _ _ _ _ _ _); first | (with_reducible refine wa_cons ?_) | (with_reducible refine wa_nil ?_))
  | ((with_reducible show Lo.WS _ _ _ _ _ _); walk_at "wq")
  | ((with_reducible show Lo.WT _ _ _ _ _ _); walk_at "wt")
  | ((with_reducible show Lo.WR _ _ _ _ _ _ _); walk_at "wr")
  | ((with_reducible show Lo.WU _ _ _ _ _ _); (with_reducible refine wu_neg ?_))
  | ((with_reducible show Lo.WC _ _ _ _ _ _); first | ((with_reducible refine' wc_len ?hv ?_); (case hv => rfl)) | (with_reducible refine wc_int ?_))
  | walk_at "da")
local macro_rules | `(tactic| walk_at "ws") => `(tactic| (with_reducible refine ws_sub ?_))
local macro_rules | `(tactic| walk_at "wq") => `(tactic| (with_reducible refine ws_sub ?_))
local macro_rules | `(tactic| walk_at "da") => `(tactic| ((with_reducible show ∃ (i : Int) (j : Nat) (ss : List SV), SV.d (D.int _) = SV.d (D.int i) ∧ _); refine ⟨_, _, _, rfl, (rfl : _ = some (OW.lst _)), rfl, ?_⟩))
local macro_rules | `(tactic| walk_at "da") => `(tactic| ((with_reducible show ∃ (k : Nat) (ss : List SV), SV.p _ = SV.p k ∧ _); refine ⟨_, _, rfl, (rfl : _ = some (OW.lst _)), ?_⟩))
local macro_rules | `(tactic| walk_at "we") => `(tactic| (with_reducible refine we_bm ?_))
local macro_rules | `(tactic| walk_at "lo") => `(tactic| ((with_reducible show Lo.WC _ _ (Lo.rLen _) _ [SV.p _] _); refine wc_lenO (rfl : _ = some (OW.lst _)) ?_))
local macro_rules | `(tactic| walk_at "lq") => `(tactic| ((with_reducible show Lo.WC _ _ (Lo.rLen _) _ [SV.p _] _); refine wc_lenO (rfl : _ = some (OW.lst _)) ?_))
local macro_rules | `(tactic| walk_at "da") => `(tactic| ((with_reducible show ∃ (k : Nat) (sr : List SV) (xs : List D), [SV.p _] = SV.p k :: sr ∧ _); refine ⟨_, _, _, rfl, (rfl : _ = some OW.hand), .nil, ?_⟩))
local macro_rules | `(tactic| walk_at "da") => `(tactic| ((with_reducible show ∃ (k : Nat) (sr : List SV) (xs : List D), [SV.p _, SV.d _] = SV.p k :: sr ∧ _); refine ⟨_, _, _, rfl, (rfl : _ = some OW.hand), .cons .nil, ?_⟩))
local macro_rules | `(tactic| walk_at "da") => `(tactic| ((with_reducible show ∃ (k : Nat) (sr : List SV) (xs : List D), [SV.p _, SV.d _, SV.d _] = SV.p k :: sr ∧ _); refine ⟨_, _, _, rfl, (rfl : _ = some OW.hand), .cons (.cons .nil), ?_⟩))
local macro_rules | `(tactic| walk_at "da") => `(tactic| ((with_reducible show ∃ (xs : List D), AllD [] xs ∧ _); refine ⟨_, .nil, ?_⟩))
local macro_rules | `(tactic| walk_at "da") => `(tactic| ((with_reducible show ∃ (xs : List D), AllD [SV.d _] xs ∧ _); refine ⟨_, .cons .nil, ?_⟩))
local macro_rules | `(tactic| walk_at "da") => `(tactic| ((with_reducible show ∃ (xs : List D), AllD [SV.d _, SV.d _] xs ∧ _); refine ⟨_, .cons (.cons .nil), ?_⟩))
local macro_rules | `(tactic| walk_at "da") => `(tactic| ((with_reducible show ∃ (xs : List D), AllD [SV.d _, SV.d _, SV.d _] xs ∧ _); refine ⟨_, .cons (.cons (.cons .nil)), ?_⟩))
local macro_rules | `(tactic| walk_at "da") => `(tactic| ((with_reducible show ∃ (xs : List D), AllD [SV.d _, SV.d _, SV.d _, SV.d _] xs ∧ _); refine ⟨_, .cons (.cons (.cons (.cons .nil))), ?_⟩))
local macro_rules | `(tactic| walk_at "lo") => `(tactic| ((with_reducible show Lo.WO _ _ _ _ _ _); first | (with_reducible refine wo_none ?_) | (with_reducible refine wo_some ?_)))
local macro_rules | `(tactic| walk_at "lq") => `(tactic| ((with_reducible show Lo.WO _ _ _ _ _ _); first | (with_reducible refine wo_none ?_) | (with_reducible refine wo_some ?_)))
local macro_rules | `(tactic| walk_at "da") => `(tactic| first | ((with_reducible refine' takeG ?h ?_); (case h => (constructor <;> omega)); (intro k h0 h1)) | fail "no")
local macro_rules | `(tactic| walk_at "wr") => `(tactic| first | ((with_reducible refine' wr_pow ?h ?_); (case h => exact ⟨by decide, by decide, by decide⟩)) | fail "no")
local macro_rules | `(tactic| walk_at "we") => `(tactic| first | (with_reducible refine we_dnew ?_) | (with_reducible refine we_setd ?_) | (with_reducible refine we_dget ?_) | (with_reducible refine we_dget2 ?_) | (with_reducible refine we_sadd ?_) | fail "no")
local macro_rules | `(tactic| walk_at "lo") => `(tactic| ((with_reducible show Lo.WC _ _ (rSet0 _) _ _ _); refine wc_set0 ?_))
local macro_rules | `(tactic| walk_at "da") => `(tactic| ((with_reducible show ∃ (ks : List L2.Key) (vs : List D), SV.d (D.dct _ _) = SV.d (D.dct ks vs) ∧ _); refine ⟨_, _, rfl, ?_⟩))
local macro_rules | `(tactic| walk_at "da") => `(tactic| ((with_reducible show ∃ (dy : D) (key : L2.Key), SV.d (D.int _) = SV.d dy ∧ _); refine ⟨_, _, rfl, rfl, ?_⟩))
local macro_rules | `(tactic| walk_at "we") => `(tactic| first | (with_reducible refine we_bm0 ?_) | fail "no")
local macro_rules | `(tactic| walk_at "wr") => `(tactic| first | ((with_reducible show WR _ _ (rSNotIn _) _ _ _ _); refine wr_snotin (rfl : _ = some (oSet _ _ _)) ?_) | fail "no")
local macro_rules | `(tactic| walk_at "da") => `(tactic| ((with_reducible show ∃ (k : Nat) (S : Int → Bool) (n : Nat), SV.p _ = SV.p k ∧ _); refine ⟨_, _, _, rfl, (rfl : _ = some (oSet _ _ _)), ?_⟩))

local macro_rules | `(tactic| walk_at "lo") => `(tactic| ((with_reducible show List.length _ ≤ 100000 ∧ _); first | (refine ⟨Nat.le_of_ble_eq_true rfl, ?_⟩) | fail "no"))
local macro_rules | `(tactic| walk_at "lq") => `(tactic| ((with_reducible show List.length _ ≤ 100000 ∧ _); first | (refine ⟨Nat.le_of_ble_eq_true rfl, ?_⟩) | fail "no"))
local macro_rules | `(tactic| walk_at "lo") => `(tactic| ((with_reducible show ∃ (xs : List D), AllD [SV.d _, SV.d _, SV.d _, SV.d _, SV.d _] xs ∧ _); refine ⟨_, .cons (.cons (.cons (.cons (.cons .nil)))), ?_⟩))
local macro_rules | `(tactic| walk_at "lq") => `(tactic| ((with_reducible show ∃ (xs : List D), AllD [SV.d _, SV.d _, SV.d _, SV.d _, SV.d _] xs ∧ _); refine ⟨_, .cons (.cons (.cons (.cons (.cons .nil)))), ?_⟩))
local macro_rules | `(tactic| walk_at "lo") => `(tactic| ((with_reducible show ∃ (xs : List D), AllD [SV.d _, SV.d _, SV.d _, SV.d _, SV.d _, SV.d _] xs ∧ _); refine ⟨_, .cons (.cons (.cons (.cons (.cons (.cons .nil))))), ?_⟩))
local macro_rules | `(tactic| walk_at "lq") => `(tactic| ((with_reducible show ∃ (xs : List D), AllD [SV.d _, SV.d _, SV.d _, SV.d _, SV.d _, SV.d _] xs ∧ _); refine ⟨_, .cons (.cons (.cons (.cons (.cons (.cons .nil))))), ?_⟩))
local macro_rules | `(tactic| walk_at "lo") => `(tactic| ((with_reducible show ∃ (xs : List D), AllD [SV.d _, SV.d _, SV.d _, SV.d _, SV.d _, SV.d _, SV.d _] xs ∧ _); refine ⟨_, .cons (.cons (.cons (.cons (.cons (.cons (.cons .nil)))))), ?_⟩))
local macro_rules | `(tactic| walk_at "lq") => `(tactic| ((with_reducible show ∃ (xs : List D), AllD [SV.d _, SV.d _, SV.d _, SV.d _, SV.d _, SV.d _, SV.d _] xs ∧ _); refine ⟨_, .cons (.cons (.cons (.cons (.cons (.cons (.cons .nil)))))), ?_⟩))
local macro_rules | `(tactic| walk_at "lo") => `(tactic| ((with_reducible show ∃ (xs : List D), AllD [SV.d _, SV.d _, SV.d _, SV.d _, SV.d _, SV.d _, SV.d _, SV.d _] xs ∧ _); refine ⟨_, .cons (.cons (.cons (.cons (.cons (.cons (.cons (.cons .nil))))))), ?_⟩))
local macro_rules | `(tactic| walk_at "lq") => `(tactic| ((with_reducible show ∃ (xs : List D), AllD [SV.d _, SV.d _, SV.d _, SV.d _, SV.d _, SV.d _, SV.d _, SV.d _] xs ∧ _); refine ⟨_, .cons (.cons (.cons (.cons (.cons (.cons (.cons (.cons .nil))))))), ?_⟩))
local macro_rules | `(tactic| walk_at "lo") => `(tactic| ((with_reducible show Lo.WE _ _ (tLst (tCons _ _)) _ _ _); refine we_lst ?_))
local macro_rules | `(tactic| walk_at "lq") => `(tactic| ((with_reducible show Lo.WE _ _ (tLst (tCons _ _)) _ _ _); refine we_lst ?_))
local macro_rules | `(tactic| walk_at "lo") => `(tactic| ((with_reducible show Lo.WE _ _ (tDisp [(tC (V.str _), tC (V.str _))]) _ _ _); refine we_disp1 (d := .str _) (fun _ => rfl) ?_))
local macro_rules | `(tactic| walk_at "lq") => `(tactic| ((with_reducible show Lo.WE _ _ (tDisp [(tC (V.str _), tC (V.str _))]) _ _ _); refine we_disp1 (d := .str _) (fun _ => rfl) ?_))
local macro_rules | `(tactic| walk_at "lo") => `(tactic| ((with_reducible show Lo.WE _ _ (tDisp [(tC (V.str _), tC (V.int _))]) _ _ _); refine we_disp1 (d := .int _) (fun _ => rfl) ?_))
local macro_rules | `(tactic| walk_at "lq") => `(tactic| ((with_reducible show Lo.WE _ _ (tDisp [(tC (V.str _), tC (V.int _))]) _ _ _); refine we_disp1 (d := .int _) (fun _ => rfl) ?_))
local macro_rules | `(tactic| walk_at "wr") => `(tactic| first | (with_reducible refine wr_notB ?_) | (with_reducible refine wr_isB ?_) | fail "no")
local macro_rules | `(tactic| walk_at "we") => `(tactic| first | (with_reducible refine we_calK ?_) | fail "no")
local macro_rules | `(tactic| walk_at "da") => `(tactic| ((with_reducible show ∃ (x : D), [SV.d _] = [SV.d x] ∧ _); refine ⟨_, rfl, ?_⟩))

local macro_rules | `(tactic| walk_at "wr") => `(tactic| first | ((with_reducible refine' wr_eqL ?h1 ?h2 ?h3 ?h4 ?_); (case h1 => exact .d); (case h2 => exact .d); (case h3 => rfl); (case h4 => rfl)) | fail "no")
local macro_rules | `(tactic| walk_at "wr") => `(tactic| first | ((with_reducible refine' wr_neL ?h1 ?h2 ?h3 ?h4 ?_); (case h1 => exact .d); (case h2 => exact .d); (case h3 => rfl); (case h4 => rfl)) | fail "no")

theorem nam_of {cs : List Nat} (h1 : 1 ≤ cs.length) (h8 : (cs.length : Int) ≤ 8) (h : ∀ c ∈ cs, 97 ≤ c ∧ c ≤ 122) : Nam (SX.S cs) := by
  refine ⟨?_, ?_, ?_⟩
  · show 1 ≤ cs.toArray.size
    simpa using h1
  · show cs.toArray.size ≤ 8
    simp
    omega
  · unfold lett
    rw [List.all_eq_true]
    intro c m
    have m' : c ∈ cs := by simpa [SX.S] using m
    have := h c m'
    simp [this.1, this.2]
theorem psO_len (n : Nat) : (psO n).length = n := by
  unfold psO
  rw [List.length_map, List.length_range]
theorem rowsO_snoc (L : List (List D)) (x : List D) : (rowsO L ++ [OW.lst (x.map SV.d)]).set 1 (.lst (psO L.length ++ [.p (rowsO L).length])) = rowsO (L ++ [x]) := by
  have e : psO L.length ++ [SV.p (rowsO L).length] = psO (L ++ [x]).length := by
    rw [rowsO_len, List.length_append]
    show _ = psO (L.length + 1)
    unfold psO
    rw [List.range_succ, List.map_append, Nat.add_comm]
    rfl
  rw [e]
  show OW.hand :: OW.lst (psO (L ++ [x]).length) :: (L.map (fun r => OW.lst (r.map SV.d)) ++ [OW.lst (x.map SV.d)]) = OW.hand :: OW.lst (psO (L ++ [x]).length) :: (L ++ [x]).map fun r => OW.lst (r.map SV.d)
  rw [List.map_append]
  rfl
theorem nam_snoc {z : Str} (h : Nam z) : ∃ (cs : List Nat) (c : Nat), z.cps.toList = cs ++ [c] := by
  have hl : z.cps.toList ≠ [] := fun e => by
    have := h.l1
    have e2 : z.cps.toList.length = z.length := Array.length_toList ..
    rw [e] at e2
    have e3 : 0 = z.length := e2
    omega
  exact ⟨_, _, (List.dropLast_concat_getLast hl).symm⟩
theorem snoc_eq {z : Str} {cs : List Nat} {c : Nat} (h : z.cps.toList = cs ++ [c]) : z = SX.S cs ++ ⟨#[c]⟩ := by
  obtain ⟨a⟩ := z
  show (⟨a⟩ : Str) = ⟨cs.toArray ++ #[c]⟩
  have h' : a.toList = cs ++ [c] := h
  have e : a = cs.toArray ++ #[c] := by
    apply Array.toList_inj.mp
    rw [h']
    simp
  rw [e]
theorem nam_other {z : Str} {cs : List Nat} {c : Nat} {t : Str} (h : Nam z) (ze : z = SX.S cs ++ ⟨#[c]⟩) (ht : t = "a" ∨ t = "b") (hne : t ≠ ⟨#[c]⟩) : Nam (SX.S cs ++ t) ∧ SX.S cs ++ t ≠ z := by
  have len : ∀ u : Str, u.length = 1 → (SX.S cs ++ u).length = cs.length + 1 := fun u hu => by
    show ((SX.S cs).cps ++ u.cps).size = _
    rw [Array.size_append]
    show cs.toArray.size + u.length = _
    rw [hu]
    simp
  have l1 : t.length = 1 := by rcases ht with rfl | rfl <;> rfl
  have lz : z.length = cs.length + 1 := by
    rw [ze]
    exact len _ rfl
  have la : lett (SX.S cs) = true := by
    have := h.a
    rw [ze, lett_app, Bool.and_eq_true] at this
    exact this.1
  have lt : lett t = true := by rcases ht with rfl | rfl <;> decide +kernel
  refine ⟨⟨by rw [len t l1]; omega, by rw [len t l1, ← lz]; exact h.l8, by rw [lett_app, la, lt]; rfl⟩, fun e => hne ?_⟩
  rw [ze] at e
  have e1 : ((SX.S cs).cps ++ t.cps) = ((SX.S cs).cps ++ #[c]) := congrArg PySem.Str.cps e
  have e2 : t.cps = #[c] := Array.append_right_inj (xs := (SX.S cs).cps) |>.mp e1
  obtain ⟨ta⟩ := t
  exact congrArg PySem.Str.mk e2
theorem cut_last {z : Str} {cs : List Nat} {c : Nat} (h : z.cps.toList = cs ++ [c]) : cutS z none (some (-1)) = SX.S cs := by
  have zl : z.length = cs.length + 1 := by
    have e2 : z.cps.toList.length = z.length := Array.length_toList ..
    rw [h, List.length_append] at e2
    exact e2.symm
  have e : HT.sIx z.length z.length (some (-1)) = cs.length := by
    show (if (-1 : Int) < 0 then ((-1 : Int) + (z.length : Int)).toNat else min (-1 : Int).toNat z.length) = _
    rw [if_pos (by decide)]
    omega
  unfold cutS
  rw [e, HT.sIx_none, h, List.drop_zero, Nat.sub_zero, List.take_left' rfl]
theorem pw_lt : ∀ {l : List Int}, l.Pairwise (· ≤ ·) → l.Nodup → l.Pairwise (· < ·)
  | [], _, _ => .nil
  | x :: l, h, n => by
    obtain ⟨h1, h2⟩ := List.pairwise_cons.mp h
    obtain ⟨n1, n2⟩ := List.nodup_cons.mp n
    refine List.pairwise_cons.mpr ⟨fun y m => ?_, pw_lt h2 n2⟩
    have := h1 y m
    have ne : x ≠ y := fun e => n1 (e ▸ m)
    omega
theorem some_six6 {qs ps : List Int} {m : Nat} (hq : qs.Perm [0, 1, 2, 3, 4, 5]) (hp : ps.Perm (qs.take m)) (hs : ps.Pairwise (· ≤ ·)) (h6 : m ≤ 6) :
    ps.Pairwise (· < ·) ∧ (∀ n ∈ ps, 0 ≤ n ∧ n ≤ 5) ∧ ps.length = m := by
  have nq : qs.Nodup := hq.nodup_iff.mpr (by decide)
  have lq : qs.length = 6 := hq.length_eq
  have nt : (qs.take m).Nodup := nq.sublist (List.take_sublist _ _)
  refine ⟨pw_lt hs (hp.nodup_iff.mpr nt), fun n h => ?_, by rw [hp.length_eq, List.length_take]; omega⟩
  have := hq.subset (List.mem_of_mem_take (hp.subset h))
  simp only [List.mem_cons, List.not_mem_nil, or_false] at this
  omega
theorem tab_of {ns : List Int} {es : List (List Str)} {rows : List Rw} (up : ns.Pairwise (· < ·)) (rg : ∀ n ∈ ns, 0 ≤ n ∧ n ≤ 5) (l1 : 1 ≤ ns.length) (l6 : ns.length ≤ 6) (h : rows.map Rw.role = ns) (h2 : ∀ r ∈ rows, r.one ∈ es ∧ r.many ∈ es) (ok : ∀ e ∈ es, okEn e) : Tab rows := by
  subst h
  rw [List.length_map] at l1 l6
  refine ⟨fun r m => ?_, List.pairwise_map.mp up, l1, l6⟩
  have k := rg r.role (List.mem_map.mpr ⟨r, m, rfl⟩)
  exact ⟨ok _ (h2 r m).1, ok _ (h2 r m).2, k.1, k.2⟩
section
variable {P : Program} {w : World} {K : Frag} {mg : Str → Option Value} {base : Heap} {a : Ad}
theorem set_same {α : Type} : ∀ {l : List α} {k : Nat} {x : α}, l[k]? = some x → l.set k x = l
  | [], _, _, e => by simp at e
  | y :: l, 0, x, e => by
    cases e
    rfl
  | y :: l, k + 1, x, e => by
    show y :: l.set k x = _
    rw [set_same (l := l) (by simpa using e)]
theorem ren_ds (ks : List Nat) (xs : List D) : (xs.map SV.d).map (renS ks) = xs.map SV.d := by
  rw [List.map_map]
  rfl
theorem we_aslO {b : Bd} {own : List OW} {ds : List (Option SV)} {Q : PSv} {E : XK} {hi ri k : Nat} {xs : List D} (h0 : ds[hi]? = some (some (.p 0))) (h1 : ds[ri]? = some (some (.p k))) (hk : k ≠ 0) (o0 : own[0]? = some .hand) (ok : own[k]? = some (.lst (xs.map SV.d))) (hl : xs.length ≤ 1000)
    (q : ∀ d, (d = .lst xs ∨ d = .tup xs) → Q (.d d) own) : Lo.WE (TT K a) b (tCall (SpO (TT K a) O_as_list) [] E (tCons (tVar hi) (tCons (tVar ri) tNil))) own ds Q := by
  refine we_callO (T := TT K a) [0, k] (by simp [Ne.symm hk]) (wa_cons (we_var h0 (wa_cons (we_var h1 (wa_nil ?_)))))
  refine ⟨xs, rfl, hl, ?_, rfl, ?_, ?_⟩
  · intro x m
    simp only [List.mem_cons, List.not_mem_nil, or_false] at m
    rcases m with rfl | rfl
    · show 0 < 2
      decide
    · show 1 < 2
      decide
  · intro j x e
    match j, e with
    | 0, e =>
      cases e
      exact ⟨(fun z => nomatch z), trivial, 0, rfl, o0⟩
    | 1, e =>
      cases e
      refine ⟨(fun z => nomatch z), ?_, k, rfl, ?_⟩
      · intro x m
        obtain ⟨d, _, rfl⟩ := List.mem_map.mp m
        trivial
      · show _ = some (OW.lst ((xs.map SV.d).map (renS [0, k])))
        rw [ren_ds]
        exact ok
    | j + 2, e => simp at e
  · rintro d ow ⟨hd, rfl⟩
    refine ⟨rfl, fun x m => ?_, ?_⟩
    · simp only [List.mem_cons, List.not_mem_nil, or_false] at m
      rcases m with rfl | rfl
      · trivial
      · intro x m
        obtain ⟨d, _, rfl⟩ := List.mem_map.mp m
        trivial
    · have e : putAll own [0, k] ([OW.hand, .lst (xs.map SV.d)].map (renO [0, k])) = own := by
        show (own.set 0 .hand).set k (.lst ((xs.map SV.d).map (renS [0, k]))) = own
        rw [ren_ds, set_same o0, set_same ok]
      rw [e]
      exact q d hd
section
variable {b : Bd} {own : List OW} {ds : List (Option SV)} {Q : PSv}
theorem wr_neS2 {C : Addr} {sp : Sp} {x y : Str} (hx : okSt x = true) (hy : okSt y = true) (q : Q (.d (.bl (!decide (x = y)))) own) : WR (TT K a) b (rNeA K C sp) own (.d (.str x)) (.d (.str y)) Q :=
  wr_neL (T := TT K a) .d .d (okd_str hx) (okd_str hy) (by rw [eqv_str]; exact q)
theorem wr_eqS2 {C : Addr} {sp : Sp} {x y : Str} (hx : okSt x = true) (hy : okSt y = true) (q : Q (.d (.bl (decide (x = y)))) own) : WR (TT K a) b (rEqA K C sp) own (.d (.str x)) (.d (.str y)) Q :=
  wr_eqL (T := TT K a) .d .d (okd_str hx) (okd_str hy) (by rw [eqv_str]; exact q)
theorem wr_eqSt (X : Txt P K mg a) {f g : Stk} (hf : okStk f) (hg : okStk g) (q : Q (.d (.bl (decide (f = g)))) own) : WR (TT K a) b (rEqA K a.C_Stock (SpP (TT K a) F_Stock___eq__)) own (.d f.d) (.d g.d) Q :=
  wr_eqO (T := TT K a) (F := F_Stock___eq__) (c := 0) rfl (tyO X) ⟨(f, .inl g), rfl, ⟨hf, hg⟩, fun d e => ⟨_, e, q⟩, fun _ z => z⟩ Fv.mon
theorem wr_neSt (X : Txt P K mg a) {f g : Stk} (hf : okStk f) (hg : okStk g) (q : Q (.d (.bl (!decide (f = g)))) own) : WR (TT K a) b (rNeA K a.C_Stock (SpP (TT K a) F_Stock___eq__)) own (.d f.d) (.d g.d) Q :=
  wr_neO (T := TT K a) (F := F_Stock___eq__) (c := 0) rfl (tyO X) ⟨(f, .inl g), rfl, ⟨hf, hg⟩, fun d e => ⟨_, e, q⟩, fun _ z => z⟩ Fv.mon
theorem wr_eqStD (X : Txt P K mg a) {f : Stk} {y : D} (hf : okStk f) (hy : y.isO = false) (q : Q (.d (.bl false)) own) : WR (TT K a) b (rEqA K a.C_Stock (SpP (TT K a) F_Stock___eq__)) own (.d f.d) (.d y) Q :=
  wr_eqO (T := TT K a) (F := F_Stock___eq__) (c := 0) rfl (tyN X hy) ⟨(f, .inr y), rfl, ⟨hf, hy⟩, fun d e => ⟨_, e, q⟩, fun _ z => z⟩ Fv.mon
theorem we_shows {E : XK} {ta : TA} (h : WA (TT K a) b ta own ds fun ss o => ∃ f : Stk, ss = [.d f.d, .d (.str f.z), .d (tbD f.rows)] ∧ okStk f ∧ Q (.d (.bl true)) o) : Lo.WE (TT K a) b (tCall (SpP (TT K a) F__law_shows) [] E ta) own ds Q :=
  we_cal0 (T := TT K a) fun W σ ha sl R q => h W σ ha sl R fun vs ss o W' h' l r ⟨f, e, g, p⟩ => q vs ss o W' h' l r ⟨[f.d, .str f.z, tbD f.rows], .ofEq e, ⟨f, rfl, g, fun _ z => z, fun d e => e ▸ p⟩⟩
theorem tame_nam {z : Str} (h : Nam z) : Tame (.str z) := (Fine.str (c := 100) (n := 0) (lett_ok h.a) (by have := h.l8; omega)).tame (by decide)
theorem fine_tb {rows : List Rw} (t : Tab rows) : Fine 7288 3 (tbD rows) := Fine.tup (c := 1212) (n := 2) (m := 6) (fun u m => by
  obtain ⟨r, hr, rfl⟩ := List.mem_map.mp m
  exact RowL.seq_fine (xs := [.int r.role, txD r.one, txD r.many]) (r := r) ⟨⟨_, _, rfl, .inr rfl, .inr rfl⟩⟩ (t.ok r hr) (.inr rfl)) (by rw [List.length_map]; exact t.l6) (by decide)
theorem we_stock {E : XK} {ta : TA} (h : WA (TT K a) b ta own ds fun ss o => ∃ (z : Str) (rows : List Rw), ss = [.d (.str z), .d (tbD rows)] ∧ Nam z ∧ Tab rows ∧ Q (.d (Stk.mk z rows).d) o) : Lo.WE (TT K a) b (tMake a.C_Stock (SpI (TT K a) 0 F_Stock___init__) [] E ta) own ds Q :=
  we_mak (T := TT K a) (dd := []) rfl (fun _ => rfl) fun W σ ha sl R q => h W σ ha sl R fun vs ss o W' h' l r ⟨z, rows, e, nz, t, p⟩ => q vs ss o W' h' l r ⟨[.str z, tbD rows], .ofEq e, by
    have k := stW_good nz t (g := tbD rows) rfl (rwL_self rows)
    refine ⟨(.str z, tbD rows), rfl, ⟨(tame_nam nz).str, ((fine_tb t).tame (by decide)).tab⟩, ?_, ?_⟩
    · rintro e ⟨wd, e1, _⟩
      rw [k.1] at e1
      cases e1
    · rintro d ⟨_, rfl⟩
      rw [show stD (D.str z, tbD rows).1 (D.str z, tbD rows).2 = (Stk.mk z rows).d from k.2]
      exact ⟨⟨_, rfl⟩, p⟩⟩
end
theorem ok_law {fd} (X : Txt P K mg a) (F : DefAt K "law" "law" s_law [] a.f_law fd) : LX.FnG P w K mg base (L2.CX P w) 8 a.f_law fd ["_law_script"] (SpLaw K) := by
  refine okLaw (T := TT K a) (fun ns => [some (.scr ns), none, none, none, none, none, none, none, none, none, none, none, none, none, none, none, none]) F sc_law rfl fun cdv A outer s H E hr hgu => 
   have hu := hr.units
   ⟨_, 
   (pss_cons (ps_set (i := 1) sc_law.nd rfl (Or.inr rfl) (pe_cal X.A__law_hand (cal__law_hand X) hr (by rfl) passL (pa_cons (pv 0) pa_nil)))
  (pss_cons (ps_for (passes_of rfl) rfl (pi_range1 rfl X.n_range (pa_cons pe_int pa_nil)) (pg_name (i := 2) sc_law.nd rfl (Or.inl rfl))
  (pss_cons (ps_set (i := 3) sc_law.nd rfl (Or.inl rfl) (pe_cal X.A__law_word (cal__law_word X) hr (by rfl) passL (pa_cons (pv 1) (pa_cons pe_int pa_nil))))
  (pss_cons (ps_set (i := 4) sc_law.nd rfl (Or.inl rfl) (pe_cal X.A__law_some (cal__law_some X) hr (by rfl) passL (pa_cons (pv 1) (pa_cons (pe_listRg rfl (by rfl) X.n_list (prg_1 (by rfl) X.n_range pe_int)) (pa_cons (pe_op op_addA pe_int (pe_cal X.A__law_take (cal__law_take X) hr (by rfl) passL (pa_cons (pv 1) (pa_cons pe_int pa_nil)))) pa_nil)))))
  (pss_cons (ps_set (i := 5) sc_law.nd rfl (Or.inl rfl) (pe_cal X.A__law_table (cal__law_table X) hr (by rfl) passL (pa_cons (pv 1) (pa_cons (pv 4) (pa_cons (pe_cal X.A__law_pool (cal__law_pool X) hr (by rfl) passL (pa_cons (pv 1) (pa_cons (pe_op op_addA pe_int (pe_cal X.A__law_take (cal__law_take X) hr (by rfl) passL (pa_cons (pv 1) (pa_cons pe_int pa_nil)))) pa_nil))) pa_nil)))))
  (pss_cons (ps_set (i := 6) sc_law.nd rfl (Or.inl rfl) (pe_lst pa_nil))
  (pss_cons (ps_for (passes_of rfl) rfl (pi_seq (pv 5)) (pg_name (i := 7) sc_law.nd rfl (Or.inl rfl))
  (pss_one (ps_expr (pe_bm PySem.F.plainAttrs_list PySem.F.slot_list_append PySem.F.type_list_append mt_append (pv 6) (pa_cons (pe_lst (pa_cons (pe_ix ix_any (pv 7) pe_int (fun _ _ => rfl)) (pa_cons (pe_cal X.A__law_as_list (cal__law_as_list X) hr (by rfl) passL (pa_cons (pv 1) (pa_cons (pe_ix ix_any (pv 7) pe_int (fun _ _ => rfl)) pa_nil))) (pa_cons (pe_cal X.A__law_as_list (cal__law_as_list X) hr (by rfl) passL (pa_cons (pv 1) (pa_cons (pe_ix ix_any (pv 7) pe_int (fun _ _ => rfl)) pa_nil))) pa_nil)))) pa_nil)))))
  (pss_cons (ps_set (i := 8) sc_law.nd rfl (Or.inl rfl) (pe_cal X.A__law_as_list (cal__law_as_list X) hr (by rfl) passL (pa_cons (pv 1) (pa_cons (pe_lc (own := [("_law_row", 7)]) (by rfl) sc_law.nd (pi_seq (pv 6)) (blkOk_by (own := [("_law_row", 7)]) (N := N_law) (sc := defScope s_law) (by decide +kernel)) (fun _ _ _ _ _ => (pg_name (i := 7) sc_law.nd rfl (Or.inl rfl))) (fun _ _ _ _ _ => pts_nil) (fun _ _ _ _ _ => (pe_cal X.A__law_as_list (calO__law_as_list X) hr (by rfl) passL (pa_cons (pv 1) (pa_cons (pv 7) pa_nil))))) pa_nil))))
  (pss_cons (ps_set (i := 9) sc_law.nd rfl (Or.inl rfl) (pe_callB (LX.call_reprA hgu hu) (by rfl) X.n_repr (by decide +kernel) (pa_cons (pv 8) pa_nil)))
  (pss_cons (ps_set (i := 10) sc_law.nd rfl (Or.inl rfl) (pe_cal X.A__law_told (cal__law_told X) hr (by rfl) passL (pa_cons (pv 3) (pa_cons (pv 8) pa_nil))))
  (pss_cons (ps_if (PW.pt (pw_or (pt_cmpR (op_neA hu (op_neC X.eq_Stock (cal_Stock___eq__ X) hr)) (pe_ix ix_any (pv 10) pe_int (fun _ _ => rfl)) pe_str (nomark _)) (pw_or (pt_cmpR op_ne (pe_callB (LX.call_reprA hgu hu) (by rfl) X.n_repr (by decide +kernel) (pa_cons (pv 8) pa_nil)) (pv 9) (nomark _)) (pw_or1 (pt_not (pt_val (pe_cal X.A__law_shows (cal__law_shows X) hr (by rfl) passL (pa_cons (pe_ix ix_any (pv 10) pe_int (fun _ _ => rfl)) (pa_cons (pv 3) (pa_cons (pv 5) pa_nil))))))))))
  (pss_one (ps_ret pe_bl))
  pss_nil)
  (pss_cons (ps_set (i := 11) sc_law.nd rfl (Or.inl rfl) (pe_mak X.M_Stock (cal_Stock___init__ X) hr (by rfl) passL (pa_cons (pv 3) (pa_cons (pv 5) pa_nil))))
  (pss_cons (ps_if (PW.pt (pw_or (pt_not (pt_cmpR (op_eqA hu (op_eqC X.eq_Stock (cal_Stock___eq__ X) hr)) (pe_ix ix_any (pv 10) pe_int (fun _ _ => rfl)) (pv 11) (nomark _))) (pw_or (pt_cmpR (op_neA hu (op_neC X.eq_Stock (cal_Stock___eq__ X) hr)) (pe_ix ix_any (pv 10) pe_int (fun _ _ => rfl)) (pv 11) (nomark _)) (pw_or (pt_cmpR (op_eqA hu (op_eqC X.eq_Stock (cal_Stock___eq__ X) hr)) (pe_ix ix_any (pv 10) pe_int (fun _ _ => rfl)) (pv 5) (nomark _)) (pw_or1 (pt_cmpR (op_eqA hu (op_eqC X.eq_Stock (cal_Stock___eq__ X) hr)) (pe_ix ix_any (pv 10) pe_int (fun _ _ => rfl)) (pv 3) (nomark _)))))))
  (pss_one (ps_ret pe_bl))
  pss_nil)
  (pss_cons (ps_if (pt_cmpR (op_eqA hu (op_eqC X.eq_Stock (cal_Stock___eq__ X) hr)) (pe_ix ix_any (pv 10) pe_int (fun _ _ => rfl)) (pe_mak X.M_Stock (cal_Stock___init__ X) hr (by rfl) passL (pa_cons (pe_op op_addA (pe_slice sl_any (pv 3) po_none (po_some (pe_un un_neg pe_int))) (pe_ifExp (pt_cmpR (op_eqA hu (op_eqC X.eq_Stock (cal_Stock___eq__ X) hr)) (pe_ix ix_any (pv 3) (pe_un un_neg pe_int) (fun _ _ => rfl)) pe_str (nomark _)) pe_str pe_str)) (pa_cons (pv 5) pa_nil))) (nomark _))
  (pss_one (ps_ret pe_bl))
  pss_nil)
  (pss_cons (ps_set (i := 12) sc_law.nd rfl (Or.inl rfl) (pe_mak X.M_Stock (cal_Stock___init__ X) hr (by rfl) passL (pa_cons (pv 3) (pa_cons (pe_slice sl_any (pv 5) po_none (po_some pe_int)) pa_nil))))
  (pss_cons (ps_if (PW.pt (pw_or (pt_cmpR (op_neA hu (op_neC X.eq_Stock (cal_Stock___eq__ X) hr)) (pe_cmpR (op_eqA hu (op_eqC X.eq_Stock (cal_Stock___eq__ X) hr)) (pe_ix ix_any (pv 10) pe_int (fun _ _ => rfl)) (pv 12) (nomark _)) (pe_cmpR (op_eqA hu (op_eqC X.eq_Stock (cal_Stock___eq__ X) hr)) (pe_callB call_lenA (by rfl) X.n_len PySem.boot_len (pa_cons (pv 5) pa_nil)) pe_int (nomark _)) (nomark _)) (pw_or1 (pt_cmpR (op_neA hu (op_neC X.eq_Stock (cal_Stock___eq__ X) hr)) (pe_cmpR (op_neA hu (op_neC X.eq_Stock (cal_Stock___eq__ X) hr)) (pe_ix ix_any (pv 10) pe_int (fun _ _ => rfl)) (pv 12) (nomark _)) (pe_cmpR op_gt (pe_callB call_lenA (by rfl) X.n_len PySem.boot_len (pa_cons (pv 5) pa_nil)) pe_int (nomark _)) (nomark _)))))
  (pss_one (ps_ret pe_bl))
  pss_nil)
  (pss_cons (ps_set (i := 13) sc_law.nd rfl (Or.inl rfl) pe_non)
  (pss_cons (ps_if (pt_cmpR (op_eqA hu (op_eqC X.eq_Stock (cal_Stock___eq__ X) hr)) (pe_cal X.A__law_take (cal__law_take X) hr (by rfl) passL (pa_cons (pv 1) (pa_cons pe_int pa_nil))) pe_int (nomark _))
  (pss_cons (ps_set (i := 14) sc_law.nd rfl (Or.inl rfl) (pe_cal X.A__law_take (cal__law_take X) hr (by rfl) passL (pa_cons (pv 1) (pa_cons (pe_callB call_lenA (by rfl) X.n_len PySem.boot_len (pa_cons (pv 6) pa_nil)) pa_nil))))
  (pss_cons (ps_set (i := 13) sc_law.nd rfl (Or.inl rfl) (pe_cal X.A__law_spoilt (calO__law_spoilt X) hr (by rfl) passL (pa_cons (pv 1) (pa_cons (pv 6) (pa_cons (pv 14) pa_nil)))))
  (pss_one (ps_if (PW.pt (pw_and (pt_cmpR op_lt (pe_op op_addA (pv 14) pe_int) (pe_callB call_lenA (by rfl) X.n_len PySem.boot_len (pa_cons (pv 6) pa_nil)) (nomark _)) (pw_and1 (pt_cmpR (op_eqA hu (op_eqC X.eq_Stock (cal_Stock___eq__ X) hr)) (pe_cal X.A__law_take (cal__law_take X) hr (by rfl) passL (pa_cons (pv 1) (pa_cons pe_int pa_nil))) pe_int (nomark _)))))
  (pss_one (ps_asg pe_non (pg_sub (pv 6) (pe_op op_addA (pv 14) pe_int) set_list)))
  pss_nil))))
  pss_nil)
  (pss_cons (ps_set (i := 15) sc_law.nd rfl (Or.inl rfl) (pe_cal X.A__law_as_list (cal__law_as_list X) hr (by rfl) passL (pa_cons (pv 1) (pa_cons (pv 6) pa_nil))))
  (pss_cons (ps_if (pt_cmpR (op_eqA hu (op_eqC X.eq_Stock (cal_Stock___eq__ X) hr)) (pe_cal X.A__law_take (cal__law_take X) hr (by rfl) passL (pa_cons (pv 1) (pa_cons pe_int pa_nil))) pe_int (nomark _))
  (pss_cons (ps_set (i := 15) sc_law.nd rfl (Or.inl rfl) (pe_ix ix_any (pe_tup (pa_cons pe_non (pa_cons (pe_tup pa_nil) (pa_cons (pe_op op_rep (pv 6) pe_int) (pa_cons pe_str (pa_cons pe_int pa_nil)))))) (pe_cal X.A__law_take (cal__law_take X) hr (by rfl) passL (pa_cons (pv 1) (pa_cons pe_int pa_nil))) (fun _ _ => rfl)))
  (pss_one (ps_set (i := 13) sc_law.nd rfl (Or.inl rfl) pe_str)))
  pss_nil)
  (pss_cons (ps_set (i := 16) sc_law.nd rfl (Or.inl rfl) (pv 3))
  (pss_cons (ps_if (pt_cmpR (op_eqA hu (op_eqC X.eq_Stock (cal_Stock___eq__ X) hr)) (pe_cal X.A__law_take (cal__law_take X) hr (by rfl) passL (pa_cons (pv 1) (pa_cons pe_int pa_nil))) pe_int (nomark _))
  (pss_cons (ps_set (i := 16) sc_law.nd rfl (Or.inl rfl) (pe_ix ix_any (pe_tup (pa_cons pe_non (pa_cons pe_str (pa_cons (pe_op op_addA (pv 3) pe_str) (pa_cons (pe_op op_addA (pv 3) pe_str) (pa_cons pe_str (pa_cons pe_int (pa_cons pe_bl pa_nil)))))))) (pe_cal X.A__law_take (cal__law_take X) hr (by rfl) passL (pa_cons (pv 1) (pa_cons pe_int pa_nil))) (fun _ _ => rfl)))
  (pss_one (ps_set (i := 13) sc_law.nd rfl (Or.inl rfl) pe_str)))
  pss_nil)
  (pss_cons (ps_set (i := 9) sc_law.nd rfl (Or.inl rfl) (pe_callB (LX.call_reprA hgu hu) (by rfl) X.n_repr (by decide +kernel) (pa_cons (pv 15) pa_nil)))
  (pss_cons (ps_set (i := 10) sc_law.nd rfl (Or.inl rfl) (pe_cal X.A__law_told (cal__law_told X) hr (by rfl) passL (pa_cons (pv 16) (pa_cons (pv 15) pa_nil))))
  (pss_cons (ps_if (PW.pt (pw_and (pt_cmpR op_isN1 (pv 13) pe_non (nomark _)) (pw_and1 (PW.pt (pw_or (pt_cmpR (op_neA hu (op_neC X.eq_Stock (cal_Stock___eq__ X) hr)) (pe_ix ix_any (pv 10) pe_int (fun _ _ => rfl)) pe_str (nomark _)) (pw_or1 (pt_not (pt_val (pe_cal X.A__law_shows (cal__law_shows X) hr (by rfl) passL (pa_cons (pe_ix ix_any (pv 10) pe_int (fun _ _ => rfl)) (pa_cons (pv 3) (pa_cons (pv 5) pa_nil))))))))))))
  (pss_one (ps_ret pe_bl))
  pss_nil)
  (pss_cons (ps_if (PW.pt (pw_and (pt_cmpR op_notN1 (pv 13) pe_non (nomark _)) (pw_and1 (pt_cmpR (op_neA hu (op_neC X.eq_Stock (cal_Stock___eq__ X) hr)) (pv 10) (pe_tup (pa_cons pe_str (pa_cons (pv 13) pa_nil))) (nomark _)))))
  (pss_one (ps_ret pe_bl))
  pss_nil)
  (pss_one (ps_if (pt_cmpR op_ne (pe_callB (LX.call_reprA hgu hu) (by rfl) X.n_repr (by decide +kernel) (pa_cons (pv 15) pa_nil)) (pv 9) (nomark _))
  (pss_one (ps_ret pe_bl))
  pss_nil)))))))))))))))))))))))))))
  (pss_one (ps_ret pe_bl)))), fun b scr hl hn => ?_⟩
  dsimp only [CxB, L2.cxOf]
  refine ws_seq (ws_set (we_hand rfl ⟨scr, rfl, hl, hn⟩ ?_))
  refine ws_seq (ws_for (js := [2]) (fun its i o s => ∃ x0, o = [.hand] ∧ s = [x0, some (.p 0), none, none, none, none, none, none, none, none, none, none, none, none, none, none, none]) (wi_rng1 ?_))
  repeat' walk_at "lq"
  refine ⟨by decide, by decide, Nat.le_refl _, ⟨_, rfl, rfl⟩, ?_, ?_⟩
  · rintro i x o s hi ⟨x0, rfl, rfl⟩
    refine ⟨OwP_hand OwP_nil, Nat.le_refl _, wg_name ?_⟩
    refine ws_cut (fun o s => ∃ z, Nam z ∧ o = [.hand] ∧ s = [x0, some (.p 0), some (.d x), some (.d (.str z)), none, none, none, none, none, none, none, none, none, none, none, none, none]) ?_ ?_
    · repeat' walk_at "lq"
      refine ⟨⟨by decide, by decide⟩, fun _ z => z, ?_⟩
      rintro d ⟨cs, hc1, hc8, hcs, rfl⟩
      exact ⟨SX.S cs, nam_of hc1 hc8 hcs, rfl, rfl⟩
    rintro o s ⟨z, hz, rfl, rfl⟩
    refine ws_cut (fun o s => ∃ ns : List Int, ns.Pairwise (· < ·) ∧ (∀ n ∈ ns, 0 ≤ n ∧ n ≤ 5) ∧ 1 ≤ ns.length ∧ ns.length ≤ 6 ∧ o = [.hand] ∧ s = [x0, some (.p 0), some (.d x), some (.d (.str z)), some (.d (.tup (ns.map .int))), none, none, none, none, none, none, none, none, none, none, none, none]) ?_ ?_
    · repeat' walk_at "lq"
      refine we_listRg ?_
      repeat' walk_at "lq"
      refine ⟨by decide, by decide, ?_⟩
      repeat' walk_at "lq"
      rename_i k h0 h1
      obtain ⟨j, rfl⟩ : ∃ j : Nat, k = (j : Int) := ⟨k.toNat, by omega⟩
      refine ⟨([0, 1, 2, 3, 4, 5], _, 1 + j), rfl, ⟨.inl rfl, (show 6 ≤ 100000 by decide), by show 1 + j ≤ 6; omega⟩, fun _ z => z, ?_⟩
      rintro d ⟨qs, ns, hq, hp, hs, rfl⟩
      obtain ⟨hup, hrg, hnl⟩ := some_six6 (m := 1 + j) hq hp hs (by omega)
      exact ⟨ns, hup, hrg, by omega, by omega, rfl, rfl⟩
    rintro o s ⟨ns, hup, hrg, hn1, hn6, rfl, rfl⟩
    refine ws_cut (fun o s => ∃ rows : List Rw, Tab rows ∧ o = [.hand] ∧ s = [x0, some (.p 0), some (.d x), some (.d (.str z)), some (.d (.tup (ns.map .int))), some (.d (tbD rows)), none, none, none, none, none, none, none, none, none, none, none]) ?_ ?_
    · repeat' walk_at "lq"
      rename_i k h0 h1
      refine ⟨⟨by omega, by omega⟩, fun _ z => z, ?_⟩
      rintro d ⟨es, hel, hee, rfl⟩
      repeat' walk_at "lq"
      refine ⟨⟨(ns, es), rfl, ⟨by show ns.length ≤ 1000; omega, by show 1 ≤ es.length; omega, by show es.length ≤ 1000; omega⟩, fun _ z => z, ?_⟩⟩
      rintro d ⟨rows, hr1, hr2, rfl⟩
      exact ⟨rows, tab_of hup hrg hn1 hn6 hr1 hr2 hee, rfl, rfl⟩
    rintro o s ⟨rows, tb, rfl, rfl⟩
    refine ws_seq (ws_set (we_lstO (wa_nil ⟨Nat.zero_le _, ?_⟩)))
    refine ws_cut (fun o s => ∃ (L : List (List D)) (y0 : Option SV), RowsL L rows ∧ o = rowsO L ∧ s = [y0, some (.p 0), some (.d x), some (.d (.str z)), some (.d (.tup (ns.map .int))), some (.d (tbD rows)), some (.p 1), none, none, none, none, none, none, none, none, none, none]) ?_ ?_
    · refine ws_for (js := [7]) (fun its i o s => ∃ (L : List (List D)) (y0 : Option SV), RowsL L (rows.take i) ∧ o = rowsO L ∧ s = [y0, some (.p 0), some (.d x), some (.d (.str z)), some (.d (.tup (ns.map .int))), some (.d (tbD rows)), some (.p 1), none, none, none, none, none, none, none, none, none, none]) (wi_seq ?_)
      repeat' walk_at "lq"
      refine ⟨_, .inr rfl, Nat.le_refl _, ⟨[], x0, rfl, rfl, ?_⟩, ?_, ?_⟩
      · rfl
      · rintro i u o s hi ⟨L, y0, hL, rfl, rfl⟩
        rw [List.getElem?_map] at hi
        obtain ⟨r, hr, rfl⟩ := Option.map_eq_some_iff.mp hi
        have hin := List.mem_of_getElem? hr
        have hi6 := (List.getElem?_eq_some_iff.mp hr).1
        have hl6 := tb.l6
        have hlen := hL.len
        rw [List.length_take] at hlen
        refine ⟨?_, ?_, wg_name ?_⟩
        · rw [rowsO_len]
          exact OwP_of rows_ok
        · rw [rowsO_len]
          show 2 ≤ _
          omega
        refine ws_drop (we_bm (we_var rfl ⟨1, _, rfl, rfl, wa_cons (we_lstO ?_)⟩))
        refine wa_cons (we_op (we_var rfl (we_int ?_)))
        refine wr_ixT (x := .int r.role) (xs := [.int r.role, txD r.one, txD r.many]) rfl ?_
        have en : ∀ {e : List Str} {d : D}, (∃ xs, (txD e = .lst xs ∨ txD e = .tup xs) ∧ (d = .lst xs ∨ d = .tup xs)) → d = .lst (e.map .str) ∨ d = .tup (e.map .str) := fun ⟨xs, h1, h2⟩ => by
          rcases h1 with h1 | h1
          · cases h1
          · cases h1
            exact h2
        repeat' walk_at "lq"
        refine wr_ixT (x := txD r.one) (xs := [.int r.role, txD r.one, txD r.many]) rfl ?_
        repeat' walk_at "lq"
        refine ⟨⟨_, .inr rfl⟩, fun _ z => z, fun d1 h1 => ?_⟩
        have h1 := en h1
        repeat' walk_at "lq"
        refine wr_ixT (x := txD r.many) (xs := [.int r.role, txD r.one, txD r.many]) rfl ?_
        repeat' walk_at "lq"
        refine ⟨⟨_, .inr rfl⟩, fun _ z => z, fun d2 h2 => ?_⟩
        have h2 := en h2
        refine wa_nil ⟨Nat.le_of_ble_eq_true rfl, wa_nil ?_⟩
        refine wm_append (ss := psO L.length) rfl (by rw [psO_len]; omega) ?_
        have eo : (rowsO L ++ [OW.lst [.d (.int r.role), .d d1, .d d2]]).set 1 (.lst (psO L.length ++ [.p (rowsO L).length])) = rowsO (L ++ [[.int r.role, d1, d2]]) := rowsO_snoc L [.int r.role, d1, d2]
        rw [eo]
        refine ⟨_, _, ⟨List.prefix_refl _, ?_⟩, ?_, ?_, L ++ [[.int r.role, d1, d2]], none, ?_, rfl, rfl⟩
        · rw [rowsO_len]
          exact .drop (.keepp (Nat.lt_of_lt_of_le (by decide : 0 < 2) (Nat.le_add_left ..)) (.keepd (.keepd (.keepd (.keepd (.keepp (Nat.lt_of_lt_of_le (by decide : 1 < 2) (Nat.le_add_left ..)) (.drop (.drop (.drop (.drop (.drop (.drop (.drop (.drop (.drop (.drop .nil))))))))))))))))
        · rw [rowsO_len]
          exact OwP_of rows_ok
        · rw [rowsO_len]
          show 2 ≤ _
          omega
        · rw [List.take_add_one, hr]
          exact hL.snoc ⟨⟨d1, d2, rfl, h1, h2⟩⟩
      · rintro o s ⟨L, y0, hL, rfl, rfl⟩
        rw [List.length_map, List.take_length] at hL
        exact ⟨L, y0, hL, rfl, rfl⟩
    rintro o s ⟨L, y0, hL, rfl, rfl⟩
    refine ws_cut (fun o s => ∃ (g : D) (us : List D), (g = .lst us ∨ g = .tup us) ∧ SeqsL us L ∧ o = rowsO L ∧ s = [y0, some (.p 0), some (.d x), some (.d (.str z)), some (.d (.tup (ns.map .int))), some (.d (tbD rows)), some (.p 1), none, some (.d g), none, none, none, none, none, none, none, none]) ?_ ?_
    · refine ws_set (we_calH (wa_cons (we_var rfl (wa_cons ?_))))
      refine we_lcP (T := TT K a) (src := 6) (i := 7) (k := 1) (ss := psO L.length) rfl rfl (by rw [rowsO_len]; exact OwP_of rows_ok) (by decide) (fun j acc => SeqsL acc (L.take j)) rfl ?_ ?_ (by rw [psO_len, hL.len]; have := tb.l6; omega)
      · intro j s acc hs hacc hal _
        have hj : j < L.length := by
          have := (List.getElem?_eq_some_iff.mp hs).1
          rw [psO_len] at this
          exact this
        have es : s = .p (2 + j) := by
          unfold psO at hs
          rw [List.getElem?_map, List.getElem?_range hj] at hs
          exact (Option.some.inj hs).symm
        subst es
        have hat : L[j]? = some L[j] := List.getElem?_eq_getElem hj
        obtain ⟨r, hr, hrow⟩ := hL.at hat
        have hlen : L[j].length ≤ 1000 := by
          obtain ⟨y, z, e, _⟩ := hrow.e
          rw [e]
          exact Nat.le_of_ble_eq_true rfl
        refine we_aslO (k := 2 + j) (xs := L[j]) rfl rfl (by omega) rfl ?_ hlen fun d hd => ⟨d, rfl, rfl, ?_⟩
        · rw [List.getElem?_append_left (by rw [rowsO_len]; omega)]
          exact rows_row hat
        · rw [List.take_add_one, hat]
          exact hacc.snoc hd
      · intro acc hacc
        rw [psO_len, List.take_length] at hacc
        refine wa_nil ⟨_, _, _, rfl, rfl, .cons .nil, ⟨.lst acc, rfl, ⟨acc, .inl rfl⟩, fun _ z => z, fun d ⟨xs, h1, h2⟩ => ?_⟩⟩
        rcases h1 with h1 | h1 <;> cases h1
        exact ⟨d, acc, h2, hacc, rfl, rfl⟩
    rintro o s ⟨g, us, hg, hus, rfl, rfl⟩
    have hg7 : Fine 7288 3 g := Fine.seq (c := 1212) (n := 2) (m := 6) hg (fun u m => hus.fine hL tb.ok u m) (by rw [hus.len, hL.len]; exact tb.l6) (by decide)
    obtain ⟨kept, hk⟩ := hg7.rpd (by decide) (by decide)
    have rwl : RwL us rows := hus.rwL hL
    have git : items g = some us := by rcases hg with rfl | rfl <;> rfl
    have hst := stW_good hz tb git rwl
    have okS : okStk ⟨z, rows⟩ := hz.ok tb
    refine ws_seq (ws_set (we_cb (wa_cons (we_var rfl (wa_nil (wc_reprA .d hk ?_))))))
    refine ws_seq (ws_set (we_cal0 (wa_cons (we_var rfl (wa_cons (we_var rfl (wa_nil ?_)))))))
    refine ⟨_, .cons (.cons .nil), ⟨(.str z, g), rfl, ⟨(tame_nam hz).str, (hg7.tame (by decide)).tab⟩, fun _ z => z, ?_⟩⟩
    rintro d (⟨_, rfl⟩ | ⟨wd, e, rfl⟩)
    rotate_left
    · rw [hst.1] at e
      cases e
    rw [show stD (D.str z, g).1 (D.str z, g).2 = (Stk.mk z rows).d from hst.2]
    refine ws_cut (fun o s => o = rowsO L ∧ s = [y0, some (.p 0), some (.d x), some (.d (.str z)), some (.d (.tup (ns.map .int))), some (.d (tbD rows)), some (.p 1), none, some (.d g), some (.d (.str kept)), some (.d (.tup [.str "good", (Stk.mk z rows).d])), none, none, none, none, none, none]) ?_ ?_
    · refine ws_if ?_
      repeat' walk_at "lo"
      refine wr_neS2 (by decide +kernel) (by decide +kernel) ?_
      rw [decide_eq_true rfl]
      repeat' walk_at "lo"
      refine wc_reprA .d hk ?_
      repeat' walk_at "lo"
      refine wr_neStr ?_
      rw [decide_eq_true rfl]
      refine ⟨_, rfl, ⟨(fun z => nomatch z), fun _ => ?_⟩⟩
      refine wt_not (wt_B (we_shows ?_))
      repeat' walk_at "lo"
      refine ⟨okS, ?_⟩
      repeat' walk_at "lo"
      exact ⟨rfl, rfl⟩
    rintro o s ⟨rfl, rfl⟩
    refine ws_cut (fun o s => o = rowsO L ∧ s = [y0, some (.p 0), some (.d x), some (.d (.str z)), some (.d (.tup (ns.map .int))), some (.d (tbD rows)), some (.p 1), none, some (.d g), some (.d (.str kept)), some (.d (.tup [.str "good", (Stk.mk z rows).d])), some (.d (Stk.mk z rows).d), none, none, none, none, none]) ?_ ?_
    · refine ws_set (we_stock ?_)
      repeat' walk_at "lo"
      first | exact ⟨z, rows, rfl, hz, tb, rfl, rfl⟩ | exact ⟨hz, tb, rfl, rfl⟩
    rintro o s ⟨rfl, rfl⟩
    refine ws_cut (fun o s => o = rowsO L ∧ s = [y0, some (.p 0), some (.d x), some (.d (.str z)), some (.d (.tup (ns.map .int))), some (.d (tbD rows)), some (.p 1), none, some (.d g), some (.d (.str kept)), some (.d (.tup [.str "good", (Stk.mk z rows).d])), some (.d (Stk.mk z rows).d), none, none, none, none, none]) ?_ ?_
    · refine ws_if ?_
      repeat' walk_at "lo"
      refine wr_eqSt X okS okS ?_
      rw [decide_eq_true rfl]
      repeat' walk_at "lo"
      refine wr_neSt X okS okS ?_
      rw [decide_eq_true rfl]
      repeat' walk_at "lo"
      refine wr_eqStD X okS rfl ?_
      repeat' walk_at "lo"
      refine wr_eqStD X okS rfl ?_
      repeat' walk_at "lo"
      exact ⟨rfl, rfl⟩
    rintro o s ⟨rfl, rfl⟩
    refine ws_cut (fun o s => o = rowsO L ∧ s = [y0, some (.p 0), some (.d x), some (.d (.str z)), some (.d (.tup (ns.map .int))), some (.d (tbD rows)), some (.p 1), none, some (.d g), some (.d (.str kept)), some (.d (.tup [.str "good", (Stk.mk z rows).d])), some (.d (Stk.mk z rows).d), none, none, none, none, none]) ?_ ?_
    · refine ws_if ?_
      obtain ⟨cs, c, hc⟩ := nam_snoc hz
      have ze : z = SX.S cs ++ ⟨#[c]⟩ := snoc_eq hc
      have tail : ∀ t : Str, (t = "a" ∨ t = "b") → t ≠ ⟨#[c]⟩ → Nam (SX.S cs ++ t) ∧ SX.S cs ++ t ≠ z := fun t ht hne => nam_other hz ze ht hne
      have hl8 := hz.l8
      have zl : z.length = cs.length + 1 := by
        have e2 : z.cps.toList.length = z.length := Array.length_toList ..
        rw [hc, List.length_append] at e2
        exact e2.symm
      refine wt_test (we_op (we_op (we_var rfl (we_int ?_))))
      refine wr_ixT (x := (Stk.mk z rows).d) rfl ?_
      refine we_stock ?_
      refine wa_cons (we_op (we_sl (we_var rfl (wo_none (wo_some (we_un (we_int ?_)))))))
      repeat' walk_at "lo"
      refine .inr (.inr ⟨z, rfl, by omega, ?_⟩)
      rw [cut_last hc]
      repeat' walk_at "lo"
      refine wr_ixS (by omega) (c := c) (by rw [hc]; exact atI_last cs c) ?_
      repeat' walk_at "lo"
      refine wr_eqS2 ?_ (by decide +kernel) ?_
      · have := hz.a
        rw [ze, lett_app, Bool.and_eq_true] at this
        exact lett_ok this.2
      have l2 : (SX.S cs).length = cs.length := by simp [SX.S, PySem.Str.length]
      repeat' walk_at "lo"
      · rename_i hk
        have hk : (⟨#[c]⟩ : Str) = "a" := of_decide_eq_true hk
        have k := tail "b" (.inr rfl) (by rw [hk]; decide +kernel)
        refine wr_addS (by rw [l2]; show _ + 1 ≤ _; omega) ?_
        repeat' walk_at "lo"
        refine ⟨_, rows, rfl, k.1, tb, wr_eqSt X okS (k.1.ok tb) ?_⟩
        rw [decide_eq_false fun e => k.2 (congrArg Stk.z e).symm]
        repeat' walk_at "lo"
        exact ⟨rfl, rfl⟩
      · rename_i hk
        have hk : (⟨#[c]⟩ : Str) ≠ "a" := of_decide_eq_false hk
        have k := tail "a" (.inl rfl) (fun e => hk e.symm)
        refine wr_addS (by rw [l2]; show _ + 1 ≤ _; omega) ?_
        repeat' walk_at "lo"
        refine ⟨_, rows, rfl, k.1, tb, wr_eqSt X okS (k.1.ok tb) ?_⟩
        rw [decide_eq_false fun e => k.2 (congrArg Stk.z e).symm]
        repeat' walk_at "lo"
        exact ⟨rfl, rfl⟩
    rintro o s ⟨rfl, rfl⟩
    have okL : okStk ⟨z, rows.take 1⟩ := hz.ok tb.take1
    have ec : Lo.cutD (rows.map Rw.d) none (some 1) = (rows.take 1).map Rw.d := by
      have h1 := tb.l1
      unfold Lo.cutD
      rw [HT.sIx_none, show (some (1 : Int)) = some ((1 : Nat) : Int) from rfl, HT.sIx_nat, List.length_map, List.drop_zero, Nat.sub_zero, List.map_take, Nat.min_eq_left h1]
    have deq : decide ((Stk.mk z rows) = ⟨z, rows.take 1⟩) = decide (rows.length = 1) := by
      have h1 := tb.l1
      by_cases e : rows.length = 1
      · rw [decide_eq_true e, List.take_of_length_le (by omega), decide_eq_true rfl]
      · rw [decide_eq_false e]
        refine decide_eq_false fun z => e ?_
        have := congrArg (fun s => s.rows.length) z
        simp only [List.length_take] at this
        omega
    refine ws_cut (fun o s => o = rowsO L ∧ s = [y0, some (.p 0), some (.d x), some (.d (.str z)), some (.d (.tup (ns.map .int))), some (.d (tbD rows)), some (.p 1), none, some (.d g), some (.d (.str kept)), some (.d (.tup [.str "good", (Stk.mk z rows).d])), some (.d (Stk.mk z rows).d), some (.d (Stk.mk z (rows.take 1)).d), none, none, none, none]) ?_ ?_
    · refine ws_set (we_stock ?_)
      refine wa_cons (we_var rfl (wa_cons (we_sl (we_var rfl (wo_none (wo_some (we_int ?_)))))))
      refine ⟨_, rfl, .inr (.inl ⟨_, rfl, ?_⟩)⟩
      rw [ec]
      repeat' walk_at "lo"
      first | exact ⟨z, rows.take 1, rfl, hz, tb.take1, rfl, rfl⟩ | exact ⟨hz, tb.take1, rfl, rfl⟩
    rintro o s ⟨rfl, rfl⟩
    refine ws_cut (fun o s => o = rowsO L ∧ s = [y0, some (.p 0), some (.d x), some (.d (.str z)), some (.d (.tup (ns.map .int))), some (.d (tbD rows)), some (.p 1), none, some (.d g), some (.d (.str kept)), some (.d (.tup [.str "good", (Stk.mk z rows).d])), some (.d (Stk.mk z rows).d), some (.d (Stk.mk z (rows.take 1)).d), none, none, none, none]) ?_ ?_
    · refine ws_if ?_
      repeat' walk_at "lo"
      have lm : (List.map Rw.d rows).length = rows.length := List.length_map ..
      have de : decide ((rows.length : Int) = 1) = decide (rows.length = 1) := decide_eq_decide.mpr (by omega)
      refine wr_eqSt X okS okL ?_
      rw [deq]
      repeat' walk_at "lo"
      · rename_i hk _
        rw [eqv_bl, eqv_int, lm, de] at hk
        simp at hk
      · refine wr_neSt X okS okL ?_
        rw [deq]
        repeat' walk_at "lo"
        · rename_i hk
          have d2 : decide ((1 : Int) < (rows.length : Int)) = !decide (rows.length = 1) := by
            have := tb.l1
            by_cases e : rows.length = 1
            · rw [decide_eq_true e, decide_eq_false (by omega)]
              rfl
            · rw [decide_eq_false e, decide_eq_true (by omega)]
              rfl
          rw [eqv_bl, lm, d2] at hk
          simp at hk
        · exact ⟨rfl, rfl⟩
    rintro o s ⟨rfl, rfl⟩
    refine ws_cut (fun o s => o = rowsO L ∧ s = [y0, some (.p 0), some (.d x), some (.d (.str z)), some (.d (.tup (ns.map .int))), some (.d (tbD rows)), some (.p 1), none, some (.d g), some (.d (.str kept)), some (.d (.tup [.str "good", (Stk.mk z rows).d])), some (.d (Stk.mk z rows).d), some (.d (Stk.mk z (rows.take 1)).d), some (.d .non), none, none, none]) ?_ ?_
    · refine ws_set ?_
      repeat' walk_at "lo"
      exact ⟨rfl, rfl⟩
    rintro o s ⟨rfl, rfl⟩
    refine ws_cut (fun o s => ∃ (us : List D) (v : Option Str) (y14 : Option D), Things rows o us v ∧ s = [y0, some (.p 0), some (.d x), some (.d (.str z)), some (.d (.tup (ns.map .int))), some (.d (tbD rows)), some (.p 1), none, some (.d g), some (.d (.str kept)), some (.d (.tup [.str "good", (Stk.mk z rows).d])), some (.d (Stk.mk z rows).d), some (.d (Stk.mk z (rows.take 1)).d), some (.d (wdD v)), y14.map SV.d, none, none]) ?_ ?_
    · refine ws_if ?_
      repeat' walk_at "lo"
      · have lp : ((List.range L.length).map fun j => SV.p (2 + j)).length = L.length := psO_len L.length
        have l1 := tb.l1
        have l6 := tb.l6
        have lL := hL.len
        rw [lp]
        refine ⟨⟨by omega, by omega⟩, fun _ z => z, ?_⟩
        rintro d ⟨k, rfl, k0, k1⟩
        obtain ⟨place, rfl⟩ := Int.eq_ofNat_of_zero_le k0
        have hpl : place < L.length := by omega
        refine ws_seq (ws_set (we_callOw (T := TT K a) (L.length + 2) (wa_cons (we_var rfl (wa_cons (we_var rfl (wa_cons (we_var rfl (wa_nil ?_)))))))))
        refine ⟨(L, place), rfl, ⟨hpl, by show L.length ≤ 6; omega, fun r m => ?_⟩, ?_, rfl, rowsO_len L, fun o m => ?_, fun d ow' hpo => ?_⟩
        · obtain ⟨j, hj⟩ := List.mem_iff_getElem?.mp m
          obtain ⟨r', hr', y, z, e, _⟩ := hL.at hj
          have k := tb.ok r' (List.mem_of_getElem? hr')
          exact ⟨_, y, z, e, k.2.2.1, k.2.2.2⟩
        · intro u m
          simp only [List.mem_cons, List.not_mem_nil, or_false] at m
          rcases m with rfl | rfl | rfl
          · show 0 < L.length + 2
            omega
          · show 1 < L.length + 2
            omega
          · trivial
        · rcases rows_ok o m with rfl | ⟨xs, rfl, hx⟩
          · exact ⟨(fun z => nomatch z), trivial⟩
          · refine ⟨(fun z => nomatch z), fun u hu => ?_⟩
            cases u with
            | p k => exact hx _ hu k rfl
            | _ => trivial
        obtain ⟨wd, us, ss, M, rfl, rfl, l1', l2', hps, t1, t2⟩ := Things.spoilt tb hL hpo
        refine ⟨?_, ?_, ?_⟩
        · show (M.map fun r => OW.lst (r.map SV.d)).length + 2 = _
          rw [List.length_map, l2']
        · intro o m
          rcases List.mem_cons.mp m with rfl | m
          · trivial
          rcases List.mem_cons.mp m with rfl | m
          · intro u hu
            cases u with
            | p k => exact hps _ hu k rfl
            | _ => trivial
          · obtain ⟨r, _, rfl⟩ := List.mem_map.mp m
            intro u hu
            obtain ⟨d, _, rfl⟩ := List.mem_map.mp hu
            trivial
        refine ws_if ?_
        repeat' walk_at "lo"
        · rename_i hlt _ _ _ _
          have hlt : place + 1 < ss.length := by
            have := of_decide_eq_true hlt
            omega
          refine ⟨_, place + 1, ss, rfl, rfl, ?_, us.set (place + 1) .non, some wd, some (.int place), t2, rfl⟩
          rw [show ((place : Int) + 1) = ((place + 1 : Nat) : Int) by omega]
          exact Evl.ixN_nat hlt
        · exact ⟨us, some wd, some (.int place), t1, rfl⟩
        · exact ⟨us, some wd, some (.int place), t1, rfl⟩
      · exact ⟨_, none, none, Things.good tb hL, rfl⟩
    rintro o s ⟨us, v, y14, hth, rfl⟩
    obtain ⟨⟨ss, M, rfl, htw⟩, hul, huf, hsit⟩ := hth
    have hfz := htw (fzM us M) (fzM_2 us M)
    refine ws_frz (fzM us M) (two_rows hfz) ?_
    rw [rel_rows]
    generalize M.map (fun _ => OW.gone) = gs
    have es : List.map (Option.map (relS (fzM us M))) [y0, some (.p 0), some (.d x), some (.d (.str z)), some (.d (.tup (ns.map .int))), some (.d (tbD rows)), some (.p 1), none, some (.d g), some (.d (.str kept)), some (.d (.tup [.str "good", (Stk.mk z rows).d])), some (.d (Stk.mk z rows).d), some (.d (Stk.mk z (rows.take 1)).d), some (.d (wdD v)), y14.map SV.d, none, none] = [y0.map (relS (fzM us M)), some (.p 0), some (.d x), some (.d (.str z)), some (.d (.tup (ns.map .int))), some (.d (tbD rows)), some (.d (.lst us)), none, some (.d g), some (.d (.str kept)), some (.d (.tup [.str "good", (Stk.mk z rows).d])), some (.d (Stk.mk z rows).d), some (.d (Stk.mk z (rows.take 1)).d), some (.d (wdD v)), (y14.map SV.d).map (relS (fzM us M)), none, none] := rfl
    rw [es]
    generalize y0.map (relS (fzM us M)) = z0
    generalize (y14.map SV.d).map (relS (fzM us M)) = z14
    have l6 := tb.l6
    have l1 := tb.l1
    refine ws_cut (fun o s => ∃ t, (t = .lst us ∨ t = .tup us) ∧ o = .hand :: .gone :: gs ∧ s = [z0, some (.p 0), some (.d x), some (.d (.str z)), some (.d (.tup (ns.map .int))), some (.d (tbD rows)), some (.d (.lst us)), none, some (.d g), some (.d (.str kept)), some (.d (.tup [.str "good", (Stk.mk z rows).d])), some (.d (Stk.mk z rows).d), some (.d (Stk.mk z (rows.take 1)).d), some (.d (wdD v)), z14, some (.d t), none]) ?_ ?_
    · refine ws_set ?_
      repeat' walk_at "lo"
      refine ⟨⟨_, .inl rfl⟩, fun _ z => z, ?_⟩
      rintro d ⟨xs, h1, h2⟩
      rcases h1 with h1 | h1 <;> cases h1
      exact ⟨d, h2, rfl, rfl⟩
    rintro o s ⟨t, ht, rfl, rfl⟩
    have iT : items t = some us := by rcases ht with rfl | rfl <;> rfl
    have fT : Fine 60000 3 t := (Fine.seq (c := 1300) (n := 2) (m := 6) (k := 7816) ht huf (by omega) (by decide)).mono (by decide) (Nat.le_refl _)
    have sT : TSit rows t v := Sit.tsit iT (by omega) (by omega) hsit
    refine ws_cut (fun o s => ∃ t v, Fine 60000 3 t ∧ TSit rows t v ∧ o = .hand :: .gone :: gs ∧ s = [z0, some (.p 0), some (.d x), some (.d (.str z)), some (.d (.tup (ns.map .int))), some (.d (tbD rows)), some (.d (.lst us)), none, some (.d g), some (.d (.str kept)), some (.d (.tup [.str "good", (Stk.mk z rows).d])), some (.d (Stk.mk z rows).d), some (.d (Stk.mk z (rows.take 1)).d), some (.d (wdD v)), z14, some (.d t), none]) ?_ ?_
    · refine ws_if ?_
      repeat' walk_at "lo"
      · refine wr_rep (by decide) (by decide) (by show us.length * 7 ≤ 100000; omega) ?_
        repeat' walk_at "lo"
        rename_i k h0 h1
        have hk : k = 0 ∨ k = 1 ∨ k = 2 ∨ k = 3 ∨ k = 4 := by omega
        rcases hk with rfl | rfl | rfl | rfl | rfl
        · refine wr_ixT (x := .non) rfl ?_
          repeat' walk_at "lo"
          exact ⟨_, some "table", fine_no.mono (by decide) (Nat.zero_le _), tabW_no rfl, rfl, rfl⟩
        · refine wr_ixT (x := .tup []) rfl ?_
          repeat' walk_at "lo"
          exact ⟨_, some "table", ⟨rfl, Nat.le_of_ble_eq_true rfl, Nat.le_of_ble_eq_true rfl⟩, tabW_no rfl, rfl, rfl⟩
        · refine wr_ixT (x := .lst (List.replicate 7 us).flatten) rfl ?_
          repeat' walk_at "lo"
          exact ⟨_, some "table", rep7_fine (by omega) huf, tabW_no (rep7 (by omega)), rfl, rfl⟩
        · refine wr_ixT (x := .str "table") rfl ?_
          repeat' walk_at "lo"
          exact ⟨_, some "table", Fine.str (by decide +kernel) (by decide +kernel), tabW_no rfl, rfl, rfl⟩
        · refine wr_ixT (x := .int 5) rfl ?_
          repeat' walk_at "lo"
          exact ⟨_, some "table", (Fine.int (by decide)).mono (by decide) (Nat.le_refl _), tabW_no rfl, rfl, rfl⟩
      · exact ⟨t, v, fT, sT, rfl, rfl⟩
    clear iT fT sT
    rintro o s ⟨t, v, fT, sT, rfl, rfl⟩
    refine ws_cut (fun o s => o = .hand :: .gone :: gs ∧ s = [z0, some (.p 0), some (.d x), some (.d (.str z)), some (.d (.tup (ns.map .int))), some (.d (tbD rows)), some (.d (.lst us)), none, some (.d g), some (.d (.str kept)), some (.d (.tup [.str "good", (Stk.mk z rows).d])), some (.d (Stk.mk z rows).d), some (.d (Stk.mk z (rows.take 1)).d), some (.d (wdD v)), z14, some (.d t), some (.d (.str z))]) ?_ ?_
    · refine ws_set (we_var rfl ?_)
      exact ⟨rfl, rfl⟩
    rintro o s ⟨rfl, rfl⟩
    refine ws_cut (fun o s => ∃ nm v, okStr nm ∧ NSit z rows nm t v ∧ o = .hand :: .gone :: gs ∧ s = [z0, some (.p 0), some (.d x), some (.d (.str z)), some (.d (.tup (ns.map .int))), some (.d (tbD rows)), some (.d (.lst us)), none, some (.d g), some (.d (.str kept)), some (.d (.tup [.str "good", (Stk.mk z rows).d])), some (.d (Stk.mk z rows).d), some (.d (Stk.mk z (rows.take 1)).d), some (.d (wdD v)), z14, some (.d t), some (.d nm)]) ?_ ?_
    · refine ws_if ?_
      have l8 := hz.l8
      repeat' walk_at "lo"
      · refine wr_addS (by show z.length + 8 ≤ _; omega) ?_
        repeat' walk_at "lo"
        refine wr_addS (by show z.length + 1 ≤ _; omega) ?_
        repeat' walk_at "lo"
        rename_i k h0 h1
        have hk : k = 0 ∨ k = 1 ∨ k = 2 ∨ k = 3 ∨ k = 4 ∨ k = 5 ∨ k = 6 := by omega
        rcases hk with rfl | rfl | rfl | rfl | rfl | rfl | rfl
        · refine wr_ixT (x := (.non)) rfl ?_
          repeat' walk_at "lo"
          exact ⟨_, some "name", ⟨rfl, fun _ e => by cases e⟩, nsit_no rfl, rfl, rfl⟩
        · refine wr_ixT (x := (.str "")) rfl ?_
          repeat' walk_at "lo"
          exact ⟨_, some "name", okStr_lit (by decide +kernel), nsit_no rfl, rfl, rfl⟩
        · refine wr_ixT (x := (.str (z ++ "abcdefgh"))) rfl ?_
          repeat' walk_at "lo"
          exact ⟨_, some "name", okStr_lit (by rw [Str.length_app]; exact Nat.le_trans (Nat.add_le_add_right l8 _) (by decide +kernel)), nsit_no (name_long hz), rfl, rfl⟩
        · refine wr_ixT (x := (.str (z ++ "A"))) rfl ?_
          repeat' walk_at "lo"
          exact ⟨_, some "name", okStr_lit (by rw [Str.length_app]; exact Nat.le_trans (Nat.add_le_add_right l8 _) (by decide +kernel)), nsit_no name_A, rfl, rfl⟩
        · refine wr_ixT (x := (.str "a b")) rfl ?_
          repeat' walk_at "lo"
          exact ⟨_, some "name", okStr_lit (by decide +kernel), nsit_no (by decide +kernel), rfl, rfl⟩
        · refine wr_ixT (x := (.int 5)) rfl ?_
          repeat' walk_at "lo"
          exact ⟨_, some "name", ⟨rfl, fun _ e => by cases e⟩, nsit_no rfl, rfl, rfl⟩
        · refine wr_ixT (x := (.bl true)) rfl ?_
          repeat' walk_at "lo"
          exact ⟨_, some "name", ⟨rfl, fun _ e => by cases e⟩, nsit_no rfl, rfl, rfl⟩
      · exact ⟨.str z, v, (tame_nam hz).str, sT.nsit hz, rfl, rfl⟩
    clear sT
    rintro o s ⟨nm, v, oN, sN, rfl, rfl⟩
    obtain ⟨kt, hkt⟩ := fT.rpd (by decide) (by decide)
    refine ws_seq (ws_set (we_cb (wa_cons (we_var rfl (wa_nil (wc_reprA .d hkt ?_))))))
    refine ws_cut (fun o s => ∃ td, ((v = none ∧ td = .tup [.str "good", (Stk.mk z rows).d]) ∨ ∃ wd, v = some wd ∧ td = .tup [.str "bad", .str wd]) ∧ o = .hand :: .gone :: gs ∧ s = [z0, some (.p 0), some (.d x), some (.d (.str z)), some (.d (.tup (ns.map .int))), some (.d (tbD rows)), some (.d (.lst us)), none, some (.d g), some (.d (.str kt)), some (.d td), some (.d (Stk.mk z rows).d), some (.d (Stk.mk z (rows.take 1)).d), some (.d (wdD v)), z14, some (.d t), some (.d nm)]) ?_ ?_
    · refine ws_set (we_cal0 (wa_cons (we_var rfl (wa_cons (we_var rfl (wa_nil ?_))))))
      refine ⟨_, .cons (.cons .nil), ⟨(nm, t), rfl, ⟨oN, (fT.tame (by decide)).tab⟩, fun _ z => z, ?_⟩⟩
      have good : v = none → stW nm t = none ∧ stD nm t = (Stk.mk z rows).d := fun e => by
        subst e
        obtain ⟨rfl, us', iT, rw'⟩ := sN
        exact stW_good hz tb iT rw'
      have bad : ∀ wd, v = some wd → stW nm t = some wd := fun wd e => by
        subst e
        exact sN
      rintro d (⟨e1, rfl⟩ | ⟨wd, e1, rfl⟩)
      · cases v with
        | none => exact ⟨_, .inl ⟨rfl, by rw [(good rfl).2]⟩, rfl, rfl⟩
        | some wd =>
          have := bad wd rfl
          rw [show stW (nm, t).1 (nm, t).2 = stW nm t from rfl, this] at e1
          cases e1
      · cases v with
        | none =>
          have := (good rfl).1
          rw [show stW (nm, t).1 (nm, t).2 = stW nm t from rfl, this] at e1
          cases e1
        | some wd2 =>
          have := bad wd2 rfl
          rw [show stW (nm, t).1 (nm, t).2 = stW nm t from rfl, this] at e1
          cases e1
          exact ⟨_, .inr ⟨_, rfl, rfl⟩, rfl, rfl⟩
    rintro o s ⟨td, hTd, rfl, rfl⟩
    rcases hTd with ⟨rfl, rfl⟩ | ⟨wd, rfl, rfl⟩
    · refine ws_cut (fun o s => o = .hand :: .gone :: gs ∧ s = [z0, some (.p 0), some (.d x), some (.d (.str z)), some (.d (.tup (ns.map .int))), some (.d (tbD rows)), some (.d (.lst us)), none, some (.d g), some (.d (.str kt)), some (.d (.tup [.str "good", (Stk.mk z rows).d])), some (.d (Stk.mk z rows).d), some (.d (Stk.mk z (rows.take 1)).d), some (.d .non), z14, some (.d t), some (.d nm)]) ?_ ?_
      · refine ws_if ?_
        repeat' walk_at "lo"
        refine wr_neS2 (by decide +kernel) (by decide +kernel) ?_
        rw [decide_eq_true rfl]
        repeat' walk_at "lo"
        refine ⟨okS, fun _ z => z, ?_⟩
        rintro d rfl
        refine ⟨_, rfl, ⟨(fun z => nomatch z), fun _ => ?_⟩⟩
        exact ws_next ⟨rfl, rfl⟩
      rintro o s ⟨rfl, rfl⟩
      refine ws_seq (ws_if ?_)
      repeat' walk_at "lo"
      refine wc_reprA .d hkt ?_
      repeat' walk_at "lo"
      refine wr_neStr ?_
      rw [decide_eq_true rfl]
      repeat' walk_at "lo"
      exact ⟨[.hand], _, ⟨⟨_, rfl⟩, .drop (.keepp Nat.zero_lt_one (.drop (.drop (.drop (.drop (.drop (.drop (.drop (.drop (.drop (.drop (.drop (.drop (.drop (.drop (.drop .nil))))))))))))))))⟩, OwP_hand OwP_nil, Nat.le_refl _, none, rfl, rfl⟩
    · refine ws_seq (ws_if ?_)
      repeat' walk_at "lo"
      refine wr_neL (T := TT K a) .d .d (okd_bad (word_ok sN)) (okd_bad (word_ok sN)) ?_
      rw [show wdD (some wd) = D.str wd from rfl, eqv_self (okd_bad (word_ok sN))]
      repeat' walk_at "lo"
      refine wc_reprA .d hkt ?_
      repeat' walk_at "lo"
      refine wr_neStr ?_
      rw [decide_eq_true rfl]
      repeat' walk_at "lo"
      exact ⟨[.hand], _, ⟨⟨_, rfl⟩, .drop (.keepp Nat.zero_lt_one (.drop (.drop (.drop (.drop (.drop (.drop (.drop (.drop (.drop (.drop (.drop (.drop (.drop (.drop (.drop .nil))))))))))))))))⟩, OwP_hand OwP_nil, Nat.le_refl _, none, rfl, rfl⟩
  · rintro o s ⟨x0, rfl, rfl⟩
    repeat' walk_at "lq"
    rfl
end
end L3
end
set_option Elab.async false
set_option linter.all false
set_option maxRecDepth 100000
set_option maxHeartbeats 1000000
namespace L3
open PySem PySem.Spec PyProof.Rows L2 PySem.W PySem.Calls Lo
theorem txt_mk {P : Program} {K : PySem.W.Frag} {mg : PySem.Str → Option Value} {h : Heap} {fa : Addr} (KX : K.In h) (G : h.Ns mainGlobals mg) (hfa : mg "law" = some (.ref fa)) {f_BadStock___init__ f_is_whole f_is_row f_are_letters f_is_name f_is_part f_is_ending f_number_rank f__checked_table f_Stock___init__ f_Stock___eq__ f_Stock_borne f_Stock_endings f_Stock_ending_for f__law_hand f__law_mixed f__law_take f__law_shuffled f__law_some f__law_pool f__law_table f__law_word f__law_as_list f__law_no_role f__law_no_ending f__law_told f__law_shows f__law_spoilt f_law C_TongueError C_BadStock C_BadFrame C_Stock p_Stock_borne p_Stock_endings : Addr}
    (a_is_whole : PySem.W.nsIn K mainGlobals "is_whole" = some (some (.ref f_is_whole)))
    {oc_is_whole kV_is_whole dc_is_whole pm_is_whole cd_is_whole ct_is_whole : Value}
    {od_is_whole an_is_whole : Option Addr}
    {sl_is_whole : Array (Option Value)}
    (l_is_whole : K.lookup f_is_whole = some ⟨oc_is_whole, od_is_whole, .func (PySem.W.fnOf "is_whole" "is_whole" (defArgs s_is_whole) (defBody s_is_whole) (defScope s_is_whole) (.ref dT_is_whole) kV_is_whole dc_is_whole pm_is_whole an_is_whole cd_is_whole ct_is_whole), sl_is_whole⟩)
    {e1_is_whole : Value}
    {e2_is_whole : Option Addr}
    {e3_is_whole : Nat}
    {e4_is_whole : Array (Option Value)}
    (t_is_whole : K.lookup dT_is_whole = some ⟨e1_is_whole, e2_is_whole, .seq #[Value.none, Value.none] e3_is_whole, e4_is_whole⟩)
    (c_is_whole : PySem.W.codeIn K cd_is_whole "is_whole" = true)
    (k_is_whole : PySem.W.keepIn K (.ref f_is_whole) = true)
    (a_is_row : PySem.W.nsIn K mainGlobals "is_row" = some (some (.ref f_is_row)))
    {oc_is_row kV_is_row dc_is_row pm_is_row cd_is_row ct_is_row : Value}
    {od_is_row an_is_row : Option Addr}
    {sl_is_row : Array (Option Value)}
    (l_is_row : K.lookup f_is_row = some ⟨oc_is_row, od_is_row, .func (PySem.W.fnOf "is_row" "is_row" (defArgs s_is_row) (defBody s_is_row) (defScope s_is_row) (.ref dT_is_row) kV_is_row dc_is_row pm_is_row an_is_row cd_is_row ct_is_row), sl_is_row⟩)
    {e1_is_row : Value}
    {e2_is_row : Option Addr}
    {e3_is_row : Nat}
    {e4_is_row : Array (Option Value)}
    {td0_is_row : Nat}
    (t_is_row : K.lookup dT_is_row = some ⟨e1_is_row, e2_is_row, .seq #[Value.int (0) td0_is_row, Value.none] e3_is_row, e4_is_row⟩)
    (c_is_row : PySem.W.codeIn K cd_is_row "is_row" = true)
    (k_is_row : PySem.W.keepIn K (.ref f_is_row) = true)
    (a_are_letters : PySem.W.nsIn K mainGlobals "are_letters" = some (some (.ref f_are_letters)))
    {oc_are_letters kV_are_letters dc_are_letters pm_are_letters cd_are_letters ct_are_letters : Value}
    {od_are_letters an_are_letters : Option Addr}
    {sl_are_letters : Array (Option Value)}
    (l_are_letters : K.lookup f_are_letters = some ⟨oc_are_letters, od_are_letters, .func (PySem.W.fnOf "are_letters" "are_letters" (defArgs s_are_letters) (defBody s_are_letters) (defScope s_are_letters) .none kV_are_letters dc_are_letters pm_are_letters an_are_letters cd_are_letters ct_are_letters), sl_are_letters⟩)
    (c_are_letters : PySem.W.codeIn K cd_are_letters "are_letters" = true)
    (k_are_letters : PySem.W.keepIn K (.ref f_are_letters) = true)
    (a_is_name : PySem.W.nsIn K mainGlobals "is_name" = some (some (.ref f_is_name)))
    {oc_is_name kV_is_name dc_is_name pm_is_name cd_is_name ct_is_name : Value}
    {od_is_name an_is_name : Option Addr}
    {sl_is_name : Array (Option Value)}
    (l_is_name : K.lookup f_is_name = some ⟨oc_is_name, od_is_name, .func (PySem.W.fnOf "is_name" "is_name" (defArgs s_is_name) (defBody s_is_name) (defScope s_is_name) .none kV_is_name dc_is_name pm_is_name an_is_name cd_is_name ct_is_name), sl_is_name⟩)
    (c_is_name : PySem.W.codeIn K cd_is_name "is_name" = true)
    (k_is_name : PySem.W.keepIn K (.ref f_is_name) = true)
    (a_is_part : PySem.W.nsIn K mainGlobals "is_part" = some (some (.ref f_is_part)))
    {oc_is_part kV_is_part dc_is_part pm_is_part cd_is_part ct_is_part : Value}
    {od_is_part an_is_part : Option Addr}
    {sl_is_part : Array (Option Value)}
    (l_is_part : K.lookup f_is_part = some ⟨oc_is_part, od_is_part, .func (PySem.W.fnOf "is_part" "is_part" (defArgs s_is_part) (defBody s_is_part) (defScope s_is_part) .none kV_is_part dc_is_part pm_is_part an_is_part cd_is_part ct_is_part), sl_is_part⟩)
    (c_is_part : PySem.W.codeIn K cd_is_part "is_part" = true)
    (k_is_part : PySem.W.keepIn K (.ref f_is_part) = true)
    (a_is_ending : PySem.W.nsIn K mainGlobals "is_ending" = some (some (.ref f_is_ending)))
    {oc_is_ending kV_is_ending dc_is_ending pm_is_ending cd_is_ending ct_is_ending : Value}
    {od_is_ending an_is_ending : Option Addr}
    {sl_is_ending : Array (Option Value)}
    (l_is_ending : K.lookup f_is_ending = some ⟨oc_is_ending, od_is_ending, .func (PySem.W.fnOf "is_ending" "is_ending" (defArgs s_is_ending) (defBody s_is_ending) (defScope s_is_ending) .none kV_is_ending dc_is_ending pm_is_ending an_is_ending cd_is_ending ct_is_ending), sl_is_ending⟩)
    (c_is_ending : PySem.W.codeIn K cd_is_ending "is_ending" = true)
    (k_is_ending : PySem.W.keepIn K (.ref f_is_ending) = true)
    (a_number_rank : PySem.W.nsIn K mainGlobals "number_rank" = some (some (.ref f_number_rank)))
    {oc_number_rank kV_number_rank dc_number_rank pm_number_rank cd_number_rank ct_number_rank : Value}
    {od_number_rank an_number_rank : Option Addr}
    {sl_number_rank : Array (Option Value)}
    (l_number_rank : K.lookup f_number_rank = some ⟨oc_number_rank, od_number_rank, .func (PySem.W.fnOf "number_rank" "number_rank" (defArgs s_number_rank) (defBody s_number_rank) (defScope s_number_rank) .none kV_number_rank dc_number_rank pm_number_rank an_number_rank cd_number_rank ct_number_rank), sl_number_rank⟩)
    (c_number_rank : PySem.W.codeIn K cd_number_rank "number_rank" = true)
    (k_number_rank : PySem.W.keepIn K (.ref f_number_rank) = true)
    (a__checked_table : PySem.W.nsIn K mainGlobals "_checked_table" = some (some (.ref f__checked_table)))
    {oc__checked_table kV__checked_table dc__checked_table pm__checked_table cd__checked_table ct__checked_table : Value}
    {od__checked_table an__checked_table : Option Addr}
    {sl__checked_table : Array (Option Value)}
    (l__checked_table : K.lookup f__checked_table = some ⟨oc__checked_table, od__checked_table, .func (PySem.W.fnOf "_checked_table" "_checked_table" (defArgs s__checked_table) (defBody s__checked_table) (defScope s__checked_table) .none kV__checked_table dc__checked_table pm__checked_table an__checked_table cd__checked_table ct__checked_table), sl__checked_table⟩)
    (c__checked_table : PySem.W.codeIn K cd__checked_table "_checked_table" = true)
    (k__checked_table : PySem.W.keepIn K (.ref f__checked_table) = true)
    (a__law_hand : PySem.W.nsIn K mainGlobals "_law_hand" = some (some (.ref f__law_hand)))
    {oc__law_hand kV__law_hand dc__law_hand pm__law_hand cd__law_hand ct__law_hand : Value}
    {od__law_hand an__law_hand : Option Addr}
    {sl__law_hand : Array (Option Value)}
    (l__law_hand : K.lookup f__law_hand = some ⟨oc__law_hand, od__law_hand, .func (PySem.W.fnOf "_law_hand" "_law_hand" (defArgs s__law_hand) (defBody s__law_hand) (defScope s__law_hand) .none kV__law_hand dc__law_hand pm__law_hand an__law_hand cd__law_hand ct__law_hand), sl__law_hand⟩)
    (c__law_hand : PySem.W.codeIn K cd__law_hand "_law_hand" = true)
    (k__law_hand : PySem.W.keepIn K (.ref f__law_hand) = true)
    (a__law_mixed : PySem.W.nsIn K mainGlobals "_law_mixed" = some (some (.ref f__law_mixed)))
    {oc__law_mixed kV__law_mixed dc__law_mixed pm__law_mixed cd__law_mixed ct__law_mixed : Value}
    {od__law_mixed an__law_mixed : Option Addr}
    {sl__law_mixed : Array (Option Value)}
    (l__law_mixed : K.lookup f__law_mixed = some ⟨oc__law_mixed, od__law_mixed, .func (PySem.W.fnOf "_law_mixed" "_law_mixed" (defArgs s__law_mixed) (defBody s__law_mixed) (defScope s__law_mixed) .none kV__law_mixed dc__law_mixed pm__law_mixed an__law_mixed cd__law_mixed ct__law_mixed), sl__law_mixed⟩)
    (c__law_mixed : PySem.W.codeIn K cd__law_mixed "_law_mixed" = true)
    (k__law_mixed : PySem.W.keepIn K (.ref f__law_mixed) = true)
    (a__law_take : PySem.W.nsIn K mainGlobals "_law_take" = some (some (.ref f__law_take)))
    {oc__law_take kV__law_take dc__law_take pm__law_take cd__law_take ct__law_take : Value}
    {od__law_take an__law_take : Option Addr}
    {sl__law_take : Array (Option Value)}
    (l__law_take : K.lookup f__law_take = some ⟨oc__law_take, od__law_take, .func (PySem.W.fnOf "_law_take" "_law_take" (defArgs s__law_take) (defBody s__law_take) (defScope s__law_take) .none kV__law_take dc__law_take pm__law_take an__law_take cd__law_take ct__law_take), sl__law_take⟩)
    (c__law_take : PySem.W.codeIn K cd__law_take "_law_take" = true)
    (k__law_take : PySem.W.keepIn K (.ref f__law_take) = true)
    (a__law_shuffled : PySem.W.nsIn K mainGlobals "_law_shuffled" = some (some (.ref f__law_shuffled)))
    {oc__law_shuffled kV__law_shuffled dc__law_shuffled pm__law_shuffled cd__law_shuffled ct__law_shuffled : Value}
    {od__law_shuffled an__law_shuffled : Option Addr}
    {sl__law_shuffled : Array (Option Value)}
    (l__law_shuffled : K.lookup f__law_shuffled = some ⟨oc__law_shuffled, od__law_shuffled, .func (PySem.W.fnOf "_law_shuffled" "_law_shuffled" (defArgs s__law_shuffled) (defBody s__law_shuffled) (defScope s__law_shuffled) .none kV__law_shuffled dc__law_shuffled pm__law_shuffled an__law_shuffled cd__law_shuffled ct__law_shuffled), sl__law_shuffled⟩)
    (c__law_shuffled : PySem.W.codeIn K cd__law_shuffled "_law_shuffled" = true)
    (k__law_shuffled : PySem.W.keepIn K (.ref f__law_shuffled) = true)
    (a__law_some : PySem.W.nsIn K mainGlobals "_law_some" = some (some (.ref f__law_some)))
    {oc__law_some kV__law_some dc__law_some pm__law_some cd__law_some ct__law_some : Value}
    {od__law_some an__law_some : Option Addr}
    {sl__law_some : Array (Option Value)}
    (l__law_some : K.lookup f__law_some = some ⟨oc__law_some, od__law_some, .func (PySem.W.fnOf "_law_some" "_law_some" (defArgs s__law_some) (defBody s__law_some) (defScope s__law_some) .none kV__law_some dc__law_some pm__law_some an__law_some cd__law_some ct__law_some), sl__law_some⟩)
    (c__law_some : PySem.W.codeIn K cd__law_some "_law_some" = true)
    (k__law_some : PySem.W.keepIn K (.ref f__law_some) = true)
    (a__law_pool : PySem.W.nsIn K mainGlobals "_law_pool" = some (some (.ref f__law_pool)))
    {oc__law_pool kV__law_pool dc__law_pool pm__law_pool cd__law_pool ct__law_pool : Value}
    {od__law_pool an__law_pool : Option Addr}
    {sl__law_pool : Array (Option Value)}
    (l__law_pool : K.lookup f__law_pool = some ⟨oc__law_pool, od__law_pool, .func (PySem.W.fnOf "_law_pool" "_law_pool" (defArgs s__law_pool) (defBody s__law_pool) (defScope s__law_pool) .none kV__law_pool dc__law_pool pm__law_pool an__law_pool cd__law_pool ct__law_pool), sl__law_pool⟩)
    (c__law_pool : PySem.W.codeIn K cd__law_pool "_law_pool" = true)
    (k__law_pool : PySem.W.keepIn K (.ref f__law_pool) = true)
    (a__law_table : PySem.W.nsIn K mainGlobals "_law_table" = some (some (.ref f__law_table)))
    {oc__law_table kV__law_table dc__law_table pm__law_table cd__law_table ct__law_table : Value}
    {od__law_table an__law_table : Option Addr}
    {sl__law_table : Array (Option Value)}
    (l__law_table : K.lookup f__law_table = some ⟨oc__law_table, od__law_table, .func (PySem.W.fnOf "_law_table" "_law_table" (defArgs s__law_table) (defBody s__law_table) (defScope s__law_table) .none kV__law_table dc__law_table pm__law_table an__law_table cd__law_table ct__law_table), sl__law_table⟩)
    (c__law_table : PySem.W.codeIn K cd__law_table "_law_table" = true)
    (k__law_table : PySem.W.keepIn K (.ref f__law_table) = true)
    (a__law_word : PySem.W.nsIn K mainGlobals "_law_word" = some (some (.ref f__law_word)))
    {oc__law_word kV__law_word dc__law_word pm__law_word cd__law_word ct__law_word : Value}
    {od__law_word an__law_word : Option Addr}
    {sl__law_word : Array (Option Value)}
    (l__law_word : K.lookup f__law_word = some ⟨oc__law_word, od__law_word, .func (PySem.W.fnOf "_law_word" "_law_word" (defArgs s__law_word) (defBody s__law_word) (defScope s__law_word) .none kV__law_word dc__law_word pm__law_word an__law_word cd__law_word ct__law_word), sl__law_word⟩)
    (c__law_word : PySem.W.codeIn K cd__law_word "_law_word" = true)
    (k__law_word : PySem.W.keepIn K (.ref f__law_word) = true)
    (a__law_as_list : PySem.W.nsIn K mainGlobals "_law_as_list" = some (some (.ref f__law_as_list)))
    {oc__law_as_list kV__law_as_list dc__law_as_list pm__law_as_list cd__law_as_list ct__law_as_list : Value}
    {od__law_as_list an__law_as_list : Option Addr}
    {sl__law_as_list : Array (Option Value)}
    (l__law_as_list : K.lookup f__law_as_list = some ⟨oc__law_as_list, od__law_as_list, .func (PySem.W.fnOf "_law_as_list" "_law_as_list" (defArgs s__law_as_list) (defBody s__law_as_list) (defScope s__law_as_list) .none kV__law_as_list dc__law_as_list pm__law_as_list an__law_as_list cd__law_as_list ct__law_as_list), sl__law_as_list⟩)
    (c__law_as_list : PySem.W.codeIn K cd__law_as_list "_law_as_list" = true)
    (k__law_as_list : PySem.W.keepIn K (.ref f__law_as_list) = true)
    (a__law_no_role : PySem.W.nsIn K mainGlobals "_law_no_role" = some (some (.ref f__law_no_role)))
    {oc__law_no_role kV__law_no_role dc__law_no_role pm__law_no_role cd__law_no_role ct__law_no_role : Value}
    {od__law_no_role an__law_no_role : Option Addr}
    {sl__law_no_role : Array (Option Value)}
    (l__law_no_role : K.lookup f__law_no_role = some ⟨oc__law_no_role, od__law_no_role, .func (PySem.W.fnOf "_law_no_role" "_law_no_role" (defArgs s__law_no_role) (defBody s__law_no_role) (defScope s__law_no_role) .none kV__law_no_role dc__law_no_role pm__law_no_role an__law_no_role cd__law_no_role ct__law_no_role), sl__law_no_role⟩)
    (c__law_no_role : PySem.W.codeIn K cd__law_no_role "_law_no_role" = true)
    (k__law_no_role : PySem.W.keepIn K (.ref f__law_no_role) = true)
    (a__law_no_ending : PySem.W.nsIn K mainGlobals "_law_no_ending" = some (some (.ref f__law_no_ending)))
    {oc__law_no_ending kV__law_no_ending dc__law_no_ending pm__law_no_ending cd__law_no_ending ct__law_no_ending : Value}
    {od__law_no_ending an__law_no_ending : Option Addr}
    {sl__law_no_ending : Array (Option Value)}
    (l__law_no_ending : K.lookup f__law_no_ending = some ⟨oc__law_no_ending, od__law_no_ending, .func (PySem.W.fnOf "_law_no_ending" "_law_no_ending" (defArgs s__law_no_ending) (defBody s__law_no_ending) (defScope s__law_no_ending) .none kV__law_no_ending dc__law_no_ending pm__law_no_ending an__law_no_ending cd__law_no_ending ct__law_no_ending), sl__law_no_ending⟩)
    (c__law_no_ending : PySem.W.codeIn K cd__law_no_ending "_law_no_ending" = true)
    (k__law_no_ending : PySem.W.keepIn K (.ref f__law_no_ending) = true)
    (a__law_told : PySem.W.nsIn K mainGlobals "_law_told" = some (some (.ref f__law_told)))
    {oc__law_told kV__law_told dc__law_told pm__law_told cd__law_told ct__law_told : Value}
    {od__law_told an__law_told : Option Addr}
    {sl__law_told : Array (Option Value)}
    (l__law_told : K.lookup f__law_told = some ⟨oc__law_told, od__law_told, .func (PySem.W.fnOf "_law_told" "_law_told" (defArgs s__law_told) (defBody s__law_told) (defScope s__law_told) .none kV__law_told dc__law_told pm__law_told an__law_told cd__law_told ct__law_told), sl__law_told⟩)
    (c__law_told : PySem.W.codeIn K cd__law_told "_law_told" = true)
    (k__law_told : PySem.W.keepIn K (.ref f__law_told) = true)
    (a__law_shows : PySem.W.nsIn K mainGlobals "_law_shows" = some (some (.ref f__law_shows)))
    {oc__law_shows kV__law_shows dc__law_shows pm__law_shows cd__law_shows ct__law_shows : Value}
    {od__law_shows an__law_shows : Option Addr}
    {sl__law_shows : Array (Option Value)}
    (l__law_shows : K.lookup f__law_shows = some ⟨oc__law_shows, od__law_shows, .func (PySem.W.fnOf "_law_shows" "_law_shows" (defArgs s__law_shows) (defBody s__law_shows) (defScope s__law_shows) .none kV__law_shows dc__law_shows pm__law_shows an__law_shows cd__law_shows ct__law_shows), sl__law_shows⟩)
    (c__law_shows : PySem.W.codeIn K cd__law_shows "_law_shows" = true)
    (k__law_shows : PySem.W.keepIn K (.ref f__law_shows) = true)
    (a__law_spoilt : PySem.W.nsIn K mainGlobals "_law_spoilt" = some (some (.ref f__law_spoilt)))
    {oc__law_spoilt kV__law_spoilt dc__law_spoilt pm__law_spoilt cd__law_spoilt ct__law_spoilt : Value}
    {od__law_spoilt an__law_spoilt : Option Addr}
    {sl__law_spoilt : Array (Option Value)}
    (l__law_spoilt : K.lookup f__law_spoilt = some ⟨oc__law_spoilt, od__law_spoilt, .func (PySem.W.fnOf "_law_spoilt" "_law_spoilt" (defArgs s__law_spoilt) (defBody s__law_spoilt) (defScope s__law_spoilt) .none kV__law_spoilt dc__law_spoilt pm__law_spoilt an__law_spoilt cd__law_spoilt ct__law_spoilt), sl__law_spoilt⟩)
    (c__law_spoilt : PySem.W.codeIn K cd__law_spoilt "_law_spoilt" = true)
    (k__law_spoilt : PySem.W.keepIn K (.ref f__law_spoilt) = true)
    (a_law : PySem.W.nsIn K mainGlobals "law" = some (some (.ref f_law)))
    {oc_law kV_law dc_law pm_law cd_law ct_law : Value}
    {od_law an_law : Option Addr}
    {sl_law : Array (Option Value)}
    (l_law : K.lookup f_law = some ⟨oc_law, od_law, .func (PySem.W.fnOf "law" "law" (defArgs s_law) (defBody s_law) (defScope s_law) .none kV_law dc_law pm_law an_law cd_law ct_law), sl_law⟩)
    (c_law : PySem.W.codeIn K cd_law "law" = true)
    (k_law : PySem.W.keepIn K (.ref f_law) = true)
    (ac_Stock : PySem.W.nsIn K mainGlobals "Stock" = some (some (.ref C_Stock)))
    (a_Stock___init__ : PySem.W.findIn K (.ref C_Stock) "__init__" = some (some (.ref f_Stock___init__)))
    (i_Stock___init__ : PySem.W.isFn K (.ref f_Stock___init__) = true)
    {oc_Stock___init__ kV_Stock___init__ dc_Stock___init__ pm_Stock___init__ cd_Stock___init__ ct_Stock___init__ : Value}
    {od_Stock___init__ an_Stock___init__ : Option Addr}
    {sl_Stock___init__ : Array (Option Value)}
    (l_Stock___init__ : K.lookup f_Stock___init__ = some ⟨oc_Stock___init__, od_Stock___init__, .func (PySem.W.fnOf "__init__" "Stock.__init__" (defArgs s_Stock___init__) (defBody s_Stock___init__) (defScope s_Stock___init__) .none kV_Stock___init__ dc_Stock___init__ pm_Stock___init__ an_Stock___init__ cd_Stock___init__ ct_Stock___init__), sl_Stock___init__⟩)
    (c_Stock___init__ : PySem.W.codeIn K cd_Stock___init__ "Stock.__init__" = true)
    (k_Stock___init__ : PySem.W.keepIn K (.ref f_Stock___init__) = true)
    (a_Stock___eq__ : PySem.W.findIn K (.ref C_Stock) "__eq__" = some (some (.ref f_Stock___eq__)))
    (i_Stock___eq__ : PySem.W.isFn K (.ref f_Stock___eq__) = true)
    {oc_Stock___eq__ kV_Stock___eq__ dc_Stock___eq__ pm_Stock___eq__ cd_Stock___eq__ ct_Stock___eq__ : Value}
    {od_Stock___eq__ an_Stock___eq__ : Option Addr}
    {sl_Stock___eq__ : Array (Option Value)}
    (l_Stock___eq__ : K.lookup f_Stock___eq__ = some ⟨oc_Stock___eq__, od_Stock___eq__, .func (PySem.W.fnOf "__eq__" "Stock.__eq__" (defArgs s_Stock___eq__) (defBody s_Stock___eq__) (defScope s_Stock___eq__) .none kV_Stock___eq__ dc_Stock___eq__ pm_Stock___eq__ an_Stock___eq__ cd_Stock___eq__ ct_Stock___eq__), sl_Stock___eq__⟩)
    (c_Stock___eq__ : PySem.W.codeIn K cd_Stock___eq__ "Stock.__eq__" = true)
    (k_Stock___eq__ : PySem.W.keepIn K (.ref f_Stock___eq__) = true)
    (p1_Stock_borne : PySem.W.findIn K (.ref C_Stock) "borne" = some (some (.ref p_Stock_borne)))
    (p2_Stock_borne : PySem.W.specialIn K (.ref p_Stock_borne) "__get__" = some (some (.builtin "property.__get__")))
    (p3_Stock_borne : PySem.W.takesIn K (.ref p_Stock_borne) = some true)
    {re_Stock_borne : List Value}
    (p4_Stock_borne : PySem.W.recIn K p_Stock_borne "property" = some (.ref f_Stock_borne :: re_Stock_borne))
    {oc_Stock_borne kV_Stock_borne dc_Stock_borne pm_Stock_borne cd_Stock_borne ct_Stock_borne : Value}
    {od_Stock_borne an_Stock_borne : Option Addr}
    {sl_Stock_borne : Array (Option Value)}
    (l_Stock_borne : K.lookup f_Stock_borne = some ⟨oc_Stock_borne, od_Stock_borne, .func (PySem.W.fnOf "borne" "Stock.borne" (defArgs s_Stock_borne) (defBody s_Stock_borne) (defScope s_Stock_borne) .none kV_Stock_borne dc_Stock_borne pm_Stock_borne an_Stock_borne cd_Stock_borne ct_Stock_borne), sl_Stock_borne⟩)
    (c_Stock_borne : PySem.W.codeIn K cd_Stock_borne "Stock.borne" = true)
    (k_Stock_borne : PySem.W.keepIn K (.ref f_Stock_borne) = true)
    (p1_Stock_endings : PySem.W.findIn K (.ref C_Stock) "endings" = some (some (.ref p_Stock_endings)))
    (p2_Stock_endings : PySem.W.specialIn K (.ref p_Stock_endings) "__get__" = some (some (.builtin "property.__get__")))
    (p3_Stock_endings : PySem.W.takesIn K (.ref p_Stock_endings) = some true)
    {re_Stock_endings : List Value}
    (p4_Stock_endings : PySem.W.recIn K p_Stock_endings "property" = some (.ref f_Stock_endings :: re_Stock_endings))
    {oc_Stock_endings kV_Stock_endings dc_Stock_endings pm_Stock_endings cd_Stock_endings ct_Stock_endings : Value}
    {od_Stock_endings an_Stock_endings : Option Addr}
    {sl_Stock_endings : Array (Option Value)}
    (l_Stock_endings : K.lookup f_Stock_endings = some ⟨oc_Stock_endings, od_Stock_endings, .func (PySem.W.fnOf "endings" "Stock.endings" (defArgs s_Stock_endings) (defBody s_Stock_endings) (defScope s_Stock_endings) .none kV_Stock_endings dc_Stock_endings pm_Stock_endings an_Stock_endings cd_Stock_endings ct_Stock_endings), sl_Stock_endings⟩)
    (c_Stock_endings : PySem.W.codeIn K cd_Stock_endings "Stock.endings" = true)
    (k_Stock_endings : PySem.W.keepIn K (.ref f_Stock_endings) = true)
    (a_Stock_ending_for : PySem.W.findIn K (.ref C_Stock) "ending_for" = some (some (.ref f_Stock_ending_for)))
    (i_Stock_ending_for : PySem.W.isFn K (.ref f_Stock_ending_for) = true)
    {oc_Stock_ending_for kV_Stock_ending_for dc_Stock_ending_for pm_Stock_ending_for cd_Stock_ending_for ct_Stock_ending_for : Value}
    {od_Stock_ending_for an_Stock_ending_for : Option Addr}
    {sl_Stock_ending_for : Array (Option Value)}
    (l_Stock_ending_for : K.lookup f_Stock_ending_for = some ⟨oc_Stock_ending_for, od_Stock_ending_for, .func (PySem.W.fnOf "ending_for" "Stock.ending_for" (defArgs s_Stock_ending_for) (defBody s_Stock_ending_for) (defScope s_Stock_ending_for) .none kV_Stock_ending_for dc_Stock_ending_for pm_Stock_ending_for an_Stock_ending_for cd_Stock_ending_for ct_Stock_ending_for), sl_Stock_ending_for⟩)
    (c_Stock_ending_for : PySem.W.codeIn K cd_Stock_ending_for "Stock.ending_for" = true)
    (k_Stock_ending_for : PySem.W.keepIn K (.ref f_Stock_ending_for) = true)
    (pg_Stock : PySem.W.plainGet K C_Stock Str.empty = true)
    (hd_Stock : PySem.W.hasDictIn K C_Stock = true)
    (po_Stock : PySem.W.plainOver K C_Stock = true)
    (sa_Stock : PySem.W.findIn K (.ref C_Stock) "__setattr__" = some (some (.builtin "object.__setattr__")))
    (mk_Stock : PySem.W.makesIn K C_Stock = true)
    (kc_Stock : PySem.W.keepIn K (.ref C_Stock) = true)
    (no_Stock_name : PySem.W.findIn K (.ref C_Stock) "name" = some none)
    (no_Stock_table : PySem.W.findIn K (.ref C_Stock) "table" = some none)
    (ne_Stock : PySem.W.findIn K (.ref C_Stock) "__ne__" = some (some (.builtin "object.__ne__")))
    (ob_Stock : PySem.W.mroIn K C_Stock (.type "object") = some true)
    (cl_Stock : PySem.W.findIn K (.ref C_Stock) "__class__" = some (some (.builtin "object.__class__")))
    (is_Stock_Stock : PySem.W.kitOne K (.ref C_Stock) (.ref C_Stock) = some true)
    (nf_Stock_NoneType : PySem.W.notFirst K C_Stock (.type "NoneType") = true)
    (it_Stock_NoneType : PySem.W.kitOne K (.type "NoneType") (.ref C_Stock) = some false)
    (nf_Stock_bool : PySem.W.notFirst K C_Stock (.type "bool") = true)
    (it_Stock_bool : PySem.W.kitOne K (.type "bool") (.ref C_Stock) = some false)
    (nf_Stock_int : PySem.W.notFirst K C_Stock (.type "int") = true)
    (it_Stock_int : PySem.W.kitOne K (.type "int") (.ref C_Stock) = some false)
    (nf_Stock_str : PySem.W.notFirst K C_Stock (.type "str") = true)
    (it_Stock_str : PySem.W.kitOne K (.type "str") (.ref C_Stock) = some false)
    (nf_Stock_list : PySem.W.notFirst K C_Stock (.type "list") = true)
    (it_Stock_list : PySem.W.kitOne K (.type "list") (.ref C_Stock) = some false)
    (nf_Stock_tuple : PySem.W.notFirst K C_Stock (.type "tuple") = true)
    (it_Stock_tuple : PySem.W.kitOne K (.type "tuple") (.ref C_Stock) = some false)
    (oc1 : PySem.W.specialIn K (.builtin "object.__class__") "__get__" = some (some (.builtin "getset_descriptor.__get__")))
    (oc2 : PySem.W.takesIn K (.builtin "object.__class__") = some true)
    (ac_TongueError : PySem.W.nsIn K mainGlobals "TongueError" = some (some (.ref C_TongueError)))
    (ac_BadStock : PySem.W.nsIn K mainGlobals "BadStock" = some (some (.ref C_BadStock)))
    (ac_BadFrame : PySem.W.nsIn K mainGlobals "BadFrame" = some (some (.ref C_BadFrame)))
    (ops : PySem.W.nsIn K cStatics "thirdparty.any" = some none)
    {xn_BadStock xq_BadStock : PySem.Str}
    {xN_BadStock : Addr}
    {xb_BadStock xm_BadStock xu_BadStock : List Value}
    {xs_BadStock : List PySem.Str}
    {xa_BadStock : Bool}
    {xo_BadStock : Option Bool}
    {xd_BadStock : Option Addr}
    {x0_BadStock x1_BadStock x2_BadStock x3_BadStock x5_BadStock : Option Value}
    (xc_BadStock : K.lookup C_BadStock = some (excClassObj xn_BadStock xq_BadStock C_BadStock xN_BadStock xb_BadStock xm_BadStock true xs_BadStock xu_BadStock xa_BadStock xo_BadStock xd_BadStock x0_BadStock x1_BadStock x2_BadStock x3_BadStock x5_BadStock "ValueError.__new__"))
    (xr_BadStock : PySem.HandSPX.refsVE xm_BadStock = true)
    (xsa_BadStock : PySem.W.findIn K (.ref C_BadStock) "__setattr__" = some (some (.builtin "object.__setattr__")))
    (xb1_BadStock : PySem.W.subIn K (.ref C_BadStock) (.type "BaseException") = some true)
    (xt_BadStock : PySem.W.typeIn K (.ref C_BadStock) = some (.type "type"))
    (xk_BadStock : PySem.W.keepIn K (.ref C_BadStock) = true)
    (xga_BadStock : PySem.W.findIn K (.ref C_BadStock) "__getattribute__" = some (some (.builtin "BaseException.__getattribute__")))
    (xgg_BadStock : PySem.W.findIn K (.ref C_BadStock) "__getattr__" = some none)
    (xhd_BadStock : PySem.W.hasDictIn K C_BadStock = true)
    (xcl_BadStock : PySem.W.findIn K (.ref C_BadStock) "__class__" = some (some (.builtin "object.__class__")))
    (xmo_BadStock : PySem.W.mroIn K C_BadStock (.type "object") = some true)
    (xno_BadStock_what : PySem.W.findIn K (.ref C_BadStock) "what" = some none)
    (xi_BadStock : PySem.W.findIn K (.ref C_BadStock) "__init__" = some (some (.ref f_BadStock___init__)))
    {oc_BadStock___init__ kV_BadStock___init__ dc_BadStock___init__ pm_BadStock___init__ ct_BadStock___init__ : Value}
    {od_BadStock___init__ an_BadStock___init__ : Option Addr}
    {sl_BadStock___init__ : Array (Option Value)}
    {cda_BadStock___init__ cc_BadStock___init__ : Addr}
    (xf_BadStock : K.lookup f_BadStock___init__ = some ⟨oc_BadStock___init__, od_BadStock___init__, .func (ksFn "__init__" "BadStock.__init__" (defArgs s_BadStock___init__) (defBody s_BadStock___init__) (defScope s_BadStock___init__) .none kV_BadStock___init__ dc_BadStock___init__ pm_BadStock___init__ an_BadStock___init__ (.ref cda_BadStock___init__) ct_BadStock___init__ cc_BadStock___init__), sl_BadStock___init__⟩)
    (xti_BadStock : PySem.W.typeIn K (.ref f_BadStock___init__) = some (.type "function"))
    (xcd_BadStock : PySem.W.codeIn K (.ref cda_BadStock___init__) "BadStock.__init__" = true)
    {ccl_BadStock___init__ : Value}
    {cdd_BadStock___init__ : Option Addr}
    {vs_BadStock___init__ : Array Value}
    {ccs_BadStock___init__ : Array (Option Value)}
    (xco_BadStock : K.lookup cda_BadStock___init__ = some ⟨ccl_BadStock___init__, cdd_BadStock___init__, .fields vs_BadStock___init__, ccs_BadStock___init__⟩)
    {file_BadStock___init__ : PySem.Str}
    {tf_BadStock___init__ : Tok}
    (xfl_BadStock : vs_BadStock___init__[2]? = some (.str file_BadStock___init__ tf_BadStock___init__))
    (xfe_BadStock : ((P.main.file : PySem.Str) == file_BadStock___init__) = true)
    {cl_BadStock___init__ : Value}
    {cld_BadStock___init__ : Option Addr}
    {csl_BadStock___init__ : Array (Option Value)}
    (xce_BadStock : K.lookup cc_BadStock___init__ = some ⟨cl_BadStock___init__, cld_BadStock___init__, .cell (some (.ref C_BadStock)), csl_BadStock___init__⟩)
    {ccd_BadStock___init__ : ClassData}
    (xcc_BadStock : clsIn K C_BadStock = some ccd_BadStock___init__)
    (xsu_BadStock : mroIn K C_BadStock (.ref C_BadStock) = some true)
    (xsi_BadStock : ks_superIn K C_BadStock C_BadStock "__init__" = some (some (.builtin "ValueError.__init__")))
    (xve_BadStock : subIn K (.ref C_BadStock) (.type "ValueError") = some true)
    (xis_BadStock_BadStock : PySem.W.kitOne K (.ref C_BadStock) (.ref C_BadStock) = some true)
    (xis_BadStock_BadFrame : PySem.W.kitOne K (.ref C_BadStock) (.ref C_BadFrame) = some false)
    (xis_BadStock_ValueError : PySem.W.kitOne K (.ref C_BadStock) (.type "ValueError") = some true)
    (xe1_BadStock_TongueError : PySem.W.subIn K (.ref C_TongueError) (.type "BaseException") = some true)
    (xe2_BadStock_TongueError : PySem.W.hasDictIn K C_TongueError = true)
    (xe3_BadStock_TongueError : PySem.W.typeIn K (.ref C_TongueError) = some (.type "type"))
    (xe4_BadStock_TongueError : PySem.W.subIn K (.ref C_BadStock) (.ref C_TongueError) = some true)
    {cnt_NAME_MOST : Nat}
    (cn_NAME_MOST : PySem.W.nsIn K mainGlobals "NAME_MOST" = some (some (.int 8 cnt_NAME_MOST)))
    (z_ValueError : PySem.W.nsIn K mainGlobals "ValueError" = some none)
    (z_all : PySem.W.nsIn K mainGlobals "all" = some none)
    (z_bool : PySem.W.nsIn K mainGlobals "bool" = some none)
    (z_int : PySem.W.nsIn K mainGlobals "int" = some none)
    (z_isinstance : PySem.W.nsIn K mainGlobals "isinstance" = some none)
    (z_len : PySem.W.nsIn K mainGlobals "len" = some none)
    (z_list : PySem.W.nsIn K mainGlobals "list" = some none)
    (z_property : PySem.W.nsIn K mainGlobals "property" = some none)
    (z_range : PySem.W.nsIn K mainGlobals "range" = some none)
    (z_repr : PySem.W.nsIn K mainGlobals "repr" = some none)
    (z_set : PySem.W.nsIn K mainGlobals "set" = some none)
    (z_sorted : PySem.W.nsIn K mainGlobals "sorted" = some none)
    (z_str : PySem.W.nsIn K mainGlobals "str" = some none)
    (z_super : PySem.W.nsIn K mainGlobals "super" = some none)
    (z_tuple : PySem.W.nsIn K mainGlobals "tuple" = some none)
    (hsup : (P.main.scope.names.lookup ("super" : PySem.Str)).isSome = false)
    : fa = f_law ∧ Txt P K mg ⟨f_BadStock___init__, f_is_whole, f_is_row, f_are_letters, f_is_name, f_is_part, f_is_ending, f_number_rank, f__checked_table, f_Stock___init__, f_Stock___eq__, f_Stock_borne, f_Stock_endings, f_Stock_ending_for, f__law_hand, f__law_mixed, f__law_take, f__law_shuffled, f__law_some, f__law_pool, f__law_table, f__law_word, f__law_as_list, f__law_no_role, f__law_no_ending, f__law_told, f__law_shows, f__law_spoilt, f_law, C_TongueError, C_BadStock, C_BadFrame, C_Stock, p_Stock_borne, p_Stock_endings⟩ := by
  have e := hfa.symm.trans (PySem.W.mg_of KX G a_law)
  have e2 : fa = f_law := by cases e; rfl
  exact ⟨e2, {
    F_is_whole := ⟨_, ⟨oc_is_whole, od_is_whole, _, kV_is_whole, dc_is_whole, pm_is_whole, an_is_whole, cd_is_whole, ct_is_whole, sl_is_whole, rfl, l_is_whole, c_is_whole, (.inr ⟨by simp, dT_is_whole, _, [Value.none, Value.none], e3_is_whole, rfl, t_is_whole, rfl, (.cons rfl (.cons rfl .nil))⟩), .inl rfl⟩, k_is_whole⟩,
    A_is_whole := ⟨PySem.W.mg_of KX G a_is_whole, k_is_whole⟩,
    F_is_row := ⟨_, ⟨oc_is_row, od_is_row, _, kV_is_row, dc_is_row, pm_is_row, an_is_row, cd_is_row, ct_is_row, sl_is_row, rfl, l_is_row, c_is_row, (.inr ⟨by simp, dT_is_row, _, [Value.int (0) td0_is_row, Value.none], e3_is_row, rfl, t_is_row, rfl, (.cons ⟨_, rfl⟩ (.cons rfl .nil))⟩), .inl rfl⟩, k_is_row⟩,
    A_is_row := ⟨PySem.W.mg_of KX G a_is_row, k_is_row⟩,
    F_are_letters := ⟨_, ⟨oc_are_letters, od_are_letters, _, kV_are_letters, dc_are_letters, pm_are_letters, an_are_letters, cd_are_letters, ct_are_letters, sl_are_letters, rfl, l_are_letters, c_are_letters, (.inl ⟨rfl, rfl⟩), .inl rfl⟩, k_are_letters⟩,
    A_are_letters := ⟨PySem.W.mg_of KX G a_are_letters, k_are_letters⟩,
    F_is_name := ⟨_, ⟨oc_is_name, od_is_name, _, kV_is_name, dc_is_name, pm_is_name, an_is_name, cd_is_name, ct_is_name, sl_is_name, rfl, l_is_name, c_is_name, (.inl ⟨rfl, rfl⟩), .inl rfl⟩, k_is_name⟩,
    A_is_name := ⟨PySem.W.mg_of KX G a_is_name, k_is_name⟩,
    F_is_part := ⟨_, ⟨oc_is_part, od_is_part, _, kV_is_part, dc_is_part, pm_is_part, an_is_part, cd_is_part, ct_is_part, sl_is_part, rfl, l_is_part, c_is_part, (.inl ⟨rfl, rfl⟩), .inl rfl⟩, k_is_part⟩,
    A_is_part := ⟨PySem.W.mg_of KX G a_is_part, k_is_part⟩,
    F_is_ending := ⟨_, ⟨oc_is_ending, od_is_ending, _, kV_is_ending, dc_is_ending, pm_is_ending, an_is_ending, cd_is_ending, ct_is_ending, sl_is_ending, rfl, l_is_ending, c_is_ending, (.inl ⟨rfl, rfl⟩), .inl rfl⟩, k_is_ending⟩,
    A_is_ending := ⟨PySem.W.mg_of KX G a_is_ending, k_is_ending⟩,
    F_number_rank := ⟨_, ⟨oc_number_rank, od_number_rank, _, kV_number_rank, dc_number_rank, pm_number_rank, an_number_rank, cd_number_rank, ct_number_rank, sl_number_rank, rfl, l_number_rank, c_number_rank, (.inl ⟨rfl, rfl⟩), .inl rfl⟩, k_number_rank⟩,
    A_number_rank := ⟨PySem.W.mg_of KX G a_number_rank, k_number_rank⟩,
    F__checked_table := ⟨_, ⟨oc__checked_table, od__checked_table, _, kV__checked_table, dc__checked_table, pm__checked_table, an__checked_table, cd__checked_table, ct__checked_table, sl__checked_table, rfl, l__checked_table, c__checked_table, (.inl ⟨rfl, rfl⟩), .inl rfl⟩, k__checked_table⟩,
    A__checked_table := ⟨PySem.W.mg_of KX G a__checked_table, k__checked_table⟩,
    F_Stock___init__ := ⟨_, ⟨oc_Stock___init__, od_Stock___init__, _, kV_Stock___init__, dc_Stock___init__, pm_Stock___init__, an_Stock___init__, cd_Stock___init__, ct_Stock___init__, sl_Stock___init__, rfl, l_Stock___init__, c_Stock___init__, (.inl ⟨rfl, rfl⟩), .inl rfl⟩, k_Stock___init__⟩,
    F_Stock___eq__ := ⟨_, ⟨oc_Stock___eq__, od_Stock___eq__, _, kV_Stock___eq__, dc_Stock___eq__, pm_Stock___eq__, an_Stock___eq__, cd_Stock___eq__, ct_Stock___eq__, sl_Stock___eq__, rfl, l_Stock___eq__, c_Stock___eq__, (.inl ⟨rfl, rfl⟩), .inl rfl⟩, k_Stock___eq__⟩,
    F_Stock_borne := ⟨_, ⟨oc_Stock_borne, od_Stock_borne, _, kV_Stock_borne, dc_Stock_borne, pm_Stock_borne, an_Stock_borne, cd_Stock_borne, ct_Stock_borne, sl_Stock_borne, rfl, l_Stock_borne, c_Stock_borne, (.inl ⟨rfl, rfl⟩), .inl rfl⟩, k_Stock_borne⟩,
    F_Stock_endings := ⟨_, ⟨oc_Stock_endings, od_Stock_endings, _, kV_Stock_endings, dc_Stock_endings, pm_Stock_endings, an_Stock_endings, cd_Stock_endings, ct_Stock_endings, sl_Stock_endings, rfl, l_Stock_endings, c_Stock_endings, (.inl ⟨rfl, rfl⟩), .inl rfl⟩, k_Stock_endings⟩,
    F_Stock_ending_for := ⟨_, ⟨oc_Stock_ending_for, od_Stock_ending_for, _, kV_Stock_ending_for, dc_Stock_ending_for, pm_Stock_ending_for, an_Stock_ending_for, cd_Stock_ending_for, ct_Stock_ending_for, sl_Stock_ending_for, rfl, l_Stock_ending_for, c_Stock_ending_for, (.inl ⟨rfl, rfl⟩), .inl rfl⟩, k_Stock_ending_for⟩,
    F__law_hand := ⟨_, ⟨oc__law_hand, od__law_hand, _, kV__law_hand, dc__law_hand, pm__law_hand, an__law_hand, cd__law_hand, ct__law_hand, sl__law_hand, rfl, l__law_hand, c__law_hand, (.inl ⟨rfl, rfl⟩), .inl rfl⟩, k__law_hand⟩,
    A__law_hand := ⟨PySem.W.mg_of KX G a__law_hand, k__law_hand⟩,
    F__law_mixed := ⟨_, ⟨oc__law_mixed, od__law_mixed, _, kV__law_mixed, dc__law_mixed, pm__law_mixed, an__law_mixed, cd__law_mixed, ct__law_mixed, sl__law_mixed, rfl, l__law_mixed, c__law_mixed, (.inl ⟨rfl, rfl⟩), .inl rfl⟩, k__law_mixed⟩,
    A__law_mixed := ⟨PySem.W.mg_of KX G a__law_mixed, k__law_mixed⟩,
    F__law_take := ⟨_, ⟨oc__law_take, od__law_take, _, kV__law_take, dc__law_take, pm__law_take, an__law_take, cd__law_take, ct__law_take, sl__law_take, rfl, l__law_take, c__law_take, (.inl ⟨rfl, rfl⟩), .inl rfl⟩, k__law_take⟩,
    A__law_take := ⟨PySem.W.mg_of KX G a__law_take, k__law_take⟩,
    F__law_shuffled := ⟨_, ⟨oc__law_shuffled, od__law_shuffled, _, kV__law_shuffled, dc__law_shuffled, pm__law_shuffled, an__law_shuffled, cd__law_shuffled, ct__law_shuffled, sl__law_shuffled, rfl, l__law_shuffled, c__law_shuffled, (.inl ⟨rfl, rfl⟩), .inl rfl⟩, k__law_shuffled⟩,
    A__law_shuffled := ⟨PySem.W.mg_of KX G a__law_shuffled, k__law_shuffled⟩,
    F__law_some := ⟨_, ⟨oc__law_some, od__law_some, _, kV__law_some, dc__law_some, pm__law_some, an__law_some, cd__law_some, ct__law_some, sl__law_some, rfl, l__law_some, c__law_some, (.inl ⟨rfl, rfl⟩), .inl rfl⟩, k__law_some⟩,
    A__law_some := ⟨PySem.W.mg_of KX G a__law_some, k__law_some⟩,
    F__law_pool := ⟨_, ⟨oc__law_pool, od__law_pool, _, kV__law_pool, dc__law_pool, pm__law_pool, an__law_pool, cd__law_pool, ct__law_pool, sl__law_pool, rfl, l__law_pool, c__law_pool, (.inl ⟨rfl, rfl⟩), .inl rfl⟩, k__law_pool⟩,
    A__law_pool := ⟨PySem.W.mg_of KX G a__law_pool, k__law_pool⟩,
    F__law_table := ⟨_, ⟨oc__law_table, od__law_table, _, kV__law_table, dc__law_table, pm__law_table, an__law_table, cd__law_table, ct__law_table, sl__law_table, rfl, l__law_table, c__law_table, (.inl ⟨rfl, rfl⟩), .inl rfl⟩, k__law_table⟩,
    A__law_table := ⟨PySem.W.mg_of KX G a__law_table, k__law_table⟩,
    F__law_word := ⟨_, ⟨oc__law_word, od__law_word, _, kV__law_word, dc__law_word, pm__law_word, an__law_word, cd__law_word, ct__law_word, sl__law_word, rfl, l__law_word, c__law_word, (.inl ⟨rfl, rfl⟩), .inl rfl⟩, k__law_word⟩,
    A__law_word := ⟨PySem.W.mg_of KX G a__law_word, k__law_word⟩,
    F__law_as_list := ⟨_, ⟨oc__law_as_list, od__law_as_list, _, kV__law_as_list, dc__law_as_list, pm__law_as_list, an__law_as_list, cd__law_as_list, ct__law_as_list, sl__law_as_list, rfl, l__law_as_list, c__law_as_list, (.inl ⟨rfl, rfl⟩), .inl rfl⟩, k__law_as_list⟩,
    A__law_as_list := ⟨PySem.W.mg_of KX G a__law_as_list, k__law_as_list⟩,
    F__law_no_role := ⟨_, ⟨oc__law_no_role, od__law_no_role, _, kV__law_no_role, dc__law_no_role, pm__law_no_role, an__law_no_role, cd__law_no_role, ct__law_no_role, sl__law_no_role, rfl, l__law_no_role, c__law_no_role, (.inl ⟨rfl, rfl⟩), .inl rfl⟩, k__law_no_role⟩,
    A__law_no_role := ⟨PySem.W.mg_of KX G a__law_no_role, k__law_no_role⟩,
    F__law_no_ending := ⟨_, ⟨oc__law_no_ending, od__law_no_ending, _, kV__law_no_ending, dc__law_no_ending, pm__law_no_ending, an__law_no_ending, cd__law_no_ending, ct__law_no_ending, sl__law_no_ending, rfl, l__law_no_ending, c__law_no_ending, (.inl ⟨rfl, rfl⟩), .inl rfl⟩, k__law_no_ending⟩,
    A__law_no_ending := ⟨PySem.W.mg_of KX G a__law_no_ending, k__law_no_ending⟩,
    F__law_told := ⟨_, ⟨oc__law_told, od__law_told, _, kV__law_told, dc__law_told, pm__law_told, an__law_told, cd__law_told, ct__law_told, sl__law_told, rfl, l__law_told, c__law_told, (.inl ⟨rfl, rfl⟩), .inl rfl⟩, k__law_told⟩,
    A__law_told := ⟨PySem.W.mg_of KX G a__law_told, k__law_told⟩,
    F__law_shows := ⟨_, ⟨oc__law_shows, od__law_shows, _, kV__law_shows, dc__law_shows, pm__law_shows, an__law_shows, cd__law_shows, ct__law_shows, sl__law_shows, rfl, l__law_shows, c__law_shows, (.inl ⟨rfl, rfl⟩), .inl rfl⟩, k__law_shows⟩,
    A__law_shows := ⟨PySem.W.mg_of KX G a__law_shows, k__law_shows⟩,
    F__law_spoilt := ⟨_, ⟨oc__law_spoilt, od__law_spoilt, _, kV__law_spoilt, dc__law_spoilt, pm__law_spoilt, an__law_spoilt, cd__law_spoilt, ct__law_spoilt, sl__law_spoilt, rfl, l__law_spoilt, c__law_spoilt, (.inl ⟨rfl, rfl⟩), .inl rfl⟩, k__law_spoilt⟩,
    A__law_spoilt := ⟨PySem.W.mg_of KX G a__law_spoilt, k__law_spoilt⟩,
    F_law := ⟨_, ⟨oc_law, od_law, _, kV_law, dc_law, pm_law, an_law, cd_law, ct_law, sl_law, rfl, l_law, c_law, (.inl ⟨rfl, rfl⟩), .inl rfl⟩, k_law⟩,
    A_law := ⟨PySem.W.mg_of KX G a_law, k_law⟩,
    M_Stock := ⟨PySem.W.mg_of KX G ac_Stock, ⟨mk_Stock, a_Stock___init__, i_Stock___init__, kc_Stock⟩⟩,
    cl_Stock := ⟨pg_Stock, hd_Stock, po_Stock, sa_Stock⟩,
    no_Stock_name := no_Stock_name,
    no_Stock_table := no_Stock_table,
    eq_Stock := ⟨a_Stock___eq__, i_Stock___eq__, ne_Stock, ob_Stock⟩,
    mt_Stock_ending_for := ⟨a_Stock_ending_for, i_Stock_ending_for, k_Stock_ending_for⟩,
    pr_Stock_borne := ⟨p1_Stock_borne, p2_Stock_borne, p3_Stock_borne, ⟨_, p4_Stock_borne⟩⟩,
    pr_Stock_endings := ⟨p1_Stock_endings, p2_Stock_endings, p3_Stock_endings, ⟨_, p4_Stock_endings⟩⟩,
    ty_Stock := ⟨cl_Stock, oc1, oc2, ob_Stock⟩,
    is_Stock_Stock := is_Stock_Stock,
    nf_Stock_NoneType := nf_Stock_NoneType,
    it_Stock_NoneType := it_Stock_NoneType,
    nf_Stock_bool := nf_Stock_bool,
    it_Stock_bool := it_Stock_bool,
    nf_Stock_int := nf_Stock_int,
    it_Stock_int := it_Stock_int,
    nf_Stock_str := nf_Stock_str,
    it_Stock_str := it_Stock_str,
    nf_Stock_list := nf_Stock_list,
    it_Stock_list := it_Stock_list,
    nf_Stock_tuple := nf_Stock_tuple,
    it_Stock_tuple := it_Stock_tuple,
    g_TongueError := PySem.W.mg_of KX G ac_TongueError,
    g_BadStock := PySem.W.mg_of KX G ac_BadStock,
    g_BadFrame := PySem.W.mg_of KX G ac_BadFrame,
    g_Stock := PySem.W.mg_of KX G ac_Stock,
    ox_BadStock := ⟨⟨_, _, _, _, _, _, _, _, _, _, _, _, _, _, _, xc_BadStock, xr_BadStock⟩, xsa_BadStock, xb1_BadStock, xt_BadStock, xk_BadStock⟩,
    ec_BadStock := ⟨xga_BadStock, xgg_BadStock, xb1_BadStock, xhd_BadStock, xcl_BadStock, oc1, oc2, xmo_BadStock⟩,
    xf_BadStock := ⟨xga_BadStock, xgg_BadStock, xb1_BadStock, xhd_BadStock⟩,
    xno_BadStock_what := xno_BadStock_what,
    xl_BadStock := ⟨_, _, _, _, _, _, _, _, _, _, xf_BadStock⟩,
    xi_BadStock := xi_BadStock,
    xti_BadStock := xti_BadStock,
    su_BadStock := ⟨cc_BadStock___init__, cda_BadStock___init__, { ox := ⟨⟨_, _, _, _, _, _, _, _, _, _, _, _, _, _, _, xc_BadStock, xr_BadStock⟩, xsa_BadStock, xb1_BadStock, xt_BadStock, xk_BadStock⟩, fn := ⟨_, _, _, _, _, _, _, _, _, xf_BadStock⟩, cd := xcd_BadStock, code := ⟨_, _, _, _, _, _, xco_BadStock, xfl_BadStock, xfe_BadStock⟩, cell := ⟨_, _, _, xce_BadStock⟩, cls := ⟨_, xcc_BadStock⟩, sub := xsu_BadStock, sup := PySem.W.mg_none_of KX G z_super, ops := ops, sin := xsi_BadStock, ve := xve_BadStock, top := hsup }⟩,
    xis_BadStock_BadStock := xis_BadStock_BadStock,
    xis_BadStock_BadFrame := xis_BadStock_BadFrame,
    xis_BadStock_ValueError := xis_BadStock_ValueError,
    xex_BadStock_TongueError := PySem.W.exm_ref xe1_BadStock_TongueError xe2_BadStock_TongueError xe3_BadStock_TongueError xe4_BadStock_TongueError,
    c_NAME_MOST := ⟨_, PySem.W.mg_of KX G cn_NAME_MOST⟩,
    n_ValueError := PySem.W.mg_none_of KX G z_ValueError,
    n_all := PySem.W.mg_none_of KX G z_all,
    n_bool := PySem.W.mg_none_of KX G z_bool,
    n_int := PySem.W.mg_none_of KX G z_int,
    n_isinstance := PySem.W.mg_none_of KX G z_isinstance,
    n_len := PySem.W.mg_none_of KX G z_len,
    n_list := PySem.W.mg_none_of KX G z_list,
    n_property := PySem.W.mg_none_of KX G z_property,
    n_range := PySem.W.mg_none_of KX G z_range,
    n_repr := PySem.W.mg_none_of KX G z_repr,
    n_set := PySem.W.mg_none_of KX G z_set,
    n_sorted := PySem.W.mg_none_of KX G z_sorted,
    n_str := PySem.W.mg_none_of KX G z_str,
    n_super := PySem.W.mg_none_of KX G z_super,
    n_tuple := PySem.W.mg_none_of KX G z_tuple }⟩
end L3
open PySem PySem.W PyProof.Rows
set_option Elab.async false
set_option maxRecDepth 100000 in
set_option maxHeartbeats 0 in
theorem PySem.Challenge.cw_looseorder_k02_stocks_of_nouns_holds : PySem.Challenge.rw_looseorder_k02_stocks_of_nouns.Holds := by
  w_on; o_law; k_head; (case hw => w_witness2)
  k_fill
  refine Lo.walk_L (l := PySem.Challenge.rw_looseorder_k02_stocks_of_nouns) (k := 8) (x := "_law_script") rfl rfl ⟨rfl, by decide, by decide⟩ (fun w h Y => PySem.W.kIn_of Y) ?F
  case F =>
    intro w mg fa h KX G hmg
    refine' (fun (X : _ ∧ _) => ?fin) (L3.txt_mk (P := PySem.Challenge.rw_looseorder_k02_stocks_of_nouns.prog) KX G hmg ?a_is_whole ?l_is_whole ?t_is_whole ?c_is_whole ?k_is_whole ?a_is_row ?l_is_row ?t_is_row ?c_is_row ?k_is_row ?a_are_letters ?l_are_letters ?c_are_letters ?k_are_letters ?a_is_name ?l_is_name ?c_is_name ?k_is_name ?a_is_part ?l_is_part ?c_is_part ?k_is_part ?a_is_ending ?l_is_ending ?c_is_ending ?k_is_ending ?a_number_rank ?l_number_rank ?c_number_rank ?k_number_rank ?a__checked_table ?l__checked_table ?c__checked_table ?k__checked_table ?a__law_hand ?l__law_hand ?c__law_hand ?k__law_hand ?a__law_mixed ?l__law_mixed ?c__law_mixed ?k__law_mixed ?a__law_take ?l__law_take ?c__law_take ?k__law_take ?a__law_shuffled ?l__law_shuffled ?c__law_shuffled ?k__law_shuffled ?a__law_some ?l__law_some ?c__law_some ?k__law_some ?a__law_pool ?l__law_pool ?c__law_pool ?k__law_pool ?a__law_table ?l__law_table ?c__law_table ?k__law_table ?a__law_word ?l__law_word ?c__law_word ?k__law_word ?a__law_as_list ?l__law_as_list ?c__law_as_list ?k__law_as_list ?a__law_no_role ?l__law_no_role ?c__law_no_role ?k__law_no_role ?a__law_no_ending ?l__law_no_ending ?c__law_no_ending ?k__law_no_ending ?a__law_told ?l__law_told ?c__law_told ?k__law_told ?a__law_shows ?l__law_shows ?c__law_shows ?k__law_shows ?a__law_spoilt ?l__law_spoilt ?c__law_spoilt ?k__law_spoilt ?a_law ?l_law ?c_law ?k_law ?ac_Stock ?a_Stock___init__ ?i_Stock___init__ ?l_Stock___init__ ?c_Stock___init__ ?k_Stock___init__ ?a_Stock___eq__ ?i_Stock___eq__ ?l_Stock___eq__ ?c_Stock___eq__ ?k_Stock___eq__ ?p1_Stock_borne ?p2_Stock_borne ?p3_Stock_borne ?p4_Stock_borne ?l_Stock_borne ?c_Stock_borne ?k_Stock_borne ?p1_Stock_endings ?p2_Stock_endings ?p3_Stock_endings ?p4_Stock_endings ?l_Stock_endings ?c_Stock_endings ?k_Stock_endings ?a_Stock_ending_for ?i_Stock_ending_for ?l_Stock_ending_for ?c_Stock_ending_for ?k_Stock_ending_for ?pg_Stock ?hd_Stock ?po_Stock ?sa_Stock ?mk_Stock ?kc_Stock ?no_Stock_name ?no_Stock_table ?ne_Stock ?ob_Stock ?cl_Stock ?is_Stock_Stock ?nf_Stock_NoneType ?it_Stock_NoneType ?nf_Stock_bool ?it_Stock_bool ?nf_Stock_int ?it_Stock_int ?nf_Stock_str ?it_Stock_str ?nf_Stock_list ?it_Stock_list ?nf_Stock_tuple ?it_Stock_tuple ?oc1 ?oc2 ?ac_TongueError ?ac_BadStock ?ac_BadFrame ?ops ?xc_BadStock ?xr_BadStock ?xsa_BadStock ?xb1_BadStock ?xt_BadStock ?xk_BadStock ?xga_BadStock ?xgg_BadStock ?xhd_BadStock ?xcl_BadStock ?xmo_BadStock ?xno_BadStock_what ?xi_BadStock ?xf_BadStock ?xti_BadStock ?xcd_BadStock ?xco_BadStock ?xfl_BadStock ?xfe_BadStock ?xce_BadStock ?xcc_BadStock ?xsu_BadStock ?xsi_BadStock ?xve_BadStock ?xis_BadStock_BadStock ?xis_BadStock_BadFrame ?xis_BadStock_ValueError ?xe1_BadStock_TongueError ?xe2_BadStock_TongueError ?xe3_BadStock_TongueError ?xe4_BadStock_TongueError ?cn_NAME_MOST ?z_ValueError ?z_all ?z_bool ?z_int ?z_isinstance ?z_len ?z_list ?z_property ?z_range ?z_repr ?z_set ?z_sorted ?z_str ?z_super ?z_tuple ?hsup)
    (case a_is_whole => k_is)
    (case l_is_whole => k_is)
    (case t_is_whole => k_is)
    (case c_is_whole => k_is)
    (case k_is_whole => k_is)
    (case a_is_row => k_is)
    (case l_is_row => k_is)
    (case t_is_row => k_is)
    (case c_is_row => k_is)
    (case k_is_row => k_is)
    (case a_are_letters => k_is)
    (case l_are_letters => k_is)
    (case c_are_letters => k_is)
    (case k_are_letters => k_is)
    (case a_is_name => k_is)
    (case l_is_name => k_is)
    (case c_is_name => k_is)
    (case k_is_name => k_is)
    (case a_is_part => k_is)
    (case l_is_part => k_is)
    (case c_is_part => k_is)
    (case k_is_part => k_is)
    (case a_is_ending => k_is)
    (case l_is_ending => k_is)
    (case c_is_ending => k_is)
    (case k_is_ending => k_is)
    (case a_number_rank => k_is)
    (case l_number_rank => k_is)
    (case c_number_rank => k_is)
    (case k_number_rank => k_is)
    (case a__checked_table => k_is)
    (case l__checked_table => k_is)
    (case c__checked_table => k_is)
    (case k__checked_table => k_is)
    (case a__law_hand => k_is)
    (case l__law_hand => k_is)
    (case c__law_hand => k_is)
    (case k__law_hand => k_is)
    (case a__law_mixed => k_is)
    (case l__law_mixed => k_is)
    (case c__law_mixed => k_is)
    (case k__law_mixed => k_is)
    (case a__law_take => k_is)
    (case l__law_take => k_is)
    (case c__law_take => k_is)
    (case k__law_take => k_is)
    (case a__law_shuffled => k_is)
    (case l__law_shuffled => k_is)
    (case c__law_shuffled => k_is)
    (case k__law_shuffled => k_is)
    (case a__law_some => k_is)
    (case l__law_some => k_is)
    (case c__law_some => k_is)
    (case k__law_some => k_is)
    (case a__law_pool => k_is)
    (case l__law_pool => k_is)
    (case c__law_pool => k_is)
    (case k__law_pool => k_is)
    (case a__law_table => k_is)
    (case l__law_table => k_is)
    (case c__law_table => k_is)
    (case k__law_table => k_is)
    (case a__law_word => k_is)
    (case l__law_word => k_is)
    (case c__law_word => k_is)
    (case k__law_word => k_is)
    (case a__law_as_list => k_is)
    (case l__law_as_list => k_is)
    (case c__law_as_list => k_is)
    (case k__law_as_list => k_is)
    (case a__law_no_role => k_is)
    (case l__law_no_role => k_is)
    (case c__law_no_role => k_is)
    (case k__law_no_role => k_is)
    (case a__law_no_ending => k_is)
    (case l__law_no_ending => k_is)
    (case c__law_no_ending => k_is)
    (case k__law_no_ending => k_is)
    (case a__law_told => k_is)
    (case l__law_told => k_is)
    (case c__law_told => k_is)
    (case k__law_told => k_is)
    (case a__law_shows => k_is)
    (case l__law_shows => k_is)
    (case c__law_shows => k_is)
    (case k__law_shows => k_is)
    (case a__law_spoilt => k_is)
    (case l__law_spoilt => k_is)
    (case c__law_spoilt => k_is)
    (case k__law_spoilt => k_is)
    (case a_law => k_is)
    (case l_law => k_is)
    (case c_law => k_is)
    (case k_law => k_is)
    (case ac_Stock => k_is)
    (case a_Stock___init__ => k_is)
    (case i_Stock___init__ => k_is)
    (case l_Stock___init__ => k_is)
    (case c_Stock___init__ => k_is)
    (case k_Stock___init__ => k_is)
    (case a_Stock___eq__ => k_is)
    (case i_Stock___eq__ => k_is)
    (case l_Stock___eq__ => k_is)
    (case c_Stock___eq__ => k_is)
    (case k_Stock___eq__ => k_is)
    (case p1_Stock_borne => k_is)
    (case p2_Stock_borne => k_is)
    (case p3_Stock_borne => k_is)
    (case p4_Stock_borne => k_is)
    (case l_Stock_borne => k_is)
    (case c_Stock_borne => k_is)
    (case k_Stock_borne => k_is)
    (case p1_Stock_endings => k_is)
    (case p2_Stock_endings => k_is)
    (case p3_Stock_endings => k_is)
    (case p4_Stock_endings => k_is)
    (case l_Stock_endings => k_is)
    (case c_Stock_endings => k_is)
    (case k_Stock_endings => k_is)
    (case a_Stock_ending_for => k_is)
    (case i_Stock_ending_for => k_is)
    (case l_Stock_ending_for => k_is)
    (case c_Stock_ending_for => k_is)
    (case k_Stock_ending_for => k_is)
    (case pg_Stock => k_is)
    (case hd_Stock => k_is)
    (case po_Stock => k_is)
    (case sa_Stock => k_is)
    (case mk_Stock => k_is)
    (case kc_Stock => k_is)
    (case no_Stock_name => k_is)
    (case no_Stock_table => k_is)
    (case ne_Stock => k_is)
    (case ob_Stock => k_is)
    (case cl_Stock => k_is)
    (case is_Stock_Stock => first | kit_is | kernel_rfl)
    (case nf_Stock_NoneType => k_is)
    (case it_Stock_NoneType => first | kit_is | kernel_rfl)
    (case nf_Stock_bool => k_is)
    (case it_Stock_bool => first | kit_is | kernel_rfl)
    (case nf_Stock_int => k_is)
    (case it_Stock_int => first | kit_is | kernel_rfl)
    (case nf_Stock_str => k_is)
    (case it_Stock_str => first | kit_is | kernel_rfl)
    (case nf_Stock_list => k_is)
    (case it_Stock_list => first | kit_is | kernel_rfl)
    (case nf_Stock_tuple => k_is)
    (case it_Stock_tuple => first | kit_is | kernel_rfl)
    (case oc1 => k_is)
    (case oc2 => k_is)
    (case ac_TongueError => k_is)
    (case ac_BadStock => k_is)
    (case ac_BadFrame => k_is)
    (case ops => k_is)
    (case xc_BadStock => k_is)
    (case xr_BadStock => first | rfl | decide | kernel_rfl)
    (case xsa_BadStock => k_is)
    (case xb1_BadStock => k_is)
    (case xt_BadStock => k_is)
    (case xk_BadStock => k_is)
    (case xga_BadStock => k_is)
    (case xgg_BadStock => k_is)
    (case xhd_BadStock => k_is)
    (case xcl_BadStock => k_is)
    (case xmo_BadStock => k_is)
    (case xno_BadStock_what => k_is)
    (case xi_BadStock => k_is)
    (case xf_BadStock => k_is)
    (case xti_BadStock => k_is)
    (case xcd_BadStock => k_is)
    (case xco_BadStock => k_is)
    (case xfl_BadStock => first | rfl | decide | kernel_rfl)
    (case xfe_BadStock => first | rfl | decide | kernel_rfl)
    (case xce_BadStock => k_is)
    (case xcc_BadStock => k_is)
    (case xsu_BadStock => k_is)
    (case xsi_BadStock => kernel_rfl)
    (case xve_BadStock => k_is)
    (case xis_BadStock_BadStock => first | kit_is | kernel_rfl)
    (case xis_BadStock_BadFrame => first | kit_is | kernel_rfl)
    (case xis_BadStock_ValueError => first | kit_is | kernel_rfl)
    (case xe1_BadStock_TongueError => k_is)
    (case xe2_BadStock_TongueError => k_is)
    (case xe3_BadStock_TongueError => k_is)
    (case xe4_BadStock_TongueError => k_is)
    (case cn_NAME_MOST => k_is)
    (case z_ValueError => k_is)
    (case z_all => k_is)
    (case z_bool => k_is)
    (case z_int => k_is)
    (case z_isinstance => k_is)
    (case z_len => k_is)
    (case z_list => k_is)
    (case z_property => k_is)
    (case z_range => k_is)
    (case z_repr => k_is)
    (case z_set => k_is)
    (case z_sorted => k_is)
    (case z_str => k_is)
    (case z_super => k_is)
    (case z_tuple => k_is)
    (case hsup => rfl)
    obtain ⟨rfl, X⟩ := X
    obtain ⟨fd, F⟩ := X.F_law
    exact ⟨fd, fun s u => F.bindsA (ps := ["_law_script"]) (fun kV doc pm an cdv ct us hl => match us, hl with | [_], _ => rfl) s [u] rfl, fun base _ _ => L3.ok_law X F⟩
