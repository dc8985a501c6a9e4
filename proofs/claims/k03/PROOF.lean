import PyProof.Rows.All
import Wide.All
import OpenK.AllK
import Wide.FinOn
import HandS.ForExc
import HandS.ForMost
import HandS.IsInst
import HandS.Property
import HandS.Wide
import HandS.Conv
import HandS.Star
import HandS.TupAny
import HandS.ExcInit
import HandS.ExcField
import HandS.ExcIs
import HandS.TupSets
import HandS.SetKeys
import HandS.StrMore
import HandS.OwnEq
import HandS.FStr
import HandS.Flow
import HandS.Style
import HandS.Deep
import HandS.Zip
import HandS.SortInts
import HandS.EndBits
import HandS.Defaults
import HandS.Evl
import HandS.Steps
import KE.KExcSuper
import KE.KSuper
import HandS.Nested
import PyProof.InstNe
import HandS.CallSlots
import KE.KExcIs
import PyProof.StrLawsRepr
import HandS.Codes
import KE.RegKIsAll
import PySem.Challenge.RW_looseorder_k03_frames_of_verbs
open PySem L2
section
set_option Elab.async false
set_option linter.all false
set_option autoImplicit false
set_option maxRecDepth 100000
set_option maxHeartbeats 1000000
namespace Lo
open PySem PySem.Spec PyProof.Rows L2 Evl

/-! ### data, as trees -/
inductive D where
  | non | bl (b : Bool) | int (i : Int) | str (s : PySem.Str) | lst (xs : List D) | tup (xs : List D) | obj (c : Nat) (fs : List D)
  | dct (ks : List L2.Key) (vs : List D)

/-- what the written part has: its classes by number, and their attributes in order -/
structure Tb where
  K : PySem.W.Frag
  cls : Nat → Addr
  fld : Nat → List PySem.Str

mutual
def Rep (T : Tb) (H : Hp) : D → V → Prop
  | .non, v => v = .non
  | .bl b, v => v = .bl b
  | .int i, v => v = .int i
  | .str s, v => v = .str s
  | .lst xs, v => ∃ a vs, v = .ref a ∧ H a = some (.lst vs) ∧ RepL T H xs vs
  | .tup xs, v => ∃ a vs, v = .ref a ∧ SqT T.K H a vs ∧ RepL T H xs vs
  | .obj c fs, v => ∃ a dx gs, v = .ref a ∧ H a = some (.ins (T.cls c) dx gs) ∧ gs.map (·.1) = T.fld c ∧ RepL T H fs (gs.map (·.2))
  | .dct ks vs, v => ∃ a gs, v = .ref a ∧ H a = some (.dK gs) ∧ gs.map (·.1) = ks ∧ RepL T H vs (gs.map (·.2))
def RepL (T : Tb) (H : Hp) : List D → List V → Prop
  | [], vs => vs = []
  | d :: ds, vs => ∃ v r, vs = v :: r ∧ Rep T H d v ∧ RepL T H ds r
end

mutual
theorem Rep.mono {T : Tb} {H H' : Hp} (e : Ex H H') : ∀ {d : D} {v : V}, Rep T H d v → Rep T H' d v
  | .non, _, h => h
  | .bl _, _, h => h
  | .int _, _, h => h
  | .str _, _, h => h
  | .lst xs, _, ⟨a, vs, hv, hs, hr⟩ => ⟨a, vs, hv, e _ _ hs, RepL.mono e hr⟩
  | .tup xs, _, ⟨a, vs, hv, hs, hr⟩ => ⟨a, vs, hv, ex_t e hs, RepL.mono e hr⟩
  | .obj c fs, _, ⟨a, dx, gs, hv, ho, hn, hr⟩ => ⟨a, dx, gs, hv, e _ _ ho, hn, RepL.mono e hr⟩
  | .dct ks vs, _, ⟨a, gs, hv, ho, hn, hr⟩ => ⟨a, gs, hv, e _ _ ho, hn, RepL.mono e hr⟩
theorem RepL.mono {T : Tb} {H H' : Hp} (e : Ex H H') : ∀ {ds : List D} {vs : List V}, RepL T H ds vs → RepL T H' ds vs
  | [], _, h => h
  | d :: ds, _, ⟨v, r, hv, h1, h2⟩ => ⟨v, r, hv, Rep.mono e h1, RepL.mono e h2⟩
end

/-- what a slot holds: a datum that stands for good, or the k-th own object (it may still be changed) -/
inductive SV where
  | d (x : D) | p (k : Nat)
  /-- a caught error at a, its attributes at dx -/
  | x (a dx : Addr) (fs : List (PySem.Str × V))
  /-- the script -/
  | scr (ns : List Int)
  /-- a caught error at a that has no attributes -/
  | x0 (a : Addr)
/-- an own object: a list; the hand of draws; one that is own no more -/
inductive OW where
  | lst (xs : List SV) | hand | gone
  /-- an instance that is being made -/
  | ins (c : Nat) (fs : List (PySem.Str × SV))
  /-- a dict; any other object -/
  | dct (kvs : List (L2.Key × SV)) | ho (f : Addr → HO)

/-- where one stands: the part of the heap that stands for good, the heap, the own addresses -/
structure Wd where
  G : Hp
  H : Hp
  as : List Addr

def RpS (T : Tb) (W : Wd) : SV → V → Prop
  | .d x, v => Rep T W.G x v
  | .p k, v => ∃ a, W.as[k]? = some a ∧ v = .ref a
  | .x a dx fs, v => v = .ref a ∧ W.G dx = some (.xd fs)
  | .scr ns, v => ∃ a, v = .ref a ∧ SqL T.K W.G a (ns.map V.int)
  | .x0 a, v => v = .ref a
def RpSL (T : Tb) (W : Wd) : List SV → List V → Prop
  | [], vs => vs = []
  | s :: ss, vs => ∃ v r, vs = v :: r ∧ RpS T W s v ∧ RpSL T W ss r

def bigN : Nat := 1100000
structure HandAt (K : PySem.W.Frag) (G H : Hp) (a : Addr) : Prop where
  ex : ∃ (c : Addr) (i r t : Int) (cells : List Int), H a = some (.lst [.ref c, .int i, .int r, .int t]) ∧ SqL K G c (cells.map V.int) ∧
    (∀ x ∈ cells, 0 ≤ x ∧ x.natAbs < 2 ^ bigN) ∧ 0 ≤ i ∧ i ≤ cells.length ∧ cells.length ≤ 63 ∧ 0 ≤ r ∧ r.natAbs < 2 ^ bigN ∧ 0 ≤ t ∧ t < 2147483629

/-- the caller's: what must stay, and which addresses are not ours -/
structure Bd where
  B : Hp
  N : Addr → Prop

def Ow (T : Tb) (b : Bd) (W : Wd) (a : Addr) : OW → Prop
  | .lst xs => W.G a = none ∧ b.B a = none ∧ ¬ b.N a ∧ ∃ vs, W.H a = some (.lst vs) ∧ RpSL T W xs vs
  | .hand => W.G a = none ∧ b.B a = none ∧ ¬ b.N a ∧ HandAt T.K W.G W.H a
  | .gone => W.H a ≠ none
  | .dct kvs => W.G a = none ∧ b.B a = none ∧ ¬ b.N a ∧ ∃ gs, W.H a = some (.dK gs) ∧ gs.map (·.1) = kvs.map (·.1) ∧ RpSL T W (kvs.map (·.2)) (gs.map (·.2))
  | .ho f => W.G a = none ∧ b.B a = none ∧ ¬ b.N a ∧ W.H a = some (f a)
  | .ins c fs => W.G a = none ∧ b.B a = none ∧ ¬ b.N a ∧ ∃ dx gs, W.H a = some (.ins (T.cls c) dx gs) ∧ gs.map (·.1) = fs.map (·.1) ∧ RpSL T W (fs.map (·.2)) (gs.map (·.2))
def OwL (T : Tb) (b : Bd) (W : Wd) : List Addr → List OW → Prop
  | [], os => os = []
  | a :: as, os => ∃ o r, os = o :: r ∧ Ow T b W a o ∧ OwL T b W as r

structure HA (T : Tb) (b : Bd) (W : Wd) (own : List OW) : Prop where
  gh : Ex W.G W.H
  bh : Ex b.B W.H
  nn : ∀ x, b.N x → W.G x = none ∧ W.H x ≠ none
  nd : W.as.Nodup
  ow : OwL T b W W.as own

def SlL (T : Tb) (W : Wd) : List (Option V) → List (Option SV) → Prop
  | [], ds => ds = []
  | x :: xs, ds => ∃ s r, ds = s :: r ∧ (∀ sv, s = some sv → ∃ v, x = some v ∧ RpS T W sv v) ∧ SlL T W xs r

structure Le (W W' : Wd) : Prop where
  g : Ex W.G W'.G
  a : W.as <+: W'.as
theorem Le.refl (W : Wd) : Le W W := ⟨Ex.refl _, List.prefix_refl _⟩
theorem Le.trans {W W1 W2 : Wd} (h : Le W W1) (k : Le W1 W2) : Le W W2 := ⟨h.g.trans k.g, h.a.trans k.a⟩

theorem prefix_get {α : Type} {l l' : List α} (h : l <+: l') {k : Nat} {a : α} (e : l[k]? = some a) : l'[k]? = some a := by
  obtain ⟨t, rfl⟩ := h
  have hk : k < l.length := (List.getElem?_eq_some_iff.mp e).1
  rw [List.getElem?_append_left hk]
  exact e
theorem RpS.mono {T : Tb} {W W' : Wd} (l : Le W W') : ∀ {s : SV} {v : V}, RpS T W s v → RpS T W' s v
  | .d _, _, h => Rep.mono l.g h
  | .p _, _, ⟨a, h, e⟩ => ⟨a, prefix_get l.a h, e⟩
  | .x _ _ _, _, ⟨h, e⟩ => ⟨h, l.g _ _ e⟩
  | .scr _, _, ⟨a, h, e⟩ => ⟨a, h, ex_l l.g e⟩
  | .x0 _, _, h => h
theorem RpSL.mono {T : Tb} {W W' : Wd} (l : Le W W') : ∀ {ss : List SV} {vs : List V}, RpSL T W ss vs → RpSL T W' ss vs
  | [], _, h => h
  | _ :: _, _, ⟨v, r, e, h1, h2⟩ => ⟨v, r, e, RpS.mono l h1, RpSL.mono l h2⟩
theorem SlL.mono {T : Tb} {W W' : Wd} (l : Le W W') : ∀ {xs : List (Option V)} {ds : List (Option SV)}, SlL T W xs ds → SlL T W' xs ds
  | [], _, h => h
  | _ :: _, _, ⟨s, r, e, h1, h2⟩ => ⟨s, r, e, fun sv q => let ⟨v, ev, h⟩ := h1 sv q; ⟨v, ev, RpS.mono l h⟩, SlL.mono l h2⟩
theorem SlL.get {T : Tb} {W : Wd} : ∀ {xs : List (Option V)} {ds : List (Option SV)} {i : Nat} {sv : SV}, SlL T W xs ds → ds[i]? = some (some sv) → ∃ v, xs[i]? = some (some v) ∧ RpS T W sv v
  | [], ds, i, sv, h, e => by
    have h' : ds = [] := h
    subst h'
    simp at e
  | x :: xs, _, 0, sv, ⟨s, r, rfl, h1, h2⟩, e => by
    have e' : s = some sv := by simpa using e
    obtain ⟨v, ev, h⟩ := h1 sv e'
    exact ⟨v, by simp [ev], h⟩
  | x :: xs, _, i + 1, sv, ⟨s, r, rfl, h1, h2⟩, e => by
    obtain ⟨v, ev, h⟩ := SlL.get (i := i) h2 (by simpa using e)
    exact ⟨v, by simpa using ev, h⟩
theorem SlL.set {T : Tb} {W : Wd} {v : V} {s : Option SV} (hv : ∀ sv, s = some sv → RpS T W sv v) : ∀ {xs : List (Option V)} {ds : List (Option SV)} (i : Nat), SlL T W xs ds → SlL T W (xs.set i (some v)) (ds.set i s)
  | [], ds, i, h => by
    have h' : ds = [] := h
    subst h'
    exact rfl
  | x :: xs, _, 0, ⟨s0, r, rfl, h1, h2⟩ => ⟨s, r, rfl, fun sv e => ⟨v, rfl, hv sv e⟩, h2⟩
  | x :: xs, _, i + 1, ⟨s0, r, rfl, h1, h2⟩ => ⟨s0, r.set i s, rfl, h1, SlL.set hv i h2⟩
theorem SlL.forget {T : Tb} {W : Wd} : ∀ {xs : List (Option V)} {ds : List (Option SV)} (i : Nat), SlL T W xs ds → SlL T W xs (ds.set i none)
  | [], ds, i, h => by
    have h' : ds = [] := h
    subst h'
    exact rfl
  | x :: xs, _, 0, ⟨s0, r, rfl, h1, h2⟩ => ⟨none, r, rfl, (fun sv (e : (none : Option SV) = some sv) => nomatch e), h2⟩
  | x :: xs, _, i + 1, ⟨s0, r, rfl, h1, h2⟩ => ⟨s0, r.set i none, rfl, h1, SlL.forget i h2⟩
theorem SlL.length {T : Tb} {W : Wd} : ∀ {xs : List (Option V)} {ds : List (Option SV)}, SlL T W xs ds → xs.length = ds.length
  | [], ds, h => by
    have h' : ds = [] := h
    subst h'
    rfl
  | x :: xs, _, ⟨s0, r, rfl, h1, h2⟩ => by simp [SlL.length h2]

/-! ### what an expression does, told by data -/
abbrev PSv := SV → List OW → Prop
def WE (T : Tb) (b : Bd) (te : TE) (own : List OW) (ds : List (Option SV)) (P : PSv) : Prop :=
  ∀ (W : Wd) (σ : L2.St), HA T b W own → SlL T W σ ds → ∀ Q : VK, (∀ v s own' W', HA T b W' own' → Le W W' → RpS T W' s v → P s own' → Q v W'.H) → te σ W.H Q
def WA (T : Tb) (b : Bd) (ta : TA) (own : List OW) (ds : List (Option SV)) (P : List SV → List OW → Prop) : Prop :=
  ∀ (W : Wd) (σ : L2.St), HA T b W own → SlL T W σ ds → ∀ Q : List V → Hp → Prop, (∀ vs ss own' W', HA T b W' own' → Le W W' → RpSL T W' ss vs → P ss own' → Q vs W'.H) → ta σ W.H Q
def WT (T : Tb) (b : Bd) (tt : TT) (own : List OW) (ds : List (Option SV)) (P : Bool → List OW → Prop) : Prop :=
  ∀ (W : Wd) (σ : L2.St), HA T b W own → SlL T W σ ds → ∀ Q : Bool → Hp → Prop, (∀ k own' W', HA T b W' own' → Le W W' → P k own' → Q k W'.H) → tt σ W.H Q
/-- an operator, on data -/
def WR (T : Tb) (b : Bd) (r : V → V → Hp → VK → Prop) (own : List OW) (x y : SV) (P : PSv) : Prop :=
  ∀ (W : Wd) vx vy, HA T b W own → RpS T W x vx → RpS T W y vy → ∀ Q : VK, (∀ v s own' W', HA T b W' own' → Le W W' → RpS T W' s v → P s own' → Q v W'.H) → r vx vy W.H Q
def WU (T : Tb) (b : Bd) (r : V → Hp → VK → Prop) (own : List OW) (x : SV) (P : PSv) : Prop :=
  ∀ (W : Wd) vx, HA T b W own → RpS T W x vx → ∀ Q : VK, (∀ v s own' W', HA T b W' own' → Le W W' → RpS T W' s v → P s own' → Q v W'.H) → r vx W.H Q
/-- a call, on data -/
def WC (T : Tb) (b : Bd) (r : List V → Hp → VK → Prop) (own : List OW) (xs : List SV) (P : PSv) : Prop :=
  ∀ (W : Wd) vs, HA T b W own → RpSL T W xs vs → ∀ Q : VK, (∀ v s own' W', HA T b W' own' → Le W W' → RpS T W' s v → P s own' → Q v W'.H) → r vs W.H Q

section
variable {T : Tb} {b : Bd} {own : List OW} {ds : List (Option SV)} {P : PSv}

theorem we_var {i : Nat} {s : SV} (h : ds[i]? = some (some s)) (p : P s own) : WE T b (tVar i) own ds P := fun W σ ha sl Q q => by
  obtain ⟨v, ev, hr⟩ := sl.get h
  exact ⟨v, ev, q v s own W ha (Le.refl W) hr p⟩
theorem we_non (p : P (.d .non) own) : WE T b (tC .non) own ds P := fun W σ ha sl Q q => q _ (.d .non) _ W ha (Le.refl W) rfl p
theorem we_bl {k : Bool} (p : P (.d (.bl k)) own) : WE T b (tC (.bl k)) own ds P := fun W σ ha sl Q q => q _ (.d (.bl k)) _ W ha (Le.refl W) rfl p
theorem we_int {i : Int} (p : P (.d (.int i)) own) : WE T b (tC (.int i)) own ds P := fun W σ ha sl Q q => q _ (.d (.int i)) _ W ha (Le.refl W) rfl p
theorem we_str {z : PySem.Str} (p : P (.d (.str z)) own) : WE T b (tC (.str z)) own ds P := fun W σ ha sl Q q => q _ (.d (.str z)) _ W ha (Le.refl W) rfl p
theorem we_op {r : R2} {ta tb : TE} (h : WE T b ta own ds fun x o1 => WE T b tb o1 ds fun y o2 => WR T b r o2 x y P) : WE T b (tOp r ta tb) own ds P := fun W σ ha sl Q q => by
  refine h W σ ha sl _ fun v1 s1 o1 W1 ha1 l1 r1 h1 => ?_
  refine h1 W1 σ ha1 (sl.mono l1) _ fun v2 s2 o2 W2 ha2 l2 r2 h2 => ?_
  exact h2 W2 v1 v2 ha2 (RpS.mono l2 r1) r2 Q fun v s o W3 ha3 l3 r3 p => q v s o W3 ha3 ((l1.trans l2).trans l3) r3 p
theorem we_un {r : V → Hp → VK → Prop} {ta : TE} (h : WE T b ta own ds fun x o1 => WU T b r o1 x P) : WE T b (tUn r ta) own ds P := fun W σ ha sl Q q => by
  refine h W σ ha sl _ fun v1 s1 o1 W1 ha1 l1 r1 h1 => ?_
  exact h1 W1 v1 ha1 r1 Q fun v s o W3 ha3 l3 r3 p => q v s o W3 ha3 (l1.trans l3) r3 p
theorem wa_nil {P : List SV → List OW → Prop} (p : P [] own) : WA T b tNil own ds P := fun W σ ha sl Q q => q [] [] own W ha (Le.refl W) rfl p
theorem wa_cons {P : List SV → List OW → Prop} {ta : TE} {tr : TA} (h : WE T b ta own ds fun x o1 => WA T b tr o1 ds fun xs o2 => P (x :: xs) o2) : WA T b (tCons ta tr) own ds P := fun W σ ha sl Q q => by
  refine h W σ ha sl _ fun v1 s1 o1 W1 ha1 l1 r1 h1 => ?_
  refine h1 W1 σ ha1 (sl.mono l1) _ fun vs ss o2 W2 ha2 l2 r2 p => ?_
  exact q _ (s1 :: ss) o2 W2 ha2 (l1.trans l2) ⟨v1, vs, rfl, RpS.mono l2 r1, r2⟩ p
theorem we_cb {r : List V → Hp → VK → Prop} {ta : TA} (h : WA T b ta own ds fun xs o1 => WC T b r o1 xs P) : WE T b (tCB r ta) own ds P := fun W σ ha sl Q q => by
  refine h W σ ha sl _ fun v1 s1 o1 W1 ha1 l1 r1 h1 => ?_
  exact h1 W1 v1 ha1 r1 Q fun v s o W3 ha3 l3 r3 p => q v s o W3 ha3 (l1.trans l3) r3 p

/-! tests -/
theorem wt_test {te : TE} {P : Bool → List OW → Prop} (h : WE T b te own ds fun s o => ∃ k, s = .d (.bl k) ∧ P k o) : WT T b (tTest te) own ds P := fun W σ ha sl Q q => by
  refine h W σ ha sl _ fun v1 s1 o1 W1 ha1 l1 r1 ⟨k, e, p⟩ => ?_
  subst e
  exact ⟨k, r1, q k o1 W1 ha1 l1 p⟩
theorem wt_B {te : TE} {P : Bool → List OW → Prop} (h : WE T b te own ds fun s o => ∃ k, s = .d (.bl k) ∧ P k o) : WT T b (tB te) own ds P := fun W σ ha sl Q q => by
  refine h W σ ha sl _ fun v1 s1 o1 W1 ha1 l1 r1 ⟨k, e, p⟩ => ?_
  subst e
  exact ⟨k, r1, q k o1 W1 ha1 l1 p⟩
theorem wt_and {t u : TT} {P : Bool → List OW → Prop} (h : WT T b t own ds fun k o => (k = true → WT T b u o ds P) ∧ (k = false → P false o)) : WT T b (tAnd t u) own ds P := fun W σ ha sl Q q => by
  refine h W σ ha sl _ fun k o1 W1 ha1 l1 ⟨ht, hf⟩ => ?_
  cases k with
  | true => exact ht rfl W1 σ ha1 (sl.mono l1) Q fun k o W2 ha2 l2 p => q k o W2 ha2 (l1.trans l2) p
  | false => exact q false o1 W1 ha1 l1 (hf rfl)
theorem wt_or {t u : TT} {P : Bool → List OW → Prop} (h : WT T b t own ds fun k o => (k = true → P true o) ∧ (k = false → WT T b u o ds P)) : WT T b (tOr t u) own ds P := fun W σ ha sl Q q => by
  refine h W σ ha sl _ fun k o1 W1 ha1 l1 ⟨ht, hf⟩ => ?_
  cases k with
  | true => exact q true o1 W1 ha1 l1 (ht rfl)
  | false => exact hf rfl W1 σ ha1 (sl.mono l1) Q fun k o W2 ha2 l2 p => q k o W2 ha2 (l1.trans l2) p
theorem wt_not {t : TT} {P : Bool → List OW → Prop} (h : WT T b t own ds fun k o => P (!k) o) : WT T b (tNot t) own ds P := fun W σ ha sl Q q =>
  h W σ ha sl _ fun k o1 W1 ha1 l1 p => q _ o1 W1 ha1 l1 p
theorem we_andV {ta tb : TE} (h : WE T b ta own ds fun s o => ∃ k, s = .d (.bl k) ∧ (k = true → WE T b tb o ds P) ∧ (k = false → P (.d (.bl false)) o)) : WE T b (tAndV ta tb) own ds P := fun W σ ha sl Q q => by
  refine h W σ ha sl _ fun v o o1 W1 ha1 l1 r1 ⟨k, e, ht, hf⟩ => ?_
  subst e
  refine ⟨k, r1, ?_⟩
  cases k with
  | true => exact ht rfl W1 σ ha1 (sl.mono l1) Q fun v s o W2 ha2 l2 r2 p => q v s o W2 ha2 (l1.trans l2) r2 p
  | false => exact q _ (.d (.bl false)) o1 W1 ha1 l1 rfl (hf rfl)
theorem we_orV {ta tb : TE} (h : WE T b ta own ds fun s o => ∃ k, s = .d (.bl k) ∧ (k = true → P (.d (.bl true)) o) ∧ (k = false → WE T b tb o ds P)) : WE T b (tOrV ta tb) own ds P := fun W σ ha sl Q q => by
  refine h W σ ha sl _ fun v o o1 W1 ha1 l1 r1 ⟨k, e, ht, hf⟩ => ?_
  subst e
  refine ⟨k, r1, ?_⟩
  cases k with
  | true => exact q _ (.d (.bl true)) o1 W1 ha1 l1 rfl (ht rfl)
  | false => exact hf rfl W1 σ ha1 (sl.mono l1) Q fun v s o W2 ha2 l2 r2 p => q v s o W2 ha2 (l1.trans l2) r2 p
theorem we_notV {ta : TE} (h : WE T b ta own ds fun s o => ∃ k, s = .d (.bl k) ∧ P (.d (.bl (!k))) o) : WE T b (tNotV ta) own ds P := fun W σ ha sl Q q => by
  refine h W σ ha sl _ fun v o o1 W1 ha1 l1 r1 ⟨k, e, p⟩ => ?_
  subst e
  exact ⟨k, r1, q _ (.d (.bl (!k))) o1 W1 ha1 l1 rfl p⟩
theorem we_if {t : TT} {ta tb : TE} (h : WT T b t own ds fun k o => (k = true → WE T b ta o ds P) ∧ (k = false → WE T b tb o ds P)) : WE T b (tIf t ta tb) own ds P := fun W σ ha sl Q q => by
  refine h W σ ha sl _ fun k o1 W1 ha1 l1 ⟨ht, hf⟩ => ?_
  cases k with
  | true => exact ht rfl W1 σ ha1 (sl.mono l1) Q fun v s o W2 ha2 l2 r2 p => q v s o W2 ha2 (l1.trans l2) r2 p
  | false => exact hf rfl W1 σ ha1 (sl.mono l1) Q fun v s o W2 ha2 l2 r2 p => q v s o W2 ha2 (l1.trans l2) r2 p
end
end Lo
end
section
set_option Elab.async false
set_option linter.all false
set_option autoImplicit false
set_option maxRecDepth 100000
set_option maxHeartbeats 1000000
namespace Lo
open PySem PySem.Spec PyProof.Rows L2 Evl

/-! ### new objects -/
section
variable {T : Tb} {b : Bd} {W : Wd} {own : List OW}
theorem Ow.there {a : Addr} {o : OW} (h : Ow T b W a o) : W.H a ≠ none := by
  cases o with
  | lst xs =>
    obtain ⟨_, _, _, vs, e, _⟩ := h
    rw [e]
    exact fun z => by cases z
  | hand =>
    obtain ⟨_, _, _, ⟨c, i, r, t, cells, e, _⟩⟩ := h
    rw [e]
    exact fun z => by cases z
  | gone => exact h
  | ins c fs =>
    obtain ⟨_, _, _, dx, gs, e, _⟩ := h
    rw [e]
    exact fun z => by cases z
  | dct kvs =>
    obtain ⟨_, _, _, gs, e, _⟩ := h
    rw [e]
    exact fun z => by cases z
  | ho f =>
    obtain ⟨_, _, _, e⟩ := h
    rw [e]
    exact fun z => by cases z
theorem OwL.there : ∀ {as : List Addr} {os : List OW}, OwL T b W as os → ∀ a ∈ as, W.H a ≠ none
  | [], _, _, a, h => by simp at h
  | x :: as, _, ⟨o, r, rfl, h1, h2⟩, a, h => by
    rcases List.mem_cons.mp h with rfl | h
    · exact h1.there
    · exact OwL.there h2 a h
theorem OwL.len : ∀ {as : List Addr} {os : List OW}, OwL T b W as os → as.length = os.length
  | [], os, h => by
    have h' : os = [] := h
    subst h'
    rfl
  | x :: as, _, ⟨o, r, rfl, h1, h2⟩ => by simp [OwL.len h2]
theorem OwL.get : ∀ {as : List Addr} {os : List OW} {k : Nat} {o : OW}, OwL T b W as os → os[k]? = some o → ∃ a, as[k]? = some a ∧ Ow T b W a o
  | [], os, k, o, h, e => by
    have h' : os = [] := h
    subst h'
    simp at e
  | x :: as, _, 0, o, ⟨o', r, rfl, h1, h2⟩, e => by
    have e' : o' = o := by simpa using e
    subst e'
    exact ⟨x, by simp, h1⟩
  | x :: as, _, k + 1, o, ⟨o', r, rfl, h1, h2⟩, e => by
    obtain ⟨a, ha, h⟩ := OwL.get (k := k) h2 (by simpa using e)
    exact ⟨a, by simpa using ha, h⟩
theorem HandAt.mono {K : PySem.W.Frag} {G G' H H' : Hp} {a : Addr} (h : HandAt K G H a) (g : Ex G G') (e : H' a = H a) : HandAt K G' H' a := by
  obtain ⟨c, i, r, t, cells, ea, hc, x⟩ := h
  exact ⟨c, i, r, t, cells, e.trans ea, ex_l g hc, x⟩
/-- the own objects stand as they stood where heap and frozen part agree at them -/
theorem Ow.step {W' : Wd} (l : Le W W') {a : Addr} {o : OW} (hH : W'.H a = W.H a) (hG : W.G a = none → W'.G a = none) (h : Ow T b W a o) : Ow T b W' a o := by
  cases o with
  | lst xs =>
    obtain ⟨g, h1, h2, vs, e, r⟩ := h
    exact ⟨hG g, h1, h2, vs, hH.trans e, RpSL.mono l r⟩
  | hand =>
    obtain ⟨g, h1, h2, x⟩ := h
    exact ⟨hG g, h1, h2, x.mono l.g hH⟩
  | gone => exact fun z => h (hH ▸ z)
  | ins c fs =>
    obtain ⟨g, h1, h2, dx, gs, e, en, r⟩ := h
    exact ⟨hG g, h1, h2, dx, gs, hH.trans e, en, RpSL.mono l r⟩
  | dct kvs =>
    obtain ⟨g, h1, h2, gs, e, en, r⟩ := h
    exact ⟨hG g, h1, h2, gs, hH.trans e, en, RpSL.mono l r⟩
  | ho f =>
    obtain ⟨g, h1, h2, e⟩ := h
    exact ⟨hG g, h1, h2, hH.trans e⟩
theorem OwL.step {W' : Wd} (l : Le W W') : ∀ {as : List Addr} {os : List OW}, (∀ a ∈ as, W'.H a = W.H a ∧ (W.G a = none → W'.G a = none)) → OwL T b W as os → OwL T b W' as os
  | [], _, _, h => h
  | x :: as, _, k, ⟨o, r, e, h1, h2⟩ => ⟨o, r, e, Ow.step l (k x (by simp)).1 (k x (by simp)).2 h1, OwL.step l (fun a h => k a (by simp [h])) h2⟩
theorem ex_upd2 {G H : Hp} {p : Addr} {o : HO} (e : Ex G H) : Ex (upd G p o) (upd H p o) := fun a u h => by
  by_cases z : a = p
  · subst z
    rw [upd_same] at h ⊢
    exact h
  · rw [upd_ne z] at h ⊢
    exact e a u h
/-- a new object that stands for good -/
theorem HA.alloc (h : HA T b W own) {p : Addr} {o : HO} (hp : W.H p = none) : HA T b ⟨upd W.G p o, upd W.H p o, W.as⟩ own ∧ Le W ⟨upd W.G p o, upd W.H p o, W.as⟩ := by
  have gp : W.G p = none := fresh_back h.gh hp
  have l : Le W ⟨upd W.G p o, upd W.H p o, W.as⟩ := ⟨Ex.new gp, List.prefix_refl _⟩
  refine ⟨⟨ex_upd2 h.gh, h.bh.trans (Ex.new hp), fun x n => ?_, h.nd, OwL.step l (fun a m => ?_) h.ow⟩, l⟩
  · obtain ⟨n1, n2⟩ := h.nn x n
    have z : x ≠ p := fun z => n2 (z ▸ hp)
    exact ⟨(upd_ne z).trans n1, fun q => n2 ((upd_ne z).symm.trans q)⟩
  · have z : a ≠ p := fun z => h.ow.there a m (z ▸ hp)
    exact ⟨upd_ne z, fun q => (upd_ne z).trans q⟩
theorem nodup_snoc {l : List Addr} {p : Addr} (h : l.Nodup) (hp : p ∉ l) : (l ++ [p]).Nodup := by
  refine List.nodup_append.mpr ⟨h, by simp, fun a ha c hc => ?_⟩
  rw [List.mem_singleton] at hc
  rw [hc]
  exact fun z => hp (z ▸ ha)
theorem OwL.snoc {p : Addr} {o : OW} (ho : Ow T b W p o) : ∀ {as : List Addr} {os : List OW}, OwL T b W as os → OwL T b W (as ++ [p]) (os ++ [o])
  | [], os, h => by
    have h' : os = [] := h
    subst h'
    exact ⟨o, [], rfl, ho, rfl⟩
  | x :: as, _, ⟨o', r, rfl, h1, h2⟩ => ⟨o', r ++ [o], rfl, h1, OwL.snoc ho h2⟩
/-- a new own list -/
theorem HA.allocOwn (h : HA T b W own) {p : Addr} {vs : List V} {ss : List SV} (hp : W.H p = none) (r : RpSL T W ss vs) :
    HA T b ⟨W.G, upd W.H p (.lst vs), W.as ++ [p]⟩ (own ++ [.lst ss]) ∧ Le W ⟨W.G, upd W.H p (.lst vs), W.as ++ [p]⟩ := by
  have gp : W.G p = none := fresh_back h.gh hp
  have bp : b.B p = none := fresh_back h.bh hp
  have l : Le W ⟨W.G, upd W.H p (.lst vs), W.as ++ [p]⟩ := ⟨Ex.refl _, List.prefix_append _ _⟩
  have l0 : Le W ⟨W.G, upd W.H p (.lst vs), W.as⟩ := ⟨Ex.refl _, List.prefix_refl _⟩
  refine ⟨⟨h.gh.trans (Ex.new hp), h.bh.trans (Ex.new hp), fun x n => ?_, nodup_snoc h.nd fun m => h.ow.there p m hp, OwL.snoc ?_ (OwL.step (W := W) l (fun a m => ?_) h.ow)⟩, l⟩
  · obtain ⟨n1, n2⟩ := h.nn x n
    have z : x ≠ p := fun z => n2 (z ▸ hp)
    exact ⟨n1, fun q => n2 ((upd_ne z).symm.trans q)⟩
  · exact ⟨gp, bp, fun n => (h.nn p n).2 hp, vs, upd_same, RpSL.mono l r⟩
  · have z : a ≠ p := fun z => h.ow.there a m (z ▸ hp)
    exact ⟨upd_ne z, id⟩
theorem OwL.set {W' : Wd} (l : Le W W') {a : Addr} {o : OW} (ho : Ow T b W' a o) : ∀ {as : List Addr} {os : List OW} {k : Nat}, as[k]? = some a → as.Nodup → (∀ c ∈ as, c ≠ a → W'.H c = W.H c ∧ (W.G c = none → W'.G c = none)) → OwL T b W as os → OwL T b W' as (os.set k o)
  | [], _, _, e, _, _, _ => by simp at e
  | x :: as, _, 0, e, nd, k, ⟨o', r, rfl, h1, h2⟩ => by
    have e' : x = a := by simpa using e
    subst e'
    refine ⟨o, r, rfl, ho, OwL.step l (fun c hc => k c (by simp [hc]) fun z => ?_) h2⟩
    subst z
    exact (List.nodup_cons.mp nd).1 hc
  | x :: as, _, i + 1, e, nd, k, ⟨o', r, rfl, h1, h2⟩ => by
    have e' : as[i]? = some a := by simpa using e
    have nx : x ≠ a := fun z => (List.nodup_cons.mp nd).1 (z ▸ List.mem_of_getElem? e')
    exact ⟨o', r.set i o, rfl, Ow.step l (k x (by simp) nx).1 (k x (by simp) nx).2 h1, OwL.set l ho e' (List.nodup_cons.mp nd).2 (fun c hc => k c (by simp [hc])) h2⟩
/-- an own list is changed -/
theorem HA.setOwn (h : HA T b W own) {k : Nat} {a : Addr} {ss ss' : List SV} {vs' : List V} (ho : own[k]? = some (.lst ss)) (ha : W.as[k]? = some a) (r : RpSL T W ss' vs') :
    HA T b ⟨W.G, upd W.H a (.lst vs'), W.as⟩ (own.set k (.lst ss')) ∧ Le W ⟨W.G, upd W.H a (.lst vs'), W.as⟩ := by
  obtain ⟨a', ea, g, bb, nb, vs, e, _⟩ := h.ow.get ho
  have z : a' = a := Option.some.inj (ea.symm.trans ha)
  subst z
  have l : Le W ⟨W.G, upd W.H a' (.lst vs'), W.as⟩ := ⟨Ex.refl _, List.prefix_refl _⟩
  have ne : ∀ {H : Hp} {x : Addr} {o : HO}, H a' = none → H x = some o → x ≠ a' := fun {H x o} q w z => by
    subst z
    rw [q] at w
    cases w
  have how : Ow T b ⟨W.G, upd W.H a' (.lst vs'), W.as⟩ a' (.lst ss') := ⟨g, bb, nb, vs', upd_same, RpSL.mono l r⟩
  refine ⟨⟨fun x o q => (upd_ne (ne g q)).trans (h.gh x o q), fun x o q => (upd_ne (ne bb q)).trans (h.bh x o q), fun x n => ?_, h.nd, OwL.set l how ha h.nd (fun c _ z => ⟨upd_ne z, id⟩) h.ow⟩, l⟩
  have z : x ≠ a' := fun z => nb (z ▸ n)
  exact ⟨(h.nn x n).1, fun q => (h.nn x n).2 ((upd_ne z).symm.trans q)⟩

theorem RpSL.ds {W : Wd} : ∀ {ds : List D} {vs : List V}, RpSL T W (ds.map SV.d) vs → RepL T W.G ds vs
  | [], _, h => h
  | _ :: _, _, ⟨v, r, e, h1, h2⟩ => ⟨v, r, e, h1, RpSL.ds h2⟩
theorem RepL.sv {W : Wd} : ∀ {ds : List D} {vs : List V}, RepL T W.G ds vs → RpSL T W (ds.map SV.d) vs
  | [], _, h => h
  | _ :: _, _, ⟨v, r, e, h1, h2⟩ => ⟨v, r, e, h1, RepL.sv h2⟩
/-- an own list is own no more: from now on it stands for good -/
theorem HA.freeze (h : HA T b W own) {k : Nat} {a : Addr} {ds : List D} (ho : own[k]? = some (.lst (ds.map SV.d))) (ha : W.as[k]? = some a) :
    ∃ vs, W.H a = some (.lst vs) ∧ HA T b ⟨upd W.G a (.lst vs), W.H, W.as⟩ (own.set k .gone) ∧ Le W ⟨upd W.G a (.lst vs), W.H, W.as⟩ ∧ Rep T (upd W.G a (.lst vs)) (.lst ds) (.ref a) := by
  obtain ⟨a', ea, g, bb, nb, vs, e, r⟩ := h.ow.get ho
  have z : a' = a := Option.some.inj (ea.symm.trans ha)
  subst z
  have l : Le W ⟨upd W.G a' (.lst vs), W.H, W.as⟩ := ⟨Ex.new g, List.prefix_refl _⟩
  have how : Ow T b ⟨upd W.G a' (.lst vs), W.H, W.as⟩ a' .gone := show W.H a' ≠ none from fun z => by rw [e] at z; cases z
  refine ⟨vs, e, ⟨fun x o (q : upd W.G a' (.lst vs) x = some o) => ?_, h.bh, fun x n => ?_, h.nd, OwL.set l how ha h.nd (fun c _ z => ⟨rfl, fun q => (upd_ne z).trans q⟩) h.ow⟩, l, ?_⟩
  · by_cases z : x = a'
    · subst z
      rw [upd_same] at q
      exact e.trans q
    · rw [upd_ne z] at q
      exact h.gh x o q
  · have z : x ≠ a' := fun z => nb (z ▸ n)
    exact ⟨(upd_ne z).trans (h.nn x n).1, (h.nn x n).2⟩
  · exact ⟨a', vs, rfl, upd_same, RepL.mono (Ex.new g) (RpSL.ds r)⟩
theorem OwL.take : ∀ {as : List Addr} {os : List OW} (n : Nat), OwL T b W as os → OwL T b W (as.take n) (os.take n)
  | [], os, n, h => by
    have h' : os = [] := h
    subst h'
    simp [OwL]
  | x :: as, _, 0, h => rfl
  | x :: as, _, n + 1, ⟨o, r, rfl, h1, h2⟩ => ⟨o, r.take n, rfl, h1, OwL.take n h2⟩
end
/-- datum of a text, number: no heap -/
theorem RpS.int {T : Tb} {W : Wd} {i : Int} {v : V} (h : RpS T W (.d (.int i)) v) : v = .int i := h
theorem RpS.str {T : Tb} {W : Wd} {i : PySem.Str} {v : V} (h : RpS T W (.d (.str i)) v) : v = .str i := h
theorem RpS.bl {T : Tb} {W : Wd} {i : Bool} {v : V} (h : RpS T W (.d (.bl i)) v) : v = .bl i := h
theorem RpS.non {T : Tb} {W : Wd} {v : V} (h : RpS T W (.d .non) v) : v = .non := h

/-! ### displays -/
section
variable {T : Tb} {b : Bd} {own : List OW} {ds : List (Option SV)} {P : PSv}
/-- all of them stand for good -/
inductive AllD : List SV → List D → Prop
  | nil : AllD [] []
  | cons {x : D} {ss : List SV} {xs : List D} : AllD ss xs → AllD (.d x :: ss) (x :: xs)
theorem AllD.map : ∀ (xs : List D), AllD (xs.map SV.d) xs
  | [] => .nil
  | _ :: r => .cons (AllD.map r)
theorem AllD.eq : ∀ {ss : List SV} {xs : List D}, AllD ss xs → ss = xs.map SV.d
  | _, _, .nil => rfl
  | _, _, .cons h => by rw [List.map_cons, ← AllD.eq h]
theorem AllD.len {ss : List SV} {xs : List D} (h : AllD ss xs) : ss.length = xs.length := by rw [h.eq, List.length_map]
theorem RepL.len {H : Hp} : ∀ {ds : List D} {vs : List V}, RepL T H ds vs → vs.length = ds.length
  | [], _, h => by
    have h' : _ = [] := h
    subst h'
    rfl
  | _ :: _, _, ⟨v, r, rfl, h1, h2⟩ => by simp [RepL.len h2]
theorem RpSL.len {W : Wd} : ∀ {ss : List SV} {vs : List V}, RpSL T W ss vs → vs.length = ss.length
  | [], _, h => by
    have h' : _ = [] := h
    subst h'
    rfl
  | _ :: _, _, ⟨v, r, rfl, h1, h2⟩ => by simp [RpSL.len h2]
theorem we_tup {ta : TA} (h : WA T b ta own ds fun ss o => ∃ xs, AllD ss xs ∧ xs.length ≤ 100000 ∧ P (.d (.tup xs)) o) : WE T b (tTup ta) own ds P := fun W σ ha sl Q q => by
  refine h W σ ha sl _ fun vs ss o1 W1 ha1 l1 r1 ⟨xs, e, hl, p⟩ => ?_
  rw [e.eq] at r1
  have r := RpSL.ds r1
  refine ⟨sz_of (by rw [r.len]; exact hl), fun c hc => ?_⟩
  obtain ⟨ha2, l2⟩ := ha1.alloc (o := .tup vs) hc
  exact q _ (.d (.tup xs)) o1 _ ha2 (l1.trans l2) ⟨c, vs, rfl, st_of upd_same, RepL.mono l2.g r⟩ p
/-- a list that stands for good -/
theorem we_lst {ta : TA} (h : WA T b ta own ds fun ss o => ∃ xs, AllD ss xs ∧ xs.length ≤ 100000 ∧ P (.d (.lst xs)) o) : WE T b (tLst ta) own ds P := fun W σ ha sl Q q => by
  refine h W σ ha sl _ fun vs ss o1 W1 ha1 l1 r1 ⟨xs, e, hl, p⟩ => ?_
  rw [e.eq] at r1
  have r := RpSL.ds r1
  refine ⟨sz_of (by rw [r.len]; exact hl), fun c hc => ?_⟩
  obtain ⟨ha2, l2⟩ := ha1.alloc (o := .lst vs) hc
  exact q _ (.d (.lst xs)) o1 _ ha2 (l1.trans l2) ⟨c, vs, rfl, upd_same, RepL.mono l2.g r⟩ p
/-- an own list -/
theorem we_lstO {ta : TA} (h : WA T b ta own ds fun ss o => ss.length ≤ 100000 ∧ P (.p o.length) (o ++ [.lst ss])) : WE T b (tLst ta) own ds P := fun W σ ha sl Q q => by
  refine h W σ ha sl _ fun vs ss o1 W1 ha1 l1 r1 ⟨hl, p⟩ => ?_
  refine ⟨sz_of (by rw [r1.len]; exact hl), fun c hc => ?_⟩
  obtain ⟨ha2, l2⟩ := ha1.allocOwn hc r1
  refine q _ (.p o1.length) _ _ ha2 (l1.trans l2) ⟨c, ?_, rfl⟩ p
  rw [← ha1.ow.len]
  simp
end

/-! ### statements -/
structure Po where
  nx : List OW → List (Option SV) → Prop
  rt : SV → List OW → Prop
  bk : List OW → List (Option SV) → Prop
  ct : List OW → List (Option SV) → Prop
structure DOk (T : Tb) (b : Bd) (W : Wd) (D : Ends) (Φ : Po) : Prop where
  nx : ∀ σ' own' ds' W', HA T b W' own' → Le W W' → SlL T W' σ' ds' → Φ.nx own' ds' → D.nx σ' W'.H
  rt : ∀ v s own' W', HA T b W' own' → Le W W' → RpS T W' s v → Φ.rt s own' → D.rt v W'.H
  bk : ∀ σ' own' ds' W', HA T b W' own' → Le W W' → SlL T W' σ' ds' → Φ.bk own' ds' → D.bk σ' W'.H
  ct : ∀ σ' own' ds' W', HA T b W' own' → Le W W' → SlL T W' σ' ds' → Φ.ct own' ds' → D.ct σ' W'.H
theorem DOk.up {T : Tb} {b : Bd} {W W1 : Wd} {D : Ends} {Φ : Po} (d : DOk T b W D Φ) (l : Le W W1) : DOk T b W1 D Φ :=
  ⟨fun σ o s W2 h l2 => d.nx σ o s W2 h (l.trans l2), fun v s o W2 h l2 => d.rt v s o W2 h (l.trans l2), fun σ o s W2 h l2 => d.bk σ o s W2 h (l.trans l2), fun σ o s W2 h l2 => d.ct σ o s W2 h (l.trans l2)⟩
def WS (T : Tb) (b : Bd) (ts : TS) (own : List OW) (ds : List (Option SV)) (Φ : Po) : Prop :=
  ∀ (W : Wd) (σ : L2.St), HA T b W own → SlL T W σ ds → ∀ D : Ends, DOk T b W D Φ → ts D σ W.H
section
variable {T : Tb} {b : Bd} {own : List OW} {ds : List (Option SV)} {Φ : Po}
theorem ws_seq {t u : TS} (h : WS T b t own ds { Φ with nx := fun o s => WS T b u o s Φ }) : WS T b (tSeq t u) own ds Φ := fun W σ ha sl D d =>
  h W σ ha sl { D with nx := u D } ⟨fun σ' o s W' h' l sl' n => n W' σ' h' sl' D (d.up l), d.rt, d.bk, d.ct⟩
theorem ws_next (p : Φ.nx own ds) : WS T b tNext own ds Φ := fun W σ ha sl D d => d.nx σ own ds W ha (Le.refl W) sl p
theorem ws_break (p : Φ.bk own ds) : WS T b tBreak own ds Φ := fun W σ ha sl D d => d.bk σ own ds W ha (Le.refl W) sl p
theorem ws_cont (p : Φ.ct own ds) : WS T b tCont own ds Φ := fun W σ ha sl D d => d.ct σ own ds W ha (Le.refl W) sl p
theorem ws_set {te : TE} {i : Nat} (h : WE T b te own ds fun s o => Φ.nx o (ds.set i (some s))) : WS T b (tAsg te (gName i)) own ds Φ := fun W σ ha sl D d => by
  refine h W σ ha sl _ fun v s o1 W1 ha1 l1 r1 p => ?_
  exact d.nx _ o1 _ W1 ha1 l1 (SlL.set (fun sv e => by cases e; exact r1) i (sl.mono l1)) p
theorem ws_ret {te : TE} (h : WE T b te own ds Φ.rt) : WS T b (tRet te) own ds Φ := fun W σ ha sl D d =>
  h W σ ha sl _ fun v s o1 W1 ha1 l1 r1 p => d.rt v s o1 W1 ha1 l1 r1 p
theorem ws_retN (h : Φ.rt (.d .non) own) : WS T b tRetN own ds Φ := fun W σ ha sl D d => d.rt _ (.d .non) own W ha (Le.refl W) rfl h
theorem ws_drop {te : TE} (h : WE T b te own ds fun _ o => Φ.nx o ds) : WS T b (tDrop te) own ds Φ := fun W σ ha sl D d =>
  h W σ ha sl _ fun v s o1 W1 ha1 l1 r1 p => d.nx σ o1 ds W1 ha1 l1 (sl.mono l1) p
theorem ws_if {c : TT} {t u : TS} (h : WT T b c own ds fun k o => (k = true → WS T b t o ds Φ) ∧ (k = false → WS T b u o ds Φ)) : WS T b (tIfS c t u) own ds Φ := fun W σ ha sl D d => by
  refine h W σ ha sl _ fun k o1 W1 ha1 l1 ⟨ht, hf⟩ => ?_
  cases k with
  | true => exact ht rfl W1 σ ha1 (sl.mono l1) D (d.up l1)
  | false => exact hf rfl W1 σ ha1 (sl.mono l1) D (d.up l1)
theorem ws_par {i j : Nat} {ta : TA} (h : WA T b ta own ds fun ss o => ∃ x y, ss = [x, y] ∧ Φ.nx o ((ds.set i (some x)).set j (some y))) : WS T b (tPar i j ta) own ds Φ := fun W σ ha sl D d => by
  refine h W σ ha sl _ fun vs ss o1 W1 ha1 l1 r1 ⟨x, y, e, p⟩ => ?_
  subst e
  obtain ⟨v, r, rfl, h1, w, r', rfl, h2, rfl⟩ := r1
  exact ⟨v, w, rfl, d.nx _ o1 _ W1 ha1 l1 (SlL.set (fun sv e => by cases e; exact h2) j (SlL.set (fun sv e => by cases e; exact h1) i (sl.mono l1))) p⟩
/-- less is asked of what follows -/
theorem WS.imp {t : TS} {Ψ : Po} (h : WS T b t own ds Ψ) (n : ∀ o s, Ψ.nx o s → Φ.nx o s) (r : ∀ s o, Ψ.rt s o → Φ.rt s o) (k : ∀ o s, Ψ.bk o s → Φ.bk o s) (c : ∀ o s, Ψ.ct o s → Φ.ct o s) : WS T b t own ds Φ := fun W σ ha sl D d =>
  h W σ ha sl D ⟨fun σ' o s W' h' l sl' p => d.nx σ' o s W' h' l sl' (n o s p), fun v s o W' h' l r' p => d.rt v s o W' h' l r' (r s o p), fun σ' o s W' h' l sl' p => d.bk σ' o s W' h' l sl' (k o s p), fun σ' o s W' h' l sl' p => d.ct σ' o s W' h' l sl' (c o s p)⟩
theorem WE.imp {te : TE} {P R : PSv} (h : WE T b te own ds P) (i : ∀ s o, P s o → R s o) : WE T b te own ds R := fun W σ ha sl Q q =>
  h W σ ha sl Q fun v s o W' a l r p => q v s o W' a l r (i s o p)
/-- two ways through the first meet behind it -/
theorem ws_cut {t u : TS} (M : List OW → List (Option SV) → Prop) (h : WS T b t own ds { Φ with nx := M }) (k : ∀ o s, M o s → WS T b u o s Φ) : WS T b (tSeq t u) own ds Φ :=
  ws_seq (WS.imp (Φ := { Φ with nx := fun o s => WS T b u o s Φ }) h (fun o s m => k o s m) (fun _ _ x => x) (fun _ _ x => x) (fun _ _ x => x))
end
end Lo
end
section
set_option Elab.async false
set_option linter.all false
set_option autoImplicit false
set_option maxRecDepth 100000
set_option maxHeartbeats 1000000
namespace Lo
open PySem PySem.Spec PyProof.Rows L2 Evl

/-- an error: the number of its class, its attributes -/
structure Er where
  c : Nat
  fs : List (PySem.Str × V)
/-- what a def does, by data: to its arguments, what is wanted of its answer and of its error -/
abbrev DF := List D → (D → Prop) → (Er → Prop) → Prop

/-- what is wanted of an error -/
def XOk (T : Tb) (b : Bd) (E : XK) (X : Er → Prop) : Prop := ∀ e dx H', Ex b.B H' → b.B dx = none → H' dx = some (.xd e.fs) → X e → E (.ref (T.cls e.c)) (some dx) H'

def PostR (T : Tb) (G0 H : Hp) (Q : VK) : D → Prop := fun d => ∀ v G' H', Ex G0 G' → Ex G' H' → Ex H H' → (∀ x, H x ≠ none → G0 x = none → G' x = none) → Rep T G' d v → Q v H'
def PostX (T : Tb) (H : Hp) (E : XK) : Er → Prop := fun e => ∀ dx H', Ex H H' → H dx = none → H' dx = some (.xd e.fs) → E (.ref (T.cls e.c)) (some dx) H'
/-- the promise of a def that changes nothing -/
def SpP (T : Tb) (F : DF) : Sp := fun vs H Q E => ∃ G0 ds, Ex G0 H ∧ RepL T G0 ds vs ∧ F ds (PostR T G0 H Q) (PostX T H E)
def PostH (T : Tb) (a : Addr) (G0 H : Hp) (Q : VK) : D → Prop := fun d => ∀ v G' H', Ex G0 G' → Ex G' H' → (∀ x o, x ≠ a → H x = some o → H' x = some o) → (∀ x, H x ≠ none → G0 x = none → G' x = none) → HandAt T.K G' H' a → Rep T G' d v → Q v H'
/-- the promise of a def that draws from the hand, its first argument -/
def SpH (T : Tb) (F : DF) : Sp := fun vs H Q E => ∃ a G0 ds ws, vs = .ref a :: ws ∧ G0 a = none ∧ Ex G0 H ∧ HandAt T.K G0 H a ∧ RepL T G0 ds ws ∧ F ds (PostH T a G0 H Q) (fun _ => False)

section
variable {T : Tb} {b : Bd} {own : List OW} {ds : List (Option SV)} {P : PSv}
theorem OwL.call {W : Wd} {G' H' : Hp} (l : Le W ⟨G', H', W.as⟩) (hh : Ex W.H H') (hg : ∀ x, W.H x ≠ none → W.G x = none → G' x = none) {os : List OW} (h : OwL T b W W.as os) : OwL T b ⟨G', H', W.as⟩ W.as os :=
  OwL.step l (fun a m => by
    have t := h.there a m
    refine ⟨?_, fun g => hg a t g⟩
    cases e : W.H a with
    | none => exact absurd e t
    | some o => exact hh a o e) h
theorem HA.call {W : Wd} {G' H' : Hp} (h : HA T b W own) (g : Ex W.G G') (gh : Ex G' H') (hh : Ex W.H H') (hg : ∀ x, W.H x ≠ none → W.G x = none → G' x = none) : HA T b ⟨G', H', W.as⟩ own ∧ Le W ⟨G', H', W.as⟩ := by
  have l : Le W ⟨G', H', W.as⟩ := ⟨g, List.prefix_refl _⟩
  refine ⟨⟨gh, h.bh.trans hh, fun x n => ?_, h.nd, OwL.call l hh hg h.ow⟩, l⟩
  obtain ⟨n1, n2⟩ := h.nn x n
  refine ⟨hg x n2 n1, fun z => n2 ?_⟩
  cases e : W.H x with
  | none => rfl
  | some o =>
    have this := hh x o e
    exact this.symm.trans z
theorem fresh_B {W : Wd} (h : HA T b W own) {dx : Addr} (q : W.H dx = none) : b.B dx = none := fresh_back h.bh q
/-- a call of a def that changes nothing -/
theorem we_call {F : DF} {dvs : List V} {dd : List D} {E : XK} {X : Er → Prop} {ta : TA} (hx : XOk T b E X) (hd : ∀ G, RepL T G dd dvs)
    (h : WA T b ta own ds fun ss o => ∃ xs, AllD ss xs ∧ F (xs ++ dd) (fun d => P (.d d) o) X) (mon : ∀ {xs R R' Y Y'}, F xs R Y → (∀ d, R d → R' d) → (∀ e, Y e → Y' e) → F xs R' Y') : WE T b (tCall (SpP T F) dvs E ta) own ds P := fun W σ ha sl Q q => by
  refine h W σ ha sl _ fun vs ss o1 W1 ha1 l1 r1 ⟨xs, e, f⟩ => ?_
  rw [e.eq] at r1
  have r := RpSL.ds r1
  have app : ∀ {xs ys : List D} {vs ws : List V}, RepL T W1.G xs vs → RepL T W1.G ys ws → RepL T W1.G (xs ++ ys) (vs ++ ws) := by
    intro xs
    induction xs with
    | nil =>
      intro ys vs ws h1 h2
      have h1' : vs = [] := h1
      subst h1'
      exact h2
    | cons x xs ih =>
      intro ys vs ws ⟨v, r, e, h1, h2⟩ h3
      subst e
      exact ⟨v, r ++ ws, rfl, h1, ih h2 h3⟩
  refine ⟨W1.G, xs ++ dd, ha1.gh, app r (hd _), mon f (fun d p v G' H' g gh hh hg rv => ?_) fun e y dx H' hh hn hf => ?_⟩
  · obtain ⟨ha2, l2⟩ := ha1.call g gh hh hg
    exact q v (.d d) o1 ⟨G', H', W1.as⟩ ha2 (l1.trans l2) rv p
  · exact hx e dx H' (ha1.bh.trans hh) (fresh_B ha1 hn) hf y
/-- thawed: what stands at an own list now -/
inductive Thw (own : List OW) : SV → D → Prop
  | d {x : D} : Thw own (.d x) x
  | p {k : Nat} {xs : List D} {ss : List SV} : own[k]? = some (.lst ss) → AllD ss xs → Thw own (.p k) (.lst xs)
inductive ThwL (own : List OW) : List SV → List D → Prop
  | nil : ThwL own [] []
  | cons {s : SV} {ss : List SV} {x : D} {xs : List D} : Thw own s x → ThwL own ss xs → ThwL own (s :: ss) (x :: xs)
theorem Thw.rep {W : Wd} (h : HA T b W own) {s : SV} {x : D} {v : V} (t : Thw own s x) (r : RpS T W s v) : Rep T W.H x v := by
  cases t with
  | d => exact Rep.mono h.gh r
  | p e a =>
    obtain ⟨c, ec, rfl⟩ := r
    obtain ⟨c', ec', _, _, _, vs, eh, rv⟩ := h.ow.get e
    have z : c' = c := Option.some.inj (ec'.symm.trans ec)
    subst z
    rw [a.eq] at rv
    exact ⟨c', vs, rfl, eh, RepL.mono h.gh (RpSL.ds rv)⟩
theorem ThwL.rep {W : Wd} (h : HA T b W own) : ∀ {ss : List SV} {xs : List D} {vs : List V}, ThwL own ss xs → RpSL T W ss vs → RepL T W.H xs vs
  | _, _, _, .nil, r => r
  | _, _, _, .cons t ts, ⟨v, w, e, r1, r2⟩ => ⟨v, w, e, Thw.rep h t r1, ThwL.rep h ts r2⟩
theorem ThwL.all : ∀ {xs : List D}, ThwL own (xs.map SV.d) xs
  | [] => .nil
  | _ :: _ => .cons .d ThwL.all
theorem AllD.thw : ∀ {ss : List SV} {xs : List D}, AllD ss xs → ThwL own ss xs
  | _, _, .nil => .nil
  | _, _, .cons h => .cons .d h.thw
/-- no heap is needed for it -/
def sc : D → Bool
  | .non | .bl _ | .int _ | .str _ => true
  | _ => false
theorem sc.rep {G G' : Hp} {d : D} {v : V} (h : sc d = true) (r : Rep T G d v) : Rep T G' d v := by
  cases d <;> first | exact r | cases h
/-- a call whose arguments are own lists, its answer a number, a text .. -/
theorem we_callT {F : DF} {dvs : List V} {dd : List D} {E : XK} {X : Er → Prop} {ta : TA} (hx : XOk T b E X) (hd : ∀ G, RepL T G dd dvs)
    (h : WA T b ta own ds fun ss o => ∃ xs, ThwL o ss xs ∧ F (xs ++ dd) (fun d => sc d = true ∧ P (.d d) o) X) (mon : ∀ {xs R R' Y Y'}, F xs R Y → (∀ d, R d → R' d) → (∀ e, Y e → Y' e) → F xs R' Y') : WE T b (tCall (SpP T F) dvs E ta) own ds P := fun W σ ha sl Q q => by
  refine h W σ ha sl _ fun vs ss o1 W1 ha1 l1 r1 ⟨xs, e, f⟩ => ?_
  have r := ThwL.rep ha1 e r1
  have app : ∀ {xs ys : List D} {vs ws : List V}, RepL T W1.H xs vs → RepL T W1.H ys ws → RepL T W1.H (xs ++ ys) (vs ++ ws) := by
    intro xs
    induction xs with
    | nil =>
      intro ys vs ws h1 h2
      have h1' : vs = [] := h1
      subst h1'
      exact h2
    | cons x xs ih =>
      intro ys vs ws ⟨v, r, e, h1, h2⟩ h3
      subst e
      exact ⟨v, r ++ ws, rfl, h1, ih h2 h3⟩
  refine ⟨W1.H, xs ++ dd, Ex.refl _, app r (hd _), mon f (fun d ⟨s, p⟩ v G' H' g gh hh hg rv => ?_) fun e y dx H' hh hn hf => ?_⟩
  · obtain ⟨ha2, l2⟩ := ha1.call (G' := W1.G) (H' := H') (Ex.refl _) (ha1.gh.trans hh) hh (fun x _ q => q)
    exact q v (.d d) o1 ⟨W1.G, H', W1.as⟩ ha2 (l1.trans l2) (sc.rep s rv) p
  · exact hx e dx H' (ha1.bh.trans hh) (fresh_B ha1 hn) hf y
theorem HA.callH {W : Wd} {G' H' : Hp} {k : Nat} {a : Addr} (h : HA T b W own) (ho : own[k]? = some .hand) (ea : W.as[k]? = some a) (g : Ex W.G G') (gh : Ex G' H') (hh : ∀ x o, x ≠ a → W.H x = some o → H' x = some o) (hg : ∀ x, W.H x ≠ none → W.G x = none → G' x = none)
    (hd : HandAt T.K G' H' a) : HA T b ⟨G', H', W.as⟩ own ∧ Le W ⟨G', H', W.as⟩ := by
  have l : Le W ⟨G', H', W.as⟩ := ⟨g, List.prefix_refl _⟩
  obtain ⟨a', ea', ga, ba, na, hd0⟩ := h.ow.get ho
  have z : a' = a := Option.some.inj (ea'.symm.trans ea)
  subst z
  have there : ∀ x, W.H x ≠ none → H' x ≠ none := fun x n => by
    by_cases z : x = a'
    · obtain ⟨c, i, r, t, cells, e, _⟩ := hd
      rw [z, e]
      exact fun q => by cases q
    · cases e : W.H x with
      | none => exact absurd e n
      | some o =>
        rw [hh x o z e]
        exact fun q => by cases q
  have ow2 : OwL T b ⟨G', H', W.as⟩ W.as (own.set k .hand) := by
    have how : Ow T b ⟨G', H', W.as⟩ a' .hand := ⟨hg a' (OwL.there h.ow a' (List.mem_of_getElem? ea)) ga, ba, na, hd⟩
    refine OwL.set l how ea h.nd (fun c m z => ?_) h.ow
    have t := h.ow.there c m
    refine ⟨?_, fun q => hg c t q⟩
    cases e : W.H c with
    | none => exact absurd e t
    | some o => exact hh c o z e
  have se : own.set k .hand = own := by
    refine List.ext_getElem? fun i => ?_
    by_cases z : i = k
    · subst z
      rw [ho, List.getElem?_set_self ((List.getElem?_eq_some_iff.mp ho).1)]
    · rw [List.getElem?_set_ne (fun q => z q.symm)]
  rw [se] at ow2
  refine ⟨⟨gh, fun x o q => hh x o (fun z => by rw [z, ba] at q; cases q) (h.bh x o q), fun x n => ?_, h.nd, ow2⟩, l⟩
  obtain ⟨n1, n2⟩ := h.nn x n
  exact ⟨hg x n2 n1, there x n2⟩
/-- a call of a def that draws -/
theorem we_callH {F : DF} {dvs : List V} {dd : List D} {E : XK} {ta : TA} (hd : ∀ G, RepL T G dd dvs)
    (h : WA T b ta own ds fun ss o => ∃ k sr xs, ss = .p k :: sr ∧ o[k]? = some .hand ∧ AllD sr xs ∧ F (xs ++ dd) (fun d => P (.d d) o) (fun _ => False)) (mon : ∀ {xs R R' Y Y'}, F xs R Y → (∀ d, R d → R' d) → (∀ e, Y e → Y' e) → F xs R' Y') : WE T b (tCall (SpH T F) dvs E ta) own ds P := fun W σ ha sl Q q => by
  refine h W σ ha sl _ fun vs ss o1 W1 ha1 l1 r1 ⟨k, sr, xs, es, ho, e, f⟩ => ?_
  subst es
  obtain ⟨v, ws, rfl, ⟨a, ea, rfl⟩, r1⟩ := r1
  rw [e.eq] at r1
  have r := RpSL.ds r1
  obtain ⟨a', ea', ga, ba, na, hd0⟩ := ha1.ow.get ho
  have z : a' = a := Option.some.inj (ea'.symm.trans ea)
  subst z
  have app : ∀ {xs ys : List D} {vs ws : List V}, RepL T W1.G xs vs → RepL T W1.G ys ws → RepL T W1.G (xs ++ ys) (vs ++ ws) := by
    intro xs
    induction xs with
    | nil =>
      intro ys vs ws h1 h2
      have h1' : vs = [] := h1
      subst h1'
      exact h2
    | cons x xs ih =>
      intro ys vs ws ⟨v, r, e, h1, h2⟩ h3
      subst e
      exact ⟨v, r ++ ws, rfl, h1, ih h2 h3⟩
  refine ⟨a', W1.G, xs ++ dd, ws ++ dvs, rfl, ga, ha1.gh, hd0, app r (hd _), mon f (fun d p v G' H' g gh hh hg hd' rv => ?_) fun e y => y.elim⟩
  obtain ⟨ha2, l2⟩ := ha1.callH ho ea g gh hh hg hd'
  exact q v (.d d) o1 ⟨G', H', W1.as⟩ ha2 (l1.trans l2) rv p
end

/-! ### a def's body -/
theorem xok {T : Tb} {G0 H : Hp} {E : XK} {F : DF} : XOk T ⟨H, fun x => H x ≠ none ∧ G0 x = none⟩ E (PostX T H E) := fun e dx H' h n f x => x dx H' h n f
/-- the body of a def that changes nothing keeps its promise -/
theorem bodyP {T : Tb} {F : DF} {t : TS} {σ : L2.St} {ss : List (Option SV)} {vs : List V} {H : Hp} {Q : VK} {E : XK} {G0 : Hp} {xs : List D} (g : Ex G0 H) (sl : SlL T ⟨G0, H, []⟩ σ ss)
    (h : WS T ⟨H, fun x => H x ≠ none ∧ G0 x = none⟩ t [] ss ⟨fun _ _ => PostR T G0 H Q .non, fun s _ => ∃ d, s = .d d ∧ PostR T G0 H Q d, fun _ _ => False, fun _ _ => False⟩) :
    t { nx := fun _ H' => Q .non H', rt := Q } σ H := by
  have ha : HA T ⟨H, fun x => H x ≠ none ∧ G0 x = none⟩ ⟨G0, H, []⟩ [] := ⟨g, Ex.refl _, fun x n => ⟨n.2, n.1⟩, List.nodup_nil, rfl⟩
  refine h ⟨G0, H, []⟩ σ ha sl _ ⟨fun σ' o s W' h' l sl' p => p .non W'.G W'.H l.g h'.gh h'.bh (fun x n1 n2 => (h'.nn x ⟨n1, n2⟩).1) rfl, fun v s o W' h' l r ⟨d, e, p⟩ => ?_, fun _ _ _ _ _ _ _ p => p.elim, fun _ _ _ _ _ _ _ p => p.elim⟩
  subst e
  exact p v W'.G W'.H l.g h'.gh h'.bh (fun x n1 n2 => (h'.nn x ⟨n1, n2⟩).1) r
/-- the same of a def that draws -/
theorem bodyH {T : Tb} {F : DF} {t : TS} {σ : L2.St} {ss : List (Option SV)} {H : Hp} {Q : VK} {E : XK} {G0 : Hp} {a : Addr} (ga : G0 a = none) (g : Ex G0 H) (hd : HandAt T.K G0 H a) (sl : SlL T ⟨G0, H, [a]⟩ σ ss)
    (h : WS T ⟨fun x => if x = a then none else H x, fun x => x ≠ a ∧ H x ≠ none ∧ G0 x = none⟩ t [.hand] ss ⟨fun _ _ => False, fun s o => o[0]? = some .hand ∧ ∃ d, s = .d d ∧ PostH T a G0 H Q d, fun _ _ => False, fun _ _ => False⟩) :
    t { nx := fun _ H' => Q .non H', rt := Q } σ H := by
  have bh : Ex (fun x => if x = a then none else H x) H := fun x o q => by
    by_cases z : x = a
    · simp [z] at q
    · simpa [z] using q
  have how : Ow T ⟨fun x => if x = a then none else H x, fun x => x ≠ a ∧ H x ≠ none ∧ G0 x = none⟩ ⟨G0, H, [a]⟩ a .hand := ⟨ga, by simp, fun z => z.1 rfl, hd⟩
  have ha : HA T ⟨fun x => if x = a then none else H x, fun x => x ≠ a ∧ H x ≠ none ∧ G0 x = none⟩ ⟨G0, H, [a]⟩ [.hand] := ⟨g, bh, fun x n => ⟨n.2.2, n.2.1⟩, by simp, ⟨_, _, rfl, how, rfl⟩⟩
  refine h ⟨G0, H, [a]⟩ σ ha sl _ ⟨fun σ' o s W' h' l sl' p => p.elim, fun v s o W' h' l r ⟨ho, d, e, p⟩ => ?_, fun _ _ _ _ _ _ _ p => p.elim, fun _ _ _ _ _ _ _ p => p.elim⟩
  subst e
  obtain ⟨a', ea, ga', _, _, hd'⟩ := h'.ow.get ho
  have ea2 : W'.as[0]? = some a := prefix_get l.a rfl
  have z : a' = a := Option.some.inj (ea.symm.trans ea2)
  subst z
  refine p v W'.G W'.H l.g h'.gh (fun x o n q => h'.bh x o (by simpa [n] using q)) (fun x n1 n2 => ?_) hd' r
  by_cases z : x = a'
  · rw [z]
    exact ga'
  · exact (h'.nn x ⟨z, n1, n2⟩).1
end Lo
end
section
set_option Elab.async false
set_option linter.all false
set_option autoImplicit false
set_option maxRecDepth 100000
set_option maxHeartbeats 1000000
namespace Lo
open PySem PySem.Spec PyProof.Rows L2 Evl

/-! ### operators on data -/
section
variable {T : Tb} {b : Bd} {own : List OW} {ds : List (Option SV)} {P : PSv}
theorem wr_val {r : R2} {x y z : D} (sx : sc z = true) {vz : V} (hz : ∀ G, Rep T G z vz) (h : ∀ W vx vy, HA T b W own → RpS T W (.d x) vx → RpS T W (.d y) vy → ∀ Q : VK, Q vz W.H → r vx vy W.H Q) (p : P (.d z) own) : WR T b r own (.d x) (.d y) P := fun W vx vy ha rx ry Q q =>
  h W vx vy ha rx ry Q (q vz (.d z) own W ha (Le.refl W) (hz _) p)
theorem wr_I {C : Int → Int → Prop} {g : Int → Int → Int} {i j : Int} (c : C i j) (p : P (.d (.int (g i j))) own) : WR T b (rI C fun i j => .int (g i j)) own (.d (.int i)) (.d (.int j)) P := fun W vx vy ha rx ry Q q => by
  cases RpS.int rx
  cases RpS.int ry
  exact ⟨i, j, rfl, rfl, c, q _ (.d (.int (g i j))) own W ha (Le.refl W) rfl p⟩
theorem wr_I0 {g : Int → Int → Int} {i j : Int} (p : P (.d (.int (g i j))) own) : WR T b (rI0 fun i j => .int (g i j)) own (.d (.int i)) (.d (.int j)) P := fun W vx vy ha rx ry Q q => by
  cases RpS.int rx
  cases RpS.int ry
  exact ⟨i, j, rfl, rfl, q _ (.d (.int (g i j))) own W ha (Le.refl W) rfl p⟩
theorem wr_B0 {g : Int → Int → Bool} {i j : Int} (p : P (.d (.bl (g i j))) own) : WR T b (rI0 fun i j => .bl (g i j)) own (.d (.int i)) (.d (.int j)) P := fun W vx vy ha rx ry Q q => by
  cases RpS.int rx
  cases RpS.int ry
  exact ⟨i, j, rfl, rfl, q _ (.d (.bl (g i j))) own W ha (Le.refl W) rfl p⟩
theorem wu_neg {i : Int} (p : P (.d (.int (-i))) own) : WU T b (rU fun i => .int (-i)) own (.d (.int i)) P := fun W vx ha rx Q q => by
  cases RpS.int rx
  exact ⟨i, rfl, q _ (.d (.int (-i))) own W ha (Le.refl W) rfl p⟩
def rAddStr : R2 := fun x y H Q => ∃ i j, x = .str i ∧ y = .str j ∧ i.length + j.length ≤ sizeLine ∧ Q (.str (i ++ j)) H
theorem op_addStr {X : Cx} : OpR X (binaryOp .Add) rAddStr := op_add_str
theorem wr_addStr {x y : PySem.Str} (l : x.length + y.length ≤ 100000) (p : P (.d (.str (x ++ y))) own) : WR T b rAddStr own (.d (.str x)) (.d (.str y)) P := fun W vx vy ha rx ry Q q => by
  cases RpS.str rx
  cases RpS.str ry
  exact ⟨x, y, rfl, rfl, sz_of l, q _ (.d (.str (x ++ y))) own W ha (Le.refl W) rfl p⟩
def rLeStr : R2 := fun x y H Q => ∃ i j, x = .str i ∧ y = .str j ∧ Q (.bl (!decide (j.cps.toList < i.cps.toList))) H
theorem op_leStr {X : Cx} : OpR X (compareOp .LtE) rLeStr := op_le_str
theorem wr_leStr {x y : PySem.Str} (p : P (.d (.bl (!decide (y.cps.toList < x.cps.toList)))) own) : WR T b rLeStr own (.d (.str x)) (.d (.str y)) P := fun W vx vy ha rx ry Q q => by
  cases RpS.str rx
  cases RpS.str ry
  exact ⟨x, y, rfl, rfl, q _ (.d (.bl _)) own W ha (Le.refl W) rfl p⟩
/-- is None -/
def D.isNon : D → Bool
  | .non => true
  | _ => false
theorem isNon_rep {G : Hp} {d : D} {v : V} (r : Rep T G d v) : decide (v = .non) = d.isNon := by
  cases d with
  | non =>
    have e : v = .non := r
    subst e
    rfl
  | bl k =>
    have e : v = .bl k := r
    subst e
    rfl
  | int i =>
    have e : v = .int i := r
    subst e
    exact decide_eq_false (fun z => by cases z)
  | str z =>
    have e : v = .str z := r
    subst e
    exact decide_eq_false (fun z => by cases z)
  | lst xs =>
    obtain ⟨a, vs, e, _⟩ := r
    subst e
    exact decide_eq_false (fun z => by cases z)
  | tup xs =>
    obtain ⟨a, vs, e, _⟩ := r
    subst e
    exact decide_eq_false (fun z => by cases z)
  | obj c fs =>
    obtain ⟨a, dx, gs, e, _⟩ := r
    subst e
    exact decide_eq_false (fun z => by cases z)
  | dct ks vs =>
    obtain ⟨a, gs, e, _⟩ := r
    subst e
    exact decide_eq_false (fun z => by cases z)
theorem wr_isN {x : D} (p : P (.d (.bl x.isNon)) own) : WR T b rIsN own (.d x) (.d .non) P := fun W vx vy ha rx ry Q q => by
  cases RpS.non ry
  refine ⟨rfl, ?_⟩
  rw [isNon_rep rx]
  exact q _ (.d (.bl x.isNon)) own W ha (Le.refl W) rfl p
theorem wr_notN {x : D} (p : P (.d (.bl (!x.isNon))) own) : WR T b rNotN own (.d x) (.d .non) P := fun W vx vy ha rx ry Q q => by
  cases RpS.non ry
  refine ⟨rfl, ?_⟩
  rw [isNon_rep rx]
  exact q _ (.d (.bl (!x.isNon))) own W ha (Le.refl W) rfl p
/-- items -/
theorem RepL.get {G : Hp} : ∀ {xs : List D} {vs : List V} {i : Nat} {x : D}, RepL T G xs vs → xs[i]? = some x → ∃ v, vs[i]? = some v ∧ Rep T G x v
  | [], _, i, x, h, e => by simp at e
  | y :: xs, _, 0, x, ⟨v, r, rfl, h1, h2⟩, e => by
    have e' : y = x := by simpa using e
    subst e'
    exact ⟨v, by simp, h1⟩
  | y :: xs, _, i + 1, x, ⟨v, r, rfl, h1, h2⟩, e => by
    obtain ⟨w, ew, hw⟩ := RepL.get (i := i) h2 (by simpa using e)
    exact ⟨w, by simpa using ew, hw⟩
theorem RpSL.get {W : Wd} : ∀ {xs : List SV} {vs : List V} {i : Nat} {x : SV}, RpSL T W xs vs → xs[i]? = some x → ∃ v, vs[i]? = some v ∧ RpS T W x v
  | [], _, i, x, h, e => by simp at e
  | y :: xs, _, 0, x, ⟨v, r, rfl, h1, h2⟩, e => by
    have e' : y = x := by simpa using e
    subst e'
    exact ⟨v, by simp, h1⟩
  | y :: xs, _, i + 1, x, ⟨v, r, rfl, h1, h2⟩, e => by
    obtain ⟨w, ew, hw⟩ := RpSL.get (i := i) h2 (by simpa using e)
    exact ⟨w, by simpa using ew, hw⟩
theorem atI_len {α β : Type} {xs : List α} {ys : List β} (l : xs.length = ys.length) {i : Int} {x : α} (e : atI xs i = some x) : ∃ j : Nat, ixN ys.length i = some j ∧ xs[j]? = some x := by
  unfold atI at e
  cases h : ixN xs.length i with
  | none => rw [h] at e; cases e
  | some j =>
    rw [h] at e
    exact ⟨j, by rw [← l]; exact h, e⟩
theorem RepL.at {G : Hp} {xs : List D} {vs : List V} {i : Int} {x : D} (r : RepL T G xs vs) (e : atI xs i = some x) : ∃ v, atI vs i = some v ∧ Rep T G x v := by
  obtain ⟨j, h1, h2⟩ := atI_len (ys := vs) r.len.symm e
  obtain ⟨v, ev, rv⟩ := r.get h2
  exact ⟨v, by unfold atI; rw [h1]; exact ev, rv⟩
theorem RpSL.at {W : Wd} {xs : List SV} {vs : List V} {i : Int} {x : SV} (r : RpSL T W xs vs) (e : atI xs i = some x) : ∃ v, atI vs i = some v ∧ RpS T W x v := by
  obtain ⟨j, h1, h2⟩ := atI_len (ys := vs) r.len.symm e
  obtain ⟨v, ev, rv⟩ := r.get h2
  exact ⟨v, by unfold atI; rw [h1]; exact ev, rv⟩
def rIx (K : PySem.W.Frag) : R2 := fun x y H Q => rIxL K x y H Q ∨ rIxT K x y H Q ∨ rIxS x y H Q
theorem ix_any {X : Cx} : IxR X (rIx X.K) := ix_seq
theorem wr_ixL {xs : List D} {i : Int} {x : D} (e : atI xs i = some x) (p : P (.d x) own) : WR T b (rIx T.K) own (.d (.lst xs)) (.d (.int i)) P := fun W vx vy ha rx ry Q q => by
  cases RpS.int ry
  obtain ⟨a, vs, rfl, hs, r⟩ := rx
  obtain ⟨v, ev, rv⟩ := r.at e
  exact .inl ⟨a, vs, i, v, rfl, rfl, sq_of (ha.gh _ _ hs), ev, q v (.d x) own W ha (Le.refl W) rv p⟩
theorem wr_ixT {xs : List D} {i : Int} {x : D} (e : atI xs i = some x) (p : P (.d x) own) : WR T b (rIx T.K) own (.d (.tup xs)) (.d (.int i)) P := fun W vx vy ha rx ry Q q => by
  cases RpS.int ry
  obtain ⟨a, vs, rfl, hs, r⟩ := rx
  obtain ⟨v, ev, rv⟩ := r.at e
  exact .inr (.inl ⟨a, vs, i, v, rfl, rfl, ex_t ha.gh hs, ev, q v (.d x) own W ha (Le.refl W) rv p⟩)
theorem wr_ixO {k : Nat} {ss : List SV} {i : Int} {x : SV} (ho : own[k]? = some (.lst ss)) (e : atI ss i = some x) (p : P x own) : WR T b (rIx T.K) own (.p k) (.d (.int i)) P := fun W vx vy ha rx ry Q q => by
  cases RpS.int ry
  obtain ⟨a, ea, rfl⟩ := rx
  obtain ⟨a', ea', _, _, _, vs, eh, r⟩ := ha.ow.get ho
  have z : a' = a := Option.some.inj (ea'.symm.trans ea)
  subst z
  obtain ⟨v, ev, rv⟩ := r.at e
  exact .inl ⟨a', vs, i, v, rfl, rfl, sq_of eh, ev, q v x own W ha (Le.refl W) rv p⟩
theorem wr_ixS {z : PySem.Str} {i : Int} {c : Nat} (l : z.length ≤ 100000) (e : atI z.cps.toList i = some c) (p : P (.d (.str ⟨#[c]⟩)) own) : WR T b (rIx T.K) own (.d (.str z)) (.d (.int i)) P := fun W vx vy ha rx ry Q q => by
  cases RpS.str rx
  cases RpS.int ry
  exact .inr (.inr ⟨z, i, c, rfl, rfl, sz_of l, e, q _ (.d (.str ⟨#[c]⟩)) own W ha (Le.refl W) rfl p⟩)
end

/-! ### flat data in a row -/
def D.flat : D → Bool
  | .non | .bl _ | .int _ | .str _ => true
  | _ => false
def D.eqF : D → D → Bool
  | .non, .non => true
  | .bl a, .bl b => a == b
  | .bl a, .int b => (if a then 1 else 0) == b
  | .int a, .bl b => a == (if b then 1 else 0)
  | .int a, .int b => a == b
  | .str a, .str b => a == b
  | _, _ => false
def D.vv : D → V
  | .bl b => .bl b
  | .int i => .int i
  | .str s => .str s
  | _ => .non
section
variable {T : Tb} {b : Bd} {own : List OW} {ds : List (Option SV)} {P : PSv}
theorem flat_rep {G : Hp} {d : D} {v : V} (f : d.flat = true) (r : Rep T G d v) : v = d.vv := by
  cases d <;> first | exact r | cases f
theorem flat_repL {G : Hp} : ∀ {xs : List D} {vs : List V}, xs.all D.flat = true → RepL T G xs vs → vs = xs.map D.vv
  | [], _, _, r => r
  | x :: xs, _, f, ⟨v, w, rfl, h1, h2⟩ => by
    simp only [List.all_cons, Bool.and_eq_true] at f
    rw [List.map_cons, flat_rep f.1 h1, flat_repL f.2 h2]
theorem flatV_vv {d : D} (f : d.flat = true) : flatV d.vv = true := by
  cases d <;> first | rfl | cases f
theorem eqV_vv {x y : D} (f : x.flat = true) (g : y.flat = true) : eqV x.vv y.vv = x.eqF y := by
  cases x <;> first | (cases f; done) | (cases y <;> first | rfl | (cases g; done))
def D.inF (x : D) (xs : List D) : Bool := xs.any fun y => y.eqF x
theorem inV_vv {x : D} (f : x.flat = true) : ∀ {xs : List D}, xs.all D.flat = true → inV x.vv (xs.map D.vv) = x.inF xs
  | [], _ => rfl
  | y :: xs, g => by
    simp only [List.all_cons, Bool.and_eq_true] at g
    have ih := inV_vv f g.2
    unfold inV D.inF at ih ⊢
    rw [List.map_cons, List.any_cons, List.any_cons, ih, eqV_vv g.1 f]
theorem flatAll_vv : ∀ {xs : List D}, xs.all D.flat = true → (xs.map D.vv).all flatV = true
  | [], _ => rfl
  | y :: xs, g => by
    simp only [List.all_cons, Bool.and_eq_true] at g
    rw [List.map_cons, List.all_cons, flatV_vv g.1, flatAll_vv g.2]
    rfl
theorem wr_inT {neg : Bool} {x : D} {xs : List D} (f : x.flat = true) (g : xs.all D.flat = true) (p : P (.d (.bl (if neg then !x.inF xs else x.inF xs))) own) : WR T b (rIn T.K neg) own (.d x) (.d (.tup xs)) P := fun W vx vy ha rx ry Q q => by
  obtain ⟨a, vs, rfl, hs, r⟩ := ry
  rw [flat_rep f rx]
  have e := flat_repL g r
  subst e
  refine ⟨a, _, rfl, .inr (ex_t ha.gh hs), flatV_vv f, flatAll_vv g, ?_⟩
  rw [inV_vv f g]
  exact q _ (.d (.bl _)) own W ha (Le.refl W) rfl p
theorem wr_inL {neg : Bool} {x : D} {xs : List D} (f : x.flat = true) (g : xs.all D.flat = true) (p : P (.d (.bl (if neg then !x.inF xs else x.inF xs))) own) : WR T b (rIn T.K neg) own (.d x) (.d (.lst xs)) P := fun W vx vy ha rx ry Q q => by
  obtain ⟨a, vs, rfl, hs, r⟩ := ry
  rw [flat_rep f rx]
  have e := flat_repL g r
  subst e
  refine ⟨a, _, rfl, .inl (sq_of (ha.gh _ _ hs)), flatV_vv f, flatAll_vv g, ?_⟩
  rw [inV_vv f g]
  exact q _ (.d (.bl _)) own W ha (Le.refl W) rfl p
theorem wr_eqF {x y : D} (f : scal x.vv y.vv = true) (fx : x.flat = true) (fy : y.flat = true) (p : P (.d (.bl (decide (x.vv = y.vv)))) own) : WR T b rEq own (.d x) (.d y) P := fun W vx vy ha rx ry Q q => by
  rw [flat_rep fx rx, flat_rep fy ry]
  exact ⟨f, q _ (.d (.bl _)) own W ha (Le.refl W) rfl p⟩
end

/-! ### == of data -/
mutual
def D.py : D → PyData
  | .non => .none
  | .bl b => .bool b
  | .int i => .int i
  | .str s => .str s
  | .lst xs => .list (D.pyL xs)
  | .tup xs => .tuple (D.pyL xs)
  | .obj _ _ => .none
  | .dct _ _ => .none
def D.pyL : List D → List PyData
  | [] => []
  | d :: ds => d.py :: D.pyL ds
end
mutual
def D.pure : D → Bool
  | .lst xs => D.pureL xs
  | .tup xs => D.pureL xs
  | .obj _ _ => false
  | .dct _ _ => false
  | _ => true
def D.pureL : List D → Bool
  | [] => true
  | d :: ds => d.pure && D.pureL ds
end
mutual
theorem Rep.dp {T : Tb} {H : Hp} : ∀ {d : D} {v : V}, d.pure = true → Rep T H d v → Dp T.K H v d.py
  | .non, _, _, h => by
    have e : _ = V.non := h
    subst e
    exact .non
  | .bl k, _, _, h => by
    have e : _ = V.bl k := h
    subst e
    exact .bl k
  | .int k, _, _, h => by
    have e : _ = V.int k := h
    subst e
    exact .int k
  | .str k, _, _, h => by
    have e : _ = V.str k := h
    subst e
    exact .str k
  | .lst xs, _, p, ⟨a, vs, e, hs, r⟩ => by
    subst e
    exact .lst (sq_of hs) (RepL.dp (by simpa [D.pure] using p) r)
  | .tup xs, _, p, ⟨a, vs, e, hs, r⟩ => by
    subst e
    exact .tup hs (RepL.dp (by simpa [D.pure] using p) r)
  | .obj _ _, _, p, _ => by simp [D.pure] at p
  | .dct _ _, _, p, _ => by simp [D.pure] at p
theorem RepL.dp {T : Tb} {H : Hp} : ∀ {ds : List D} {vs : List V}, D.pureL ds = true → RepL T H ds vs → DpAll T.K H vs (D.pyL ds)
  | [], _, _, h => by
    have e : _ = [] := h
    subst e
    exact .nil
  | d :: ds, _, p, ⟨v, r, e, h1, h2⟩ => by
    subst e
    simp only [D.pureL, Bool.and_eq_true] at p
    exact .cons (Rep.dp p.1 h1) (RepL.dp p.2 h2)
end
def D.okd (d : D) : Bool := d.pure && SeqAt.shaped d.py
def D.eqv (x y : D) : Bool := PyData.eqv x.py y.py
section
variable {T : Tb} {b : Bd} {own : List OW} {ds : List (Option SV)} {P : PSv}
theorem wr_eqD {x y : SV} {dx dy : D} (tx : Thw own x dx) (ty : Thw own y dy) (fx : dx.okd = true) (fy : dy.okd = true) (p : P (.d (.bl (dx.eqv dy))) own) : WR T b (rEqD T.K) own x y P := fun W vx vy ha rx ry Q q => by
  simp only [D.okd, Bool.and_eq_true] at fx fy
  exact ⟨_, _, Rep.dp fx.1 (tx.rep ha rx), Rep.dp fy.1 (ty.rep ha ry), fx.2, fy.2, q _ (.d (.bl (dx.eqv dy))) own W ha (Le.refl W) rfl p⟩
theorem wr_neD {x y : SV} {dx dy : D} (tx : Thw own x dx) (ty : Thw own y dy) (fx : dx.okd = true) (fy : dy.okd = true) (p : P (.d (.bl (!dx.eqv dy))) own) : WR T b (rNeD T.K) own x y P := fun W vx vy ha rx ry Q q => by
  simp only [D.okd, Bool.and_eq_true] at fx fy
  exact ⟨_, _, Rep.dp fx.1 (tx.rep ha rx), Rep.dp fy.1 (ty.rep ha ry), fx.2, fy.2, q _ (.d (.bl (!dx.eqv dy))) own W ha (Le.refl W) rfl p⟩

/-! ### isinstance -/
def D.tyN : D → String
  | .non => "NoneType" | .bl _ => "bool" | .int _ => "int" | .str _ => "str" | .lst _ => "list" | .tup _ => "tuple" | .obj _ _ => "object" | .dct _ _ => "dict"
def D.isO : D → Bool
  | .obj _ _ => true
  | _ => false
theorem Rep.tyx {H : Hp} {d : D} {v : V} (n : d.isO = false) (r : Rep T H d v) : TyX T.K H v (.type d.tyN) := by
  cases d with
  | non => have e : v = .non := r; subst e; exact .base .non
  | bl k => have e : v = .bl k := r; subst e; exact .base (.bl k)
  | int k => have e : v = .int k := r; subst e; exact .base (.int k)
  | str k => have e : v = .str k := r; subst e; exact .base (.str k)
  | lst xs =>
    obtain ⟨a, vs, rfl, hs, _⟩ := r
    exact .base (.lst hs)
  | tup xs =>
    obtain ⟨a, vs, rfl, hs, _⟩ := r
    rcases hs with (h | ⟨o, h⟩) | ⟨o, its, m, h, hc, _⟩
    · exact .base (.tup h)
    · exact .fTuple h
    · exact .kTuple h hc
  | obj c fs => cases n
  | dct ks vs =>
    obtain ⟨a, gs, rfl, hs, _⟩ := r
    exact .base (.dK hs)
theorem we_isi {ta : TE} {n : String} (h : WE T b ta own ds fun s o => ∃ d k, Thw o s d ∧ d.isO = false ∧ kitB d.tyN n = some k ∧ P (.d (.bl k)) o) : WE T b (tCB (rIsi T.K) (tCons ta (tCons (tC (.ty n)) tNil))) own ds P := fun W σ ha sl Q q => by
  refine h W σ ha sl _ fun v s o1 W1 ha1 l1 r1 ⟨d, k, t, f, e, p⟩ => ?_
  exact ⟨v, .ty n, .type d.tyN, .type n, k, rfl, .ty n, Rep.tyx f (t.rep ha1 r1), kit_ty e, q _ (.d (.bl k)) o1 W1 ha1 l1 rfl p⟩
theorem we_isi2 {ta : TE} {n m : String} (h : WE T b ta own ds fun s o => ∃ d k1 k2, Thw o s d ∧ d.isO = false ∧ kitB d.tyN n = some k1 ∧ kitB d.tyN m = some k2 ∧ P (.d (.bl (k1 || k2))) o) : WE T b (tCB (rIsiT T.K) (tCons ta (tCons (tTup (tCons (tC (.ty n)) (tCons (tC (.ty m)) tNil))) tNil))) own ds P := fun W σ ha sl Q q => by
  refine h W σ ha sl _ fun v s o1 W1 ha1 l1 r1 ⟨d, k1, k2, t, f, e1, e2, p⟩ => ?_
  refine ⟨sz_of (by show 2 ≤ 100000; decide), fun c hc => ?_⟩
  obtain ⟨ha2, l2⟩ := ha1.alloc (o := .tup [.ty n, .ty m]) hc
  refine ⟨v, c, [.ty n, .ty m], .type d.tyN, [.type n, .type m], k1 || k2, rfl, upd_same, .cons (.ty n) (.cons (.ty m) .nil), Rep.tyx f (Rep.mono (Ex.new hc) (t.rep ha1 r1)), ?_, q _ (.d (.bl (k1 || k2))) o1 _ ha2 (l1.trans l2) rfl p⟩
  refine kitAny_cons (kit_ty e1) (fun z => ?_) (fun z => by rw [z]; rfl)
  rw [z]
  refine kitAny_cons (kit_ty e2) (fun z => by rw [z]; rfl) (fun z => by rw [z]; rfl)
end
end Lo
end
section
set_option Elab.async false
set_option linter.all false
set_option autoImplicit false
set_option maxRecDepth 100000
set_option maxHeartbeats 1000000
namespace Lo
open PySem PySem.Spec PyProof.Rows L2 Evl

/-! ### what is walked -/
/-- the iterator hands out just these data -/
def ItOk (T : Tb) (b : Bd) (J : It) (W : Wd) (items : List D) : Prop :=
  ∀ (i : Nat) (W2 : Wd) (own2 : List OW), Le W W2 → HA T b W2 own2 →
    (∀ x, items[i]? = some x → J.go i W2.H ∧ ∀ v H', J.yld i W2.H v H' → ∃ W3, W3.H = H' ∧ HA T b W3 own2 ∧ Le W2 W3 ∧ Rep T W3.G x v) ∧ (i = items.length → J.stop i W2.H)
def WI (T : Tb) (b : Bd) (wi : TI) (own : List OW) (ds : List (Option SV)) (P : List D → List OW → Prop) : Prop :=
  ∀ (W : Wd) (σ : L2.St), HA T b W own → SlL T W σ ds → ∀ R : It → Hp → Prop, (∀ J items own' W', HA T b W' own' → Le W W' → ItOk T b J W' items → P items own' → R J W'.H) → wi σ W.H R
/-- what a target does with a datum -/
def WG (T : Tb) (b : Bd) (g : TG) (js : List Nat) (x : D) (own : List OW) (ds : List (Option SV)) (P : List OW → List (Option SV) → Prop) : Prop :=
  ∀ (W : Wd) (σ : L2.St) v, HA T b W own → SlL T W σ ds → Rep T W.G x v → ∀ Q : L2.St → Hp → Prop, (∀ σ' own' ds' W', HA T b W' own' → Le W W' → SlL T W' σ' ds' → σ'.length = σ.length → (∀ i, i ∉ js → σ'[i]? = σ[i]?) → P own' ds' → Q σ' W'.H) → g v σ W.H Q
section
variable {T : Tb} {b : Bd} {own : List OW} {ds : List (Option SV)}
theorem wg_name {j : Nat} {x : D} {P : List OW → List (Option SV) → Prop} (p : P own (ds.set j (some (.d x)))) : WG T b (gName j) [j] x own ds P := fun W σ v ha sl r Q q =>
  q _ own _ W ha (Le.refl W) (SlL.set (fun sv e => by cases e; exact r) j sl) (by simp) (fun i hi => by rw [List.getElem?_set_ne (fun z => hi (by simp [z]))]) p
theorem wg_tup2 {K : PySem.W.Frag} (hK : T.K = K) {j k : Nat} {x y : D} {P : List OW → List (Option SV) → Prop} (p : P own ((ds.set j (some (.d x))).set k (some (.d y)))) : WG T b (gTup K 2 (gCons (gName j) (gCons (gName k) gNil))) [j, k] (.tup [x, y]) own ds P := fun W σ v ha sl r Q q => by
  obtain ⟨a, vs, rfl, hs, v1, r1, rfl, h1, v2, r2, rfl, h2, rfl⟩ := r
  subst hK
  refine ⟨a, _, rfl, ex_t ha.gh hs, rfl, v1, [v2], rfl, v2, [], rfl, rfl, ?_⟩
  refine q _ own _ W ha (Le.refl W) (SlL.set (fun sv e => by cases e; exact h2) k (SlL.set (fun sv e => by cases e; exact h1) j sl)) (by simp) (fun i hi => ?_) p
  have n1 : j ≠ i := fun z => hi (by simp [z])
  have n2 : k ≠ i := fun z => hi (by simp [z])
  rw [List.getElem?_set_ne n2, List.getElem?_set_ne n1]
theorem wg_tup2L {K : PySem.W.Frag} (hK : T.K = K) {j k : Nat} {x y : D} {P : List OW → List (Option SV) → Prop} (p : P own ((ds.set j (some (.d x))).set k (some (.d y)))) : WG T b (gTup K 2 (gCons (gName j) (gCons (gName k) gNil))) [j, k] (.tup [x, y]) own ds P := wg_tup2 hK p
theorem wg_tup3 {K : PySem.W.Frag} (hK : T.K = K) {j k l : Nat} {x y z : D} {P : List OW → List (Option SV) → Prop} (p : P own (((ds.set j (some (.d x))).set k (some (.d y))).set l (some (.d z)))) : WG T b (gTup K 3 (gCons (gName j) (gCons (gName k) (gCons (gName l) gNil)))) [j, k, l] (.tup [x, y, z]) own ds P := fun W σ v ha sl r Q q => by
  obtain ⟨a, vs, rfl, hs, v1, r1, rfl, h1, v2, r2, rfl, h2, v3, r3, rfl, h3, rfl⟩ := r
  subst hK
  refine ⟨a, _, rfl, ex_t ha.gh hs, rfl, v1, [v2, v3], rfl, v2, [v3], rfl, v3, [], rfl, rfl, ?_⟩
  refine q _ own _ W ha (Le.refl W) (SlL.set (fun sv e => by cases e; exact h3) l (SlL.set (fun sv e => by cases e; exact h2) k (SlL.set (fun sv e => by cases e; exact h1) j sl))) (by simp) (fun i hi => ?_) p
  have n1 : j ≠ i := fun z => hi (by simp [z])
  have n2 : k ≠ i := fun z => hi (by simp [z])
  have n3 : l ≠ i := fun z => hi (by simp [z])
  rw [List.getElem?_set_ne n3, List.getElem?_set_ne n2, List.getElem?_set_ne n1]

/-- either a list or a tuple -/
def iSeq (K : PySem.W.Frag) (tl : TE) : TI := fun σ H R => tl σ H fun x H1 => (∃ a, x = .ref a ∧ (∃ xs, SqL K H1 a xs) ∧ R (Itl K a) H1) ∨ (∃ a, x = .ref a ∧ (∃ xs, SqT K H1 a xs) ∧ R (Itt K a) H1)
theorem pi_seq {X : Cx} {tg l : Expr} {tl : TE} (hl : PE X l tl) : PI X tg l (iSeq X.K tl) := by
  refine ⟨fun pins s σ H R I h => ?_⟩
  refine thn (hl.run pins s σ H _ I h) fun v s1 ⟨x, H1, I1, r1, q1⟩ => ?_
  rcases q1 with ⟨a, e, ⟨xs, hq⟩, q⟩ | ⟨a, e, ⟨xs, hq⟩, q⟩
  · subst e
    cases r1
    obtain ⟨its, rv, p, hz⟩ := I1.list hq
    refine wpAny_pyIter_list p.isList ?_
    refine ⟨s1.heap.objs.size, [s1.heap.objs.size], _, _, H1, rfl, I1.kept (t' := s1.toks) fun b o e => Heap.get?_push_of_some _ e, turn_list a _, ⟨_, Heap.get?_push_size _ rfl, rfl, rfl⟩, fun b hb => ?_, q⟩
    have e : b = s1.heap.objs.size := by simpa using hb
    subst e
    exact I1.fpOk (Nat.le_refl _) (I1.hok.fresh (Nat.le_refl _))
  · subst e
    cases r1
    obtain ⟨its, rv, p, hz⟩ := I1.tuple hq
    refine wpAny_pyIter_tuple (show s1.heap.IsTuple a its.toArray from p) ?_
    refine ⟨s1.heap.objs.size, [s1.heap.objs.size], _, _, H1, rfl, I1.kept (t' := s1.toks) fun b o e => Heap.get?_push_of_some _ e, turn_tuple a _, ⟨_, Heap.get?_push_size _ rfl, rfl, rfl⟩, fun b hb => ?_, q⟩
    have e : b = s1.heap.objs.size := by simpa using hb
    subst e
    exact I1.fpOk (Nat.le_refl _) (I1.hok.fresh (Nat.le_refl _))
theorem sql_inj {K : PySem.W.Frag} {G H : Hp} {a : Addr} {xs ys : List V} (P : ∀ {xs ys : List V}, SqL K H a xs → SqL K H a ys → xs = ys) (h : SqL K H a xs) (k : SqL K H a ys) : xs = ys := P h k
theorem itl_ok {W : Wd} {a : Addr} {vs : List V} {xs : List D} (hs : W.G a = some (.lst vs)) (r : RepL T W.G xs vs) : ItOk T b (Itl T.K a) W xs := fun i W2 own2 l ha => by
  have h2 : SqL T.K W2.H a vs := sq_of ((l.g.trans ha.gh) _ _ hs)
  refine ⟨fun x e => ?_, fun e => ⟨vs, h2, by rw [r.len, e]; exact Nat.le_refl _⟩⟩
  obtain ⟨v, ev, rv⟩ := r.get e
  refine ⟨⟨vs, v, h2, ev⟩, fun w H' ⟨eh, hw⟩ => ⟨W2, eh.symm, ha, Le.refl _, ?_⟩⟩
  have ew : w = v := Option.some.inj ((hw vs h2).symm.trans ev)
  rw [ew]
  exact Rep.mono l.g rv
theorem itt_ok {W : Wd} {a : Addr} {vs : List V} {xs : List D} (hs : SqT T.K W.G a vs) (r : RepL T W.G xs vs) : ItOk T b (Itt T.K a) W xs := fun i W2 own2 l ha => by
  have h2 : SqT T.K W2.H a vs := ex_t (l.g.trans ha.gh) hs
  refine ⟨fun x e => ?_, fun e => ⟨vs, h2, by rw [r.len, e]; exact Nat.le_refl _⟩⟩
  obtain ⟨v, ev, rv⟩ := r.get e
  refine ⟨⟨vs, v, h2, ev⟩, fun w H' ⟨eh, hw⟩ => ⟨W2, eh.symm, ha, Le.refl _, ?_⟩⟩
  have ew : w = v := Option.some.inj ((hw vs h2).symm.trans ev)
  rw [ew]
  exact Rep.mono l.g rv
theorem wi_seq {tl : TE} {P : List D → List OW → Prop} (h : WE T b tl own ds fun s o => ∃ xs, (s = .d (.lst xs) ∨ s = .d (.tup xs)) ∧ P xs o) : WI T b (iSeq T.K tl) own ds P := fun W σ ha sl R q => by
  refine h W σ ha sl _ fun v s o1 W1 ha1 l1 r1 ⟨xs, e, p⟩ => ?_
  rcases e with e | e
  · subst e
    obtain ⟨a, vs, rfl, hs, r⟩ := r1
    exact .inl ⟨a, rfl, ⟨vs, sq_of (ha1.gh _ _ hs)⟩, q _ xs o1 W1 ha1 l1 (itl_ok hs r) p⟩
  · subst e
    obtain ⟨a, vs, rfl, hs, r⟩ := r1
    exact .inr ⟨a, rfl, ⟨vs, ex_t ha1.gh hs⟩, q _ xs o1 W1 ha1 l1 (itt_ok hs r) p⟩
/-- an own list that is walked and frozen for that (it stays so) -/
def rngD (lo : Int) (n : Nat) : List D := (List.range n).map fun (i : Nat) => D.int (lo + (i : Int))
theorem rngD_get {lo : Int} {n i : Nat} {x : D} (e : (rngD lo n)[i]? = some x) : i < n ∧ x = .int (lo + (i : Int)) := by
  unfold rngD at e
  rw [List.getElem?_map] at e
  by_cases h : i < n
  · rw [List.getElem?_range h] at e
    exact ⟨h, (Option.some.inj e).symm⟩
  · rw [List.getElem?_eq_none (by simp; omega)] at e
    cases e
theorem rngD_len {lo : Int} {n : Nat} : (rngD lo n).length = n := by simp [rngD]
theorem itr_ok {W : Wd} {lo : Int} {n : Nat} : ItOk T b (Itr lo n) W (rngD lo n) := fun i W2 own2 l ha => by
  refine ⟨fun x e => ?_, fun e => by rw [e, rngD_len]; exact Nat.le_refl _⟩
  obtain ⟨h, rfl⟩ := rngD_get e
  exact ⟨h, fun w H' ⟨eh, hw⟩ => ⟨W2, eh.symm, ha, Le.refl _, hw⟩⟩
theorem wi_rng1 {ta : TA} {P : List D → List OW → Prop} (h : WA T b ta own ds fun ss o => ∃ n : Int, ss = [.d (.int n)] ∧ -(2 ^ 62) ≤ n ∧ n < 2 ^ 62 ∧ P (rngD 0 n.toNat) o) : WI T b (iRng1 ta) own ds P := fun W σ ha sl R q => by
  refine h W σ ha sl _ fun vs ss o1 W1 ha1 l1 r1 ⟨n, e, h1, h2, p⟩ => ?_
  subst e
  obtain ⟨v, r, rfl, hv, rfl⟩ := r1
  cases RpS.int hv
  exact ⟨n, rfl, h1, h2, q _ _ o1 W1 ha1 l1 itr_ok p⟩
theorem wi_rng2 {ta : TA} {P : List D → List OW → Prop} (h : WA T b ta own ds fun ss o => ∃ m n : Int, ss = [.d (.int m), .d (.int n)] ∧ -(2 ^ 62) ≤ m ∧ m < 2 ^ 62 ∧ -(2 ^ 62) ≤ n ∧ n < 2 ^ 62 ∧ P (rngD m (n - m).toNat) o) : WI T b (iRng2 ta) own ds P := fun W σ ha sl R q => by
  refine h W σ ha sl _ fun vs ss o1 W1 ha1 l1 r1 ⟨m, n, e, h1, h2, h3, h4, p⟩ => ?_
  subst e
  obtain ⟨v, r, rfl, hv, v2, r2, rfl, hv2, rfl⟩ := r1
  cases RpS.int hv
  cases RpS.int hv2
  exact ⟨m, n, rfl, ⟨h1, h2, h3, h4⟩, q _ _ o1 W1 ha1 l1 itr_ok p⟩
def signsD (z : PySem.Str) : List D := z.cps.toList.map fun c => .str ⟨#[c]⟩
theorem wi_str {te : TE} {P : List D → List OW → Prop} (h : WE T b te own ds fun s o => ∃ z, s = .d (.str z) ∧ P (signsD z) o) : WI T b (iStr te) own ds P := fun W σ ha sl R q => by
  refine h W σ ha sl _ fun v s o1 W1 ha1 l1 r1 ⟨z, e, p⟩ => ?_
  subst e
  cases RpS.str r1
  refine ⟨z, rfl, q _ _ o1 W1 ha1 l1 (fun i W2 own2 l ha => ⟨fun x e => ?_, fun e => ?_⟩) p⟩
  · unfold signsD at e
    rw [List.getElem?_map] at e
    cases g : z.cps.toList[i]? with
    | none => rw [g] at e; cases e
    | some c =>
      rw [g] at e
      have ex := (Option.some.inj e).symm
      subst ex
      have gc : z.cps[i]? = some c := by rw [← Array.getElem?_toList]; exact g
      refine ⟨(Array.getElem?_eq_some_iff.mp gc).1, fun w H' ⟨eh, c', hc, hw⟩ => ⟨W2, eh.symm, ha, Le.refl _, ?_⟩⟩
      have ec : c' = c := Option.some.inj (hc.symm.trans gc)
      rw [hw, ec]
      rfl
  · show z.cps.size ≤ i
    rw [e]
    simp [signsD]

/-! ### loops -/
/-- less is known: slots forgotten, own objects dropped from behind -/
inductive SlF (n : Nat) : List (Option SV) → List (Option SV) → Prop
  | nil : SlF n [] []
  | drop {x : Option SV} {xs ys : List (Option SV)} : SlF n xs ys → SlF n (x :: xs) (none :: ys)
  | keepd {d : D} {xs ys : List (Option SV)} : SlF n xs ys → SlF n (some (.d d) :: xs) (some (.d d) :: ys)
  | keepp {k : Nat} {xs ys : List (Option SV)} : k < n → SlF n xs ys → SlF n (some (.p k) :: xs) (some (.p k) :: ys)
structure Fg (o : List OW) (s : List (Option SV)) (o2 : List OW) (s2 : List (Option SV)) : Prop where
  own : o2 <+: o
  sl : SlF o2.length s s2
theorem SlF.sl {W : Wd} {n : Nat} : ∀ {xs ys : List (Option SV)} {σ : L2.St}, SlF n xs ys → SlL T W σ xs → SlL T ⟨W.G, W.H, W.as.take n⟩ σ ys
  | _, _, [], .nil, _ => rfl
  | _, _, [], .drop _, h => by cases h
  | _, _, [], .keepd _, h => by cases h
  | _, _, [], .keepp _ _, h => by cases h
  | _, _, _ :: _, .nil, ⟨s, r, e, _⟩ => by cases e
  | _, _, _ :: _, .drop f, ⟨s, r, e, h1, h2⟩ => by
    cases e
    exact ⟨none, _, rfl, (fun sv (e : (none : Option SV) = some sv) => nomatch e), SlF.sl f h2⟩
  | _, _, _ :: _, .keepd f, ⟨s, r, e, h1, h2⟩ => by
    cases e
    exact ⟨_, _, rfl, fun sv e => by
      obtain ⟨v, ev, hr⟩ := h1 sv e
      cases e
      exact ⟨v, ev, hr⟩, SlF.sl f h2⟩
  | _, _, _ :: _, .keepp hk f, ⟨s, r, e, h1, h2⟩ => by
    cases e
    refine ⟨_, _, rfl, fun sv e => ?_, SlF.sl f h2⟩
    obtain ⟨v, ev, hr⟩ := h1 sv e
    cases e
    obtain ⟨a, ea, e2⟩ := hr
    exact ⟨v, ev, a, by rw [List.getElem?_take_of_lt hk]; exact ea, e2⟩
theorem RpSL.takeN {W : Wd} {n : Nat} {xs : List SV} : ∀ {vs : List V}, (∀ x ∈ xs, ∀ k, x = .p k → k < n) → RpSL T W xs vs → RpSL T ⟨W.G, W.H, W.as.take n⟩ xs vs := by
  induction xs with
  | nil => intro vs _ h; exact h
  | cons x xs ih =>
    intro vs q ⟨v, r, e, h1, h2⟩
    refine ⟨v, r, e, ?_, ih (fun y hy => q y (by simp [hy])) h2⟩
    cases x with
    | d d => exact h1
    | p k =>
      obtain ⟨a, ea, e2⟩ := h1
      exact ⟨a, by rw [List.getElem?_take_of_lt (q _ (by simp) k rfl)]; exact ea, e2⟩
    | x a dx fs => exact h1
    | scr ns => exact h1
    | x0 a => exact h1
theorem RpS.takeOw {W : Wd} {n : Nat} {a : Addr} {o : OW} (h : Ow T b W a o) (np : (∀ xs, o = .lst xs → ∀ x ∈ xs, ∀ k, x = .p k → k < n) ∧ (∀ c fs, o = .ins c fs → ∀ x ∈ fs.map (·.2), ∀ k, x = .p k → k < n) ∧ (∀ kvs, o = .dct kvs → ∀ x ∈ kvs.map (·.2), ∀ k, x = .p k → k < n)) : Ow T b ⟨W.G, W.H, W.as.take n⟩ a o := by
  cases o with
  | ins c fs =>
    obtain ⟨g, h1, h2, dx, gs, e, en, r⟩ := h
    exact ⟨g, h1, h2, dx, gs, e, en, RpSL.takeN (np.2.1 c fs rfl) r⟩
  | dct kvs =>
    obtain ⟨g, h1, h2, gs, e, en, r⟩ := h
    exact ⟨g, h1, h2, gs, e, en, RpSL.takeN (np.2.2 kvs rfl) r⟩
  | ho f => exact h
  | lst xs =>
    obtain ⟨g, h1, h2, vs, e, r⟩ := h
    exact ⟨g, h1, h2, vs, e, RpSL.takeN (np.1 xs rfl) r⟩
  | hand => exact h
  | gone => exact h
/-- own lists hold no pointers to later ones -/
def OwP (n : Nat) (os : List OW) : Prop := ∀ o ∈ os, (∀ xs, o = .lst xs → ∀ x ∈ xs, ∀ k, x = .p k → k < n) ∧ (∀ c fs, o = .ins c fs → ∀ x ∈ fs.map (·.2), ∀ k, x = .p k → k < n) ∧ (∀ kvs, o = .dct kvs → ∀ x ∈ kvs.map (·.2), ∀ k, x = .p k → k < n)
theorem OwL.takeP {W : Wd} {n : Nat} : ∀ {as : List Addr} {os : List OW}, OwP n os → OwL T b W as os → OwL T b ⟨W.G, W.H, W.as.take n⟩ as os
  | [], _, _, h => h
  | x :: as, _, q, ⟨o, r, e, h1, h2⟩ => by
    subst e
    exact ⟨o, r, rfl, RpS.takeOw h1 (q o (by simp)), OwL.takeP (fun o' m => q o' (by simp [m])) h2⟩
theorem Fg.go {W : Wd} {o o2 : List OW} {s s2 : List (Option SV)} {σ : L2.St} (f : Fg o s o2 s2) (pp : OwP o2.length o2) (h : HA T b W o) (sl : SlL T W σ s) : HA T b ⟨W.G, W.H, W.as.take o2.length⟩ o2 ∧ SlL T ⟨W.G, W.H, W.as.take o2.length⟩ σ s2 := by
  refine ⟨⟨h.gh, h.bh, h.nn, h.nd.sublist (List.take_sublist _ _), ?_⟩, f.sl.sl sl⟩
  have e : o.take o2.length = o2 := by
    obtain ⟨t, rfl⟩ := f.own
    simp
  have := OwL.take o2.length h.ow
  rw [e] at this
  exact OwL.takeP pp this
theorem Fg.le {W0 W : Wd} {n : Nat} (l : Le W0 W) (h : W0.as.length ≤ n) : Le W0 ⟨W.G, W.H, W.as.take n⟩ := ⟨l.g, by
  obtain ⟨t, e⟩ := l.a
  rw [show W.as = W0.as ++ t from e.symm]
  rw [List.take_append]
  exact ⟨t.take (n - W0.as.length), by rw [List.take_of_length_le h]⟩⟩
/-- a for: what holds between two turns is told by states from which the turn starts -/
theorem ws_for {wi : TI} {g : TG} {js : List Nat} {tb : TS} {Φ : Po} (I : List D → Nat → List OW → List (Option SV) → Prop)
    (h : WI T b wi own ds fun items o => own.length ≤ o.length ∧ I items 0 o ds ∧ (∀ i x o' s', items[i]? = some x → I items i o' s' → OwP o'.length o' ∧ o.length ≤ o'.length ∧
        WG T b g js x o' s' fun o2 s2 => WS T b tb o2 s2 { nx := fun o3 s3 => ∃ o4 s4, Fg o3 s3 o4 s4 ∧ OwP o4.length o4 ∧ o.length ≤ o4.length ∧ I items (i + 1) o4 s4, ct := fun o3 s3 => ∃ o4 s4, Fg o3 s3 o4 s4 ∧ OwP o4.length o4 ∧ o.length ≤ o4.length ∧ I items (i + 1) o4 s4, bk := Φ.nx, rt := Φ.rt }) ∧
      (∀ o' s', I items items.length o' s' → Φ.nx o' s')) : WS T b (tFor wi g tb) own ds Φ := fun W σ ha sl D d => by
  refine h W σ ha sl _ fun J items o1 W1 ha1 l1 it ⟨hlen, i0, hs, hd⟩ => ?_
  have dm : ∀ (i : Nat) (W2 : Wd), Le W1 W2 → W1.as.length = o1.length := fun i W2 l => ha1.ow.len
  refine ⟨fun i m σ2 H2 => m = items.length - i ∧ i ≤ items.length ∧ ∃ W2 o2 s2, W2.H = H2 ∧ HA T b W2 o2 ∧ Le W1 W2 ∧ SlL T W2 σ2 s2 ∧ I items i o2 s2, ⟨items.length, by simp, Nat.zero_le _, W1, o1, ds, rfl, ha1, Le.refl _, sl.mono l1, i0⟩, ?_⟩
  rintro i m σ2 H2 ⟨rfl, hi, W2, o2, s2, rfl, ha2, l2, sl2, iv⟩
  by_cases hlt : i < items.length
  · obtain ⟨x, hx⟩ : ∃ x, items[i]? = some x := ⟨_, List.getElem?_eq_getElem hlt⟩
    obtain ⟨hgo, hy⟩ := (it i W2 o2 l2 ha2).1 x hx
    obtain ⟨pp, lo, hw⟩ := hs i x o2 s2 hx iv
    refine .inr ⟨hgo, fun σ' H' => ∃ W3 o4 s4, W3.H = H' ∧ HA T b W3 o4 ∧ Le W1 W3 ∧ SlL T W3 σ' s4 ∧ I items (i + 1) o4 s4, fun σ' H' ⟨W3, o4, s4, e, h4, l4, sl4, i4⟩ => ⟨items.length - (i + 1), by omega, rfl, hlt, W3, o4, s4, e, h4, l4, sl4, i4⟩, fun v H' yv => ?_⟩
    obtain ⟨W3, rfl, ha3, l3, rv⟩ := hy v H' yv
    refine hw W3 σ2 v ha3 (sl2.mono l3) rv _ fun σ4 o4 s4 W4 ha4 l4 sl4 _ _ hb => ?_
    have l14 : Le W1 W4 := (l2.trans l3).trans l4
    refine hb W4 σ4 ha4 sl4 _ ⟨fun σ5 o5 s5 W5 ha5 l5 sl5 ⟨o6, s6, f, pp6, lo6, i6⟩ => ?_, fun v s o W5 ha5 l5 r5 p => d.rt v s o W5 ha5 (l1.trans (l14.trans l5)) r5 p, fun σ5 o5 s5 W5 ha5 l5 sl5 p => d.nx σ5 o5 s5 W5 ha5 (l1.trans (l14.trans l5)) sl5 p, fun σ5 o5 s5 W5 ha5 l5 sl5 ⟨o6, s6, f, pp6, lo6, i6⟩ => ?_⟩
    · obtain ⟨h6, sl6⟩ := f.go pp6 ha5 sl5
      exact ⟨⟨W5.G, W5.H, W5.as.take o6.length⟩, o6, s6, rfl, h6, Fg.le (l14.trans l5) (by rw [ha1.ow.len]; exact lo6), sl6, i6⟩
    · obtain ⟨h6, sl6⟩ := f.go pp6 ha5 sl5
      exact ⟨⟨W5.G, W5.H, W5.as.take o6.length⟩, o6, s6, rfl, h6, Fg.le (l14.trans l5) (by rw [ha1.ow.len]; exact lo6), sl6, i6⟩
  · have e : i = items.length := by omega
    subst e
    exact .inl ⟨(it _ W2 o2 l2 ha2).2 rfl, d.nx σ2 o2 s2 W2 ha2 (l1.trans l2) sl2 (hd o2 s2 iv)⟩
/-- a while -/
theorem ws_while {c : TT} {tb : TS} {Φ : Po} (I : Nat → List OW → List (Option SV) → Prop) (m0 : Nat) (h0 : I m0 own ds)
    (h : ∀ m o s, I m o s → OwP o.length o ∧ own.length ≤ o.length ∧ WT T b c o s fun k o1 => (k = true → WS T b tb o1 s { nx := fun o3 s3 => ∃ m' o4 s4, m' < m ∧ Fg o3 s3 o4 s4 ∧ OwP o4.length o4 ∧ own.length ≤ o4.length ∧ I m' o4 s4, ct := fun o3 s3 => ∃ m' o4 s4, m' < m ∧ Fg o3 s3 o4 s4 ∧ OwP o4.length o4 ∧ own.length ≤ o4.length ∧ I m' o4 s4, bk := Φ.nx, rt := Φ.rt }) ∧ (k = false → Φ.nx o1 s)) : WS T b (tWhile c tb) own ds Φ := fun W σ ha sl D d => by
  refine ⟨fun m σ2 H2 => ∃ W2 o2 s2, W2.H = H2 ∧ HA T b W2 o2 ∧ Le W W2 ∧ SlL T W2 σ2 s2 ∧ I m o2 s2, ⟨m0, W, own, ds, rfl, ha, Le.refl _, sl, h0⟩, ?_⟩
  rintro m σ2 H2 ⟨W2, o2, s2, rfl, ha2, l2, sl2, iv⟩
  obtain ⟨pp, lo, hc⟩ := h m o2 s2 iv
  refine hc W2 σ2 ha2 sl2 _ fun k o3 W3 ha3 l3 ⟨ht, hf⟩ => ?_
  cases k with
  | true =>
    refine ⟨fun σ' H' => ∃ m', m' < m ∧ ∃ W3 o4 s4, W3.H = H' ∧ HA T b W3 o4 ∧ Le W W3 ∧ SlL T W3 σ' s4 ∧ I m' o4 s4, fun σ' H' x => x, ?_⟩
    refine ht rfl W3 σ2 ha3 (sl2.mono l3) _ ⟨fun σ5 o5 s5 W5 ha5 l5 sl5 ⟨m', o6, s6, lt, f, pp6, lo6, i6⟩ => ?_, fun v s o W5 ha5 l5 r5 p => d.rt v s o W5 ha5 (l2.trans (l3.trans l5)) r5 p, fun σ5 o5 s5 W5 ha5 l5 sl5 p => d.nx σ5 o5 s5 W5 ha5 (l2.trans (l3.trans l5)) sl5 p, fun σ5 o5 s5 W5 ha5 l5 sl5 ⟨m', o6, s6, lt, f, pp6, lo6, i6⟩ => ?_⟩
    · obtain ⟨h6, sl6⟩ := f.go pp6 ha5 sl5
      exact ⟨m', lt, ⟨W5.G, W5.H, W5.as.take o6.length⟩, o6, s6, rfl, h6, Fg.le (l2.trans (l3.trans l5)) (by rw [ha.ow.len]; exact lo6), sl6, i6⟩
    · obtain ⟨h6, sl6⟩ := f.go pp6 ha5 sl5
      exact ⟨m', lt, ⟨W5.G, W5.H, W5.as.take o6.length⟩, o6, s6, rfl, h6, Fg.le (l2.trans (l3.trans l5)) (by rw [ha.ow.len]; exact lo6), sl6, i6⟩
  | false => exact d.nx σ2 o3 s2 W3 ha3 (l2.trans l3) (sl2.mono l3) (hf rfl)
end
end Lo
end
section
set_option Elab.async false
set_option linter.all false
set_option autoImplicit false
set_option maxRecDepth 100000
set_option maxHeartbeats 1000000
namespace Lo
open PySem PySem.Spec PyProof.Rows L2 Evl

/-! ### comprehensions -/
def wipeD (ds : List (Option SV)) : List Nat → List (Option SV)
  | [] => ds
  | v :: vs => (wipeD ds vs).set v none
theorem SlL.setNone {T : Tb} {W : Wd} : ∀ {xs : List (Option V)} {ds : List (Option SV)} (i : Nat), SlL T W xs ds → SlL T W (xs.set i none) (ds.set i none)
  | [], ds, i, h => by
    have h' : ds = [] := h
    subst h'
    exact rfl
  | x :: xs, _, 0, ⟨s0, r, rfl, h1, h2⟩ => ⟨none, r, rfl, (fun sv (e : (none : Option SV) = some sv) => nomatch e), h2⟩
  | x :: xs, _, i + 1, ⟨s0, r, rfl, h1, h2⟩ => ⟨s0, r.set i none, rfl, h1, SlL.setNone i h2⟩
theorem SlL.wipe {T : Tb} {W : Wd} {σ : L2.St} {ds : List (Option SV)} (h : SlL T W σ ds) : ∀ vs : List Nat, SlL T W (wipe σ vs) (wipeD ds vs)
  | [] => h
  | v :: vs => SlL.setNone v (SlL.wipe h vs)
theorem wipe_get (σ : L2.St) : ∀ (vs : List Nat) (i : Nat), (wipe σ vs)[i]? = if i ∈ vs then (σ[i]?).map (fun _ => none) else σ[i]?
  | [], i => by simp [wipe]
  | v :: vs, i => by
    unfold wipe
    by_cases h : v = i
    · subst h
      rw [List.getElem?_set_self']
      rw [wipe_get σ vs v]
      by_cases m : v ∈ vs
      · simp [m]
        cases σ[v]? <;> rfl
      · simp [m]
        cases σ[v]? <;> rfl
    · rw [List.getElem?_set_ne h, wipe_get σ vs i]
      have : (i ∈ v :: vs) ↔ (i ∈ vs) := by simp [Ne.symm h]
      simp only [this]
theorem wipe_same {σ σ' : L2.St} {js vs : List Nat} (hj : ∀ j ∈ js, j ∈ vs) (hl : σ'.length = (wipe σ vs).length) (h : ∀ i, i ∉ js → σ'[i]? = (wipe σ vs)[i]?) : wipe σ' vs = wipe σ vs := by
  refine List.ext_getElem? fun i => ?_
  rw [wipe_get σ' vs i, wipe_get σ vs i]
  by_cases m : i ∈ vs
  · rw [if_pos m, if_pos m]
    have e : σ'.length = σ.length := by rw [hl, wipe_length]
    by_cases q : i < σ.length
    · rw [List.getElem?_eq_getElem q, List.getElem?_eq_getElem (by omega)]
      rfl
    · rw [List.getElem?_eq_none (by omega), List.getElem?_eq_none (by omega)]
  · rw [if_neg m, if_neg m]
    have := h i (fun z => m (hj i z))
    rw [this, wipe_get σ vs i, if_neg m]
section
variable {T : Tb} {b : Bd} {own : List OW} {ds : List (Option SV)} {P : PSv}
theorem HA.closeLst {W : Wd} {o : List OW} {acc : List D} {p : Addr} (h : HA T b W (o ++ [.lst (acc.map SV.d)])) (hp : W.as[o.length]? = some p) (pp : OwP o.length o) :
    ∃ W', W'.H = W.H ∧ HA T b W' o ∧ (∀ W0, Le W0 W → W0.as.length ≤ o.length → Le W0 W') ∧ Rep T W'.G (.lst acc) (.ref p) := by
  have ho : (o ++ [OW.lst (acc.map SV.d)])[o.length]? = some (.lst (acc.map SV.d)) := by simp
  obtain ⟨vs, e, h1, l1, r⟩ := h.freeze ho hp
  have es : (o ++ [OW.lst (acc.map SV.d)]).set o.length .gone = o ++ [.gone] := by simp
  rw [es] at h1
  refine ⟨⟨upd W.G p (.lst vs), W.H, W.as.take o.length⟩, rfl, ⟨h1.gh, h1.bh, h1.nn, h1.nd.sublist (List.take_sublist _ _), ?_⟩, fun W0 l hl => ?_, r⟩
  · have := OwL.take o.length h1.ow
    simp only [List.take_left'] at this
    exact OwL.takeP pp this
  · exact ⟨l.g.trans l1.g, by
      obtain ⟨t, e⟩ := l.a
      show W0.as <+: W.as.take o.length
      rw [show W.as = W0.as ++ t from e.symm, List.take_append]
      exact ⟨t.take (o.length - W0.as.length), by rw [List.take_of_length_le hl]⟩⟩
/-- [e for x in xs if t]: what is made so far is told by I -/
theorem we_lc {wi : TI} {g : TG} {js : List Nat} {tt : TT} {te : TE} {vs : List Nat} (hj : ∀ j ∈ js, j ∈ vs) (I : List D → Nat → List D → Prop)
    (h : WI T b wi own ds fun items o => own.length ≤ o.length ∧ OwP o.length o ∧ I items 0 [] ∧ items.length ≤ 100000 ∧ (∀ i x acc, items[i]? = some x → I items i acc → acc.length ≤ i →
        WG T b g js x (o ++ [.lst (acc.map SV.d)]) (wipeD ds vs) fun o2 s2 => WT T b tt o2 s2 fun k o3 => (k = true → WE T b te o3 s2 fun s o4 => ∃ d, s = .d d ∧ o4 = o ++ [.lst (acc.map SV.d)] ∧ I items (i + 1) (acc ++ [d])) ∧ (k = false → o3 = o ++ [.lst (acc.map SV.d)] ∧ I items (i + 1) acc)) ∧
      (∀ acc, I items items.length acc → acc.length ≤ items.length → P (.d (.lst acc)) o)) : WE T b (tLc wi g tt te vs) own ds P := fun W σ ha sl Q q => by
  refine h W σ ha sl _ fun J items o1 W1 ha1 l1 it ⟨hlen, pp, i0, hsz, hs, hd⟩ Dd hD => ?_
  have dl := ha1.ow.len
  obtain ⟨hA0, lA0⟩ := ha1.allocOwn (ss := ([] : List D).map SV.d) (vs := []) hD rfl
  have at0 : (W1.as ++ [Dd])[o1.length]? = some Dd := by rw [← dl]; simp
  refine ⟨fun i m H2 => m = items.length - i ∧ i ≤ items.length ∧ ∃ W2 acc, W2.H = H2 ∧ HA T b W2 (o1 ++ [.lst (acc.map SV.d)]) ∧ Le W1 W2 ∧ W2.as[o1.length]? = some Dd ∧ I items i acc ∧ acc.length ≤ i, ⟨items.length, by simp, Nat.zero_le _, _, [], rfl, hA0, lA0, at0, i0, Nat.le_refl _⟩, ?_⟩
  rintro i m H2 ⟨rfl, hi, W2, acc, rfl, ha2, l2, atD, iv, hal⟩
  by_cases hlt : i < items.length
  · obtain ⟨x, hx⟩ : ∃ x, items[i]? = some x := ⟨_, List.getElem?_eq_getElem hlt⟩
    obtain ⟨hgo, hy⟩ := (it i W2 _ l2 ha2).1 x hx
    have hw := hs i x acc hx iv hal
    refine .inr ⟨hgo, fun H' => ∃ W3 acc', W3.H = H' ∧ HA T b W3 (o1 ++ [.lst (acc'.map SV.d)]) ∧ Le W1 W3 ∧ W3.as[o1.length]? = some Dd ∧ I items (i + 1) acc' ∧ acc'.length ≤ i + 1, fun H' ⟨W3, acc', e, h4, l4, a4, i4, n4⟩ => ⟨items.length - (i + 1), by omega, rfl, hlt, W3, acc', e, h4, l4, a4, i4, n4⟩, fun v H' yv => ?_⟩
    obtain ⟨W3, rfl, ha3, l3, rv⟩ := hy v H' yv
    have sl2 : SlL T W3 (wipe σ vs) (wipeD ds vs) := (SlL.wipe (sl.mono l1) vs).mono (l2.trans l3)
    refine hw W3 _ v ha3 sl2 rv _ fun σ4 o4 s4 W4 ha4 l4 sl4 hl4 hk4 hb => ⟨wipe_same hj hl4 hk4, ?_⟩
    have l14 : Le W1 W4 := (l2.trans l3).trans l4
    have at4 : W4.as[o1.length]? = some Dd := prefix_get (l3.trans l4).a atD
    refine hb W4 σ4 ha4 sl4 _ fun k o5 W5 ha5 l5 ⟨hyes, hno⟩ => ?_
    cases k with
    | true =>
      refine hyes rfl W5 σ4 ha5 (sl4.mono l5) _ fun y s o6 W6 ha6 l6 r6 ⟨d, es, eo, i6⟩ => ?_
      subst es
      subst eo
      have at6 : W6.as[o1.length]? = some Dd := prefix_get (l5.trans l6).a at4
      have ho : (o1 ++ [OW.lst (acc.map SV.d)])[o1.length]? = some (.lst (acc.map SV.d)) := by simp
      obtain ⟨a', ea', g', b', n', vs', eh, rr⟩ := ha6.ow.get ho
      have z : a' = Dd := Option.some.inj (ea'.symm.trans at6)
      subst z
      have app : RpSL T W6 ((acc ++ [d]).map SV.d) (vs' ++ [y]) := by
        have key : ∀ {xs : List SV} {ws : List V}, RpSL T W6 xs ws → RpSL T W6 (xs ++ [.d d]) (ws ++ [y]) := by
          intro xs
          induction xs with
          | nil =>
            intro ws h
            have h' : ws = [] := h
            subst h'
            exact ⟨y, [], rfl, r6, rfl⟩
          | cons x xs ih =>
            intro ws ⟨v, r, e, h1, h2⟩
            subst e
            exact ⟨v, r ++ [y], rfl, h1, ih h2⟩
        rw [List.map_append]
        exact key rr
      obtain ⟨ha7, l7⟩ := ha6.setOwn ho at6 app
      have es : (o1 ++ [OW.lst (acc.map SV.d)]).set o1.length (.lst ((acc ++ [d]).map SV.d)) = o1 ++ [.lst ((acc ++ [d]).map SV.d)] := by simp
      rw [es] at ha7
      have nl : vs'.length = acc.length := by rw [RpSL.len rr, List.length_map]
      refine ⟨vs', eh, sz_lt (by omega), _, acc ++ [d], rfl, ha7, (l14.trans (l5.trans l6)).trans l7, at6, i6, by simp; omega⟩
    | false =>
      obtain ⟨eo, i6⟩ := hno rfl
      subst eo
      exact ⟨W5, acc, rfl, ha5, l14.trans l5, prefix_get l5.a at4, i6, by omega⟩
  · have e : i = items.length := by omega
    subst e
    refine .inl ⟨(it _ W2 _ l2 ha2).2 rfl, ?_⟩
    obtain ⟨W', eH, ha', lle, r⟩ := ha2.closeLst atD pp
    rw [← eH]
    exact q _ (.d (.lst acc)) o1 W' ha' (l1.trans (lle W1 l2 (by rw [dl]; exact Nat.le_refl _))) r (hd acc iv hal)
theorem wt_yes {P : Bool → List OW → Prop} (p : P true own) : WT T b tYes own ds P := fun W σ ha sl Q q => q true own W ha (Le.refl W) p
/-- the elements are a function of the items -/
theorem we_lcf {wi : TI} {g : TG} {js : List Nat} {te : TE} {vs : List Nat} (hj : ∀ j ∈ js, j ∈ vs) (f : D → D)
    (h : WI T b wi own ds fun items o => own.length ≤ o.length ∧ OwP o.length o ∧ items.length ≤ 100000 ∧ (∀ x acc, x ∈ items →
        WG T b g js x (o ++ [.lst acc]) (wipeD ds vs) fun o2 s2 => WE T b te o2 s2 fun s o4 => s = .d (f x) ∧ o4 = o ++ [.lst acc]) ∧ P (.d (.lst (items.map f))) o) : WE T b (tLc wi g tYes te vs) own ds P := by
  refine we_lc hj (fun items i acc => acc = (items.take i).map f) ?_
  intro W σ ha sl R q
  refine h W σ ha sl R fun J items o' W' ha' l' it ⟨h1, h2, h3, h4, h5⟩ => q J items o' W' ha' l' it ⟨h1, h2, by simp, h3, fun i x acc hx ea hl => ?_, fun acc ea hl => by rw [ea]; simpa using h5⟩
  intro W2 σ2 v ha2 sl2 r2 Q2 q2
  refine h4 x (acc.map SV.d) (List.mem_of_getElem? hx) W2 σ2 v ha2 sl2 r2 Q2 fun σ' own' ds' W'' a1 a2 a3 a4 a5 hb => q2 σ' own' ds' W'' a1 a2 a3 a4 a5 (wt_yes ⟨fun _ => hb.imp fun s o ⟨e1, e2⟩ => ⟨f x, e1, e2, ?_⟩, fun z => by cases z⟩)
  rw [ea, List.take_add_one, hx, List.map_append]
  rfl
end
end Lo
end
section
set_option Elab.async false
set_option linter.all false
set_option autoImplicit false
set_option maxRecDepth 100000
set_option maxHeartbeats 1000000
namespace Lo
open PySem PySem.Spec PyProof.Rows L2 Evl

section
variable {T : Tb} {b : Bd} {own : List OW} {ds : List (Option SV)} {P : PSv}
/-! ### calls of built-ins -/
/-- a value that needs no heap -/
theorem wc_val {r : List V → Hp → VK → Prop} {xs : List SV} {z : D} {vz : V} (hz : ∀ G, Rep T G z vz) (h : ∀ W vs, HA T b W own → RpSL T W xs vs → ∀ Q : VK, Q vz W.H → r vs W.H Q) (p : P (.d z) own) : WC T b r own xs P := fun W vs ha rx Q q =>
  h W vs ha rx Q (q vz (.d z) own W ha (Le.refl W) (hz _) p)
def D.lenN : D → Option Nat
  | .str s => if s.length ≤ 100000 then some s.length else none
  | .lst xs => some xs.length
  | .tup xs => some xs.length
  | _ => none
def rLen (K : PySem.W.Frag) : List V → Hp → VK → Prop := fun xs H Q => ∃ x n, xs = [x] ∧ LenV K x H n ∧ Q (.int n) H
theorem call_lenA {X : Cx} : CallR X (.builtin "len") (rLen X.K) := call_len
theorem wc_len {x : D} {n : Nat} (e : x.lenN = some n) (p : P (.d (.int n)) own) : WC T b (rLen T.K) own [.d x] P :=
  wc_val (z := .int n) (vz := .int n) (fun _ => rfl) (fun W vs ha ⟨v, r, ev, rx, er⟩ Q q => by
    subst ev
    have er' : r = [] := er
    subst er'
    refine ⟨v, n, rfl, ?_, q⟩
    cases x with
    | str s =>
      cases RpS.str rx
      have e' : (if s.length ≤ 100000 then some s.length else none) = some n := e
      by_cases h : s.length ≤ 100000
      · rw [if_pos h] at e'
        exact ⟨sz_of h, (Option.some.inj e').symm⟩
      · rw [if_neg h] at e'
        cases e'
    | lst xs =>
      obtain ⟨a, vs, rfl, hs, rr⟩ := rx
      exact .inl ⟨vs, sq_of (ha.gh _ _ hs), by rw [rr.len]; exact (Option.some.inj e).symm⟩
    | tup xs =>
      obtain ⟨a, vs, rfl, hs, rr⟩ := rx
      exact .inr ⟨vs, ex_t ha.gh hs, by rw [rr.len]; exact (Option.some.inj e).symm⟩
    | non => cases e
    | bl k => cases e
    | int i => cases e
    | obj c fs => cases e
    | dct ks vs => cases e) p
theorem wc_lenO {k : Nat} {ss : List SV} (ho : own[k]? = some (.lst ss)) (p : P (.d (.int ss.length)) own) : WC T b (rLen T.K) own [.p k] P :=
  wc_val (z := .int ss.length) (vz := .int ss.length) (fun _ => rfl) (fun W vs ha ⟨v, r, ev, ⟨a, ea, e⟩, er⟩ Q q => by
    subst ev
    have er' : r = [] := er
    subst er'
    subst e
    obtain ⟨a', ea', _, _, _, ws, eh, rr⟩ := ha.ow.get ho
    have z : a' = a := Option.some.inj (ea'.symm.trans ea)
    subst z
    exact ⟨.ref a', ss.length, rfl, .inl ⟨ws, sq_of eh, by rw [rr.len]⟩, q⟩) p
def rInt1 : List V → Hp → VK → Prop := fun xs H Q => (∃ i, xs = [.int i] ∧ Q (.int i) H) ∨ ∃ k, xs = [.bl k] ∧ Q (.int (if k then 1 else 0)) H
theorem call_intA {X : Cx} : CallR X (.type "int") rInt1 := call_int1
theorem wc_int {i : Int} (p : P (.d (.int i)) own) : WC T b rInt1 own [.d (.int i)] P :=
  wc_val (z := .int i) (vz := .int i) (fun _ => rfl) (fun W vs ha ⟨v, r, ev, rx, er⟩ Q q => by
    subst ev
    have er' : r = [] := er
    subst er'
    cases RpS.int rx
    exact .inl ⟨i, rfl, q⟩) p
/-- list(x) -/
def rListA (K : PySem.W.Frag) : List V → Hp → VK → Prop := fun xs H Q => ∃ p ys, xs = [.ref p] ∧ (SqL K H p ys ∨ SqT K H p ys) ∧ ∀ l, H l = none → Q (.ref l) (upd H l (.lst ys))
theorem call_listA {X : Cx} : CallR X (.type "list") (rListA X.K) := call_list_of
theorem wc_list {x : D} {xs : List D} (hx : x = .lst xs ∨ x = .tup xs) (p : P (.d (.lst xs)) own) : WC T b (rListA T.K) own [.d x] P := fun W vs ha ⟨v, r, ev, rx, er⟩ Q q => by
  subst ev
  have er' : r = [] := er
  subst er'
  rcases hx with rfl | rfl
  · obtain ⟨a, ws, rfl, hs, rr⟩ := rx
    refine ⟨a, ws, rfl, .inl (sq_of (ha.gh _ _ hs)), fun l hl => ?_⟩
    obtain ⟨ha2, l2⟩ := ha.alloc (o := .lst ws) hl
    exact q _ (.d (.lst xs)) own _ ha2 l2 ⟨l, ws, rfl, upd_same, RepL.mono l2.g rr⟩ p
  · obtain ⟨a, ws, rfl, hs, rr⟩ := rx
    refine ⟨a, ws, rfl, .inr (ex_t ha.gh hs), fun l hl => ?_⟩
    obtain ⟨ha2, l2⟩ := ha.alloc (o := .lst ws) hl
    exact q _ (.d (.lst xs)) own _ ha2 l2 ⟨l, ws, rfl, upd_same, RepL.mono l2.g rr⟩ p
/-- .. an own one -/
theorem wc_listO {x : D} {xs : List D} (hx : x = .lst xs ∨ x = .tup xs) (p : P (.p own.length) (own ++ [.lst (xs.map SV.d)])) : WC T b (rListA T.K) own [.d x] P := fun W vs ha ⟨v, r, ev, rx, er⟩ Q q => by
  subst ev
  have er' : r = [] := er
  subst er'
  have fin : ∀ (ws : List V) l, RepL T W.G xs ws → W.H l = none → Q (.ref l) (upd W.H l (.lst ws)) := fun ws l rr hl => by
    obtain ⟨ha2, l2⟩ := ha.allocOwn (ss := xs.map SV.d) (vs := ws) hl (RepL.sv rr)
    refine q _ (.p own.length) _ _ ha2 l2 ⟨l, ?_, rfl⟩ p
    rw [← ha.ow.len]
    simp
  rcases hx with rfl | rfl
  · obtain ⟨a, ws, rfl, hs, rr⟩ := rx
    exact ⟨a, ws, rfl, .inl (sq_of (ha.gh _ _ hs)), fun l hl => fin ws l rr hl⟩
  · obtain ⟨a, ws, rfl, hs, rr⟩ := rx
    exact ⟨a, ws, rfl, .inr (ex_t ha.gh hs), fun l hl => fin ws l rr hl⟩
/-- list, tuple of an own list: its items are handed on -/
theorem wc_listP {k : Nat} {ss : List SV} {xs : List D} (ho : own[k]? = some (.lst ss)) (hx : AllD ss xs) (p : P (.d (.lst xs)) own) : WC T b (rListA T.K) own [.p k] P := fun W vs ha ⟨v, r, ev, ⟨a, ea, e⟩, er⟩ Q q => by
  subst ev
  have er' : r = [] := er
  subst er'
  subst e
  obtain ⟨a', ea', _, _, _, ws, eh, rr⟩ := ha.ow.get ho
  have z : a' = a := Option.some.inj (ea'.symm.trans ea)
  subst z
  rw [hx.eq] at rr
  refine ⟨a', ws, rfl, .inl (sq_of eh), fun l hl => ?_⟩
  obtain ⟨ha2, l2⟩ := ha.alloc (o := .lst ws) hl
  exact q _ (.d (.lst xs)) own _ ha2 l2 ⟨l, ws, rfl, upd_same, RepL.mono l2.g (RpSL.ds rr)⟩ p
def rTupA (K : PySem.W.Frag) : List V → Hp → VK → Prop := fun xs H Q => ∃ p ys, xs = [.ref p] ∧ ((SqL K H p ys ∧ ∀ l, H l = none → Q (.ref l) (upd H l (.tup ys))) ∨ (SqT K H p ys ∧ Q (.ref p) H))
theorem call_tupA {X : Cx} : CallR X (.type "tuple") (rTupA X.K) := call_tuple_of
theorem wc_tup {x : D} {xs : List D} (hx : x = .lst xs ∨ x = .tup xs) (p : P (.d (.tup xs)) own) : WC T b (rTupA T.K) own [.d x] P := fun W vs ha ⟨v, r, ev, rx, er⟩ Q q => by
  subst ev
  have er' : r = [] := er
  subst er'
  rcases hx with rfl | rfl
  · obtain ⟨a, ws, rfl, hs, rr⟩ := rx
    refine ⟨a, ws, rfl, .inl ⟨sq_of (ha.gh _ _ hs), fun l hl => ?_⟩⟩
    obtain ⟨ha2, l2⟩ := ha.alloc (o := .tup ws) hl
    exact q _ (.d (.tup xs)) own _ ha2 l2 ⟨l, ws, rfl, st_of upd_same, RepL.mono l2.g rr⟩ p
  · obtain ⟨a, ws, rfl, hs, rr⟩ := rx
    exact ⟨a, ws, rfl, .inr ⟨ex_t ha.gh hs, q _ (.d (.tup xs)) own W ha (Le.refl W) ⟨a, ws, rfl, hs, rr⟩ p⟩⟩
theorem wc_tupP {k : Nat} {ss : List SV} {xs : List D} (ho : own[k]? = some (.lst ss)) (hx : AllD ss xs) (p : P (.d (.tup xs)) own) : WC T b (rTupA T.K) own [.p k] P := fun W vs ha ⟨v, r, ev, ⟨a, ea, e⟩, er⟩ Q q => by
  subst ev
  have er' : r = [] := er
  subst er'
  subst e
  obtain ⟨a', ea', _, _, _, ws, eh, rr⟩ := ha.ow.get ho
  have z : a' = a := Option.some.inj (ea'.symm.trans ea)
  subst z
  rw [hx.eq] at rr
  refine ⟨a', ws, rfl, .inl ⟨sq_of eh, fun l hl => ?_⟩⟩
  obtain ⟨ha2, l2⟩ := ha.alloc (o := .tup ws) hl
  exact q _ (.d (.tup xs)) own _ ha2 l2 ⟨l, ws, rfl, st_of upd_same, RepL.mono l2.g (RpSL.ds rr)⟩ p
/-- ints, texts, truths in a row -/
theorem RepL.ints {G : Hp} : ∀ {ns : List Int} {vs : List V}, RepL T G (ns.map D.int) vs → vs = ns.map V.int
  | [], _, h => h
  | n :: ns, _, ⟨v, r, e, h1, h2⟩ => by
    have e1 : v = .int n := h1
    rw [e, e1, RepL.ints h2]
    rfl
theorem RepL.ofInts {G : Hp} : ∀ (ns : List Int), RepL T G (ns.map D.int) (ns.map V.int)
  | [] => rfl
  | n :: ns => ⟨_, _, rfl, rfl, RepL.ofInts ns⟩
theorem RepL.bools {G : Hp} : ∀ {ns : List Bool} {vs : List V}, RepL T G (ns.map D.bl) vs → vs = ns.map V.bl
  | [], _, h => h
  | n :: ns, _, ⟨v, r, e, h1, h2⟩ => by
    have e1 : v = .bl n := h1
    rw [e, e1, RepL.bools h2]
    rfl
theorem RepL.strs {G : Hp} : ∀ {ns : List PySem.Str} {vs : List V}, RepL T G (ns.map D.str) vs → vs = ns.map V.str
  | [], _, h => h
  | n :: ns, _, ⟨v, r, e, h1, h2⟩ => by
    have e1 : v = .str n := h1
    rw [e, e1, RepL.strs h2]
    rfl
theorem wc_sorted {ns : List Int} (p : ∀ ns' : List Int, ns'.Perm ns → ns'.Pairwise (· ≤ ·) → P (.d (.lst (ns'.map D.int))) own) : WC T b (rSortedI T.K) own [.d (.lst (ns.map D.int))] P := fun W vs ha ⟨v, r, ev, rx, er⟩ Q q => by
  subst ev
  have er' : r = [] := er
  subst er'
  obtain ⟨a, ws, rfl, hs, rr⟩ := rx
  have ew := RepL.ints rr
  subst ew
  refine ⟨a, ns, rfl, sq_of (ha.gh _ _ hs), fun ns' l pe pw hl => ?_⟩
  obtain ⟨ha2, l2⟩ := ha.alloc (o := .lst (ns'.map V.int)) hl
  exact q _ (.d (.lst (ns'.map D.int))) own _ ha2 l2 ⟨l, _, rfl, upd_same, RepL.ofInts ns'⟩ (p ns' pe pw)
theorem wc_all {bs : List Bool} (p : P (.d (.bl (bs.all id))) own) : WC T b (rAll T.K) own [.d (.lst (bs.map D.bl))] P :=
  wc_val (z := .bl (bs.all id)) (vz := .bl (bs.all id)) (fun _ => rfl) (fun W vs ha ⟨v, r, ev, rx, er⟩ Q q => by
    subst ev
    have er' : r = [] := er
    subst er'
    obtain ⟨a, ws, rfl, hs, rr⟩ := rx
    have ew := RepL.bools rr
    subst ew
    exact ⟨a, bs, rfl, sq_of (ha.gh _ _ hs), q⟩) p
theorem wc_any {bs : List Bool} (p : P (.d (.bl (bs.any id))) own) : WC T b (rAny T.K) own [.d (.lst (bs.map D.bl))] P :=
  wc_val (z := .bl (bs.any id)) (vz := .bl (bs.any id)) (fun _ => rfl) (fun W vs ha ⟨v, r, ev, rx, er⟩ Q q => by
    subst ev
    have er' : r = [] := er
    subst er'
    obtain ⟨a, ws, rfl, hs, rr⟩ := rx
    have ew := RepL.bools rr
    subst ew
    exact ⟨a, bs, rfl, sq_of (ha.gh _ _ hs), q⟩) p
/-- list(range(..)) -/
theorem we_listRg {ta : TE} (h : WE T b ta own ds fun s o => ∃ n : Int, s = .d (.int n) ∧ 0 ≤ n ∧ n ≤ 1000000 ∧ P (.d (.lst (rngD 0 n.toNat))) o) : WE T b (tLstRg (tRg1 ta)) own ds P := fun W σ ha sl Q q => by
  refine h W σ ha sl _ fun v s o1 W1 ha1 l1 r1 ⟨n, e, h0, h1, p⟩ => ?_
  subst e
  cases RpS.int r1
  refine ⟨n, rfl, RgOk.of_le (by omega) (by omega) (by omega) h0, fun l hl => ?_⟩
  obtain ⟨ha2, l2⟩ := ha1.alloc (o := .lst (rgV 0 n)) hl
  refine q _ (.d (.lst (rngD 0 n.toNat))) o1 _ ha2 (l1.trans l2) ⟨l, _, rfl, upd_same, ?_⟩ p
  have e1 : rngD 0 n.toNat = ((List.range n.toNat).map fun i : Nat => (0 + (i : Int))).map D.int := by
    unfold rngD
    rw [List.map_map]
    rfl
  have e2 : rgV 0 n = ((List.range n.toNat).map fun i : Nat => (0 + (i : Int))).map V.int := by
    unfold rgV
    rw [List.map_map, show (n - 0).toNat = n.toNat by simp]
    rfl
  rw [e1, e2]
  exact RepL.ofInts _

/-! ### methods -/
def rJoin (K : PySem.W.Frag) : V → List V → Hp → VK → Prop := fun x xs H Q => ∃ a p, ∃ ys : List PySem.Str, x = .str a ∧ xs = [.ref p] ∧ (SqL K H p (ys.map V.str) ∨ SqT K H p (ys.map V.str)) ∧
      (ys.map (·.length)).sum + ys.length * a.length ≤ 16777216 ∧ Q (.str (Txt.join a ys)) H
theorem pe_joinA {X : Cx} {o e : Expr} {to te : TE} {apos pos : Pos} (ho : PE X o to) (he : PE X e te) (hs : starEach [e] X.env = [(false, eval e X.env)] := by rfl) (hbase : attributeBase o "join" X.env (eval o X.env) = eval o X.env := by rfl) (hline : (apos.endLine == pos.line) = true := by rfl) :
    PE X (.Call (.Attribute o "join" apos) [e] [] pos) (tM1 (rJoin X.K) to te) := pe_join ho he hs hbase hline
theorem we_join {to te : TE} (h : WE T b to own ds fun s o => ∃ a, s = .d (.str a) ∧ WE T b te o ds fun s2 o2 => ∃ ys : List PySem.Str, (s2 = .d (.lst (ys.map D.str)) ∨ s2 = .d (.tup (ys.map D.str))) ∧ (ys.map (·.length)).sum + ys.length * a.length ≤ 16777216 ∧ P (.d (.str (Txt.join a ys))) o2) : WE T b (tM1 (rJoin T.K) to te) own ds P := fun W σ ha sl Q q => by
  refine h W σ ha sl _ fun v s o1 W1 ha1 l1 r1 ⟨a, e, h2⟩ => ?_
  subst e
  cases RpS.str r1
  refine ⟨⟨a, rfl⟩, h2 W1 σ ha1 (sl.mono l1) _ fun v2 s2 o2 W2 ha2 l2 r2 ⟨ys, e, z, p⟩ => ?_⟩
  have fin := q (.str (Txt.join a ys)) (.d (.str (Txt.join a ys))) o2 W2 ha2 (l1.trans l2) rfl p
  rcases e with rfl | rfl
  · obtain ⟨c, ws, rfl, hs, rr⟩ := r2
    have ew := RepL.strs rr
    subst ew
    exact ⟨a, c, ys, rfl, rfl, .inl (sq_of (ha2.gh _ _ hs)), z, fin⟩
  · obtain ⟨c, ws, rfl, hs, rr⟩ := r2
    have ew := RepL.strs rr
    subst ew
    exact ⟨a, c, ys, rfl, rfl, .inr (ex_t ha2.gh hs), z, fin⟩
/-- a method of an own list -/
def WM (T : Tb) (b : Bd) (r : V → List V → Hp → VK → Prop) (own : List OW) (k : Nat) (ss : List SV) (P : PSv) : Prop :=
  ∀ (W : Wd) a vs, HA T b W own → W.as[k]? = some a → RpSL T W ss vs → ∀ Q : VK, (∀ v s own' W', HA T b W' own' → Le W W' → RpS T W' s v → P s own' → Q v W'.H) → r (.ref a) vs W.H Q
theorem we_bm {r : V → List V → Hp → VK → Prop} {to : TE} {ta : TA} (h : WE T b to own ds fun s o => ∃ k ss, s = .p k ∧ o[k]? = some (.lst ss) ∧ WA T b ta o ds fun xs o2 => WM T b r o2 k xs P) : WE T b (tBM T.K "list" r to ta) own ds P := fun W σ ha sl Q q => by
  refine h W σ ha sl _ fun v s o1 W1 ha1 l1 r1 ⟨k, ss, e, ho, h2⟩ => ?_
  subst e
  obtain ⟨a, ea, rfl⟩ := r1
  obtain ⟨a', ea', _, _, _, ws, eh, rr⟩ := ha1.ow.get ho
  have z : a' = a := Option.some.inj (ea'.symm.trans ea)
  subst z
  refine ⟨.inl ⟨rfl, ws, sq_of eh⟩, h2 W1 σ ha1 (sl.mono l1) _ fun vs xs o2 W2 ha2 l2 r2 wm => ?_⟩
  exact wm W2 a' vs ha2 (prefix_get l2.a ea) r2 Q fun v s o3 W3 ha3 l3 r3 p => q v s o3 W3 ha3 ((l1.trans l2).trans l3) r3 p
theorem we_bm0 {r : V → List V → Hp → VK → Prop} {to : TE} (h : WE T b to own ds fun s o => ∃ k ss, s = .p k ∧ o[k]? = some (.lst ss) ∧ WM T b r o k [] P) : WE T b (tBM0 T.K "list" r to) own ds P := fun W σ ha sl Q q => by
  refine h W σ ha sl _ fun v s o1 W1 ha1 l1 r1 ⟨k, ss, e, ho, wm⟩ => ?_
  subst e
  obtain ⟨a, ea, rfl⟩ := r1
  obtain ⟨a', ea', _, _, _, ws, eh, rr⟩ := ha1.ow.get ho
  have z : a' = a := Option.some.inj (ea'.symm.trans ea)
  subst z
  exact ⟨.inl ⟨rfl, ws, sq_of eh⟩, wm W1 a' [] ha1 ea rfl Q fun v s o3 W3 ha3 l3 r3 p => q v s o3 W3 ha3 (l1.trans l3) r3 p⟩
theorem RpSL.snoc {W : Wd} {s : SV} {v : V} (h : RpS T W s v) : ∀ {ss : List SV} {vs : List V}, RpSL T W ss vs → RpSL T W (ss ++ [s]) (vs ++ [v])
  | [], vs, r => by
    have r' : vs = [] := r
    subst r'
    exact ⟨v, [], rfl, h, rfl⟩
  | x :: ss, _, ⟨w, r, rfl, h1, h2⟩ => ⟨w, r ++ [v], rfl, h1, RpSL.snoc h h2⟩
theorem RpSL.dropLast {W : Wd} : ∀ {ss : List SV} {vs : List V}, RpSL T W ss vs → RpSL T W ss.dropLast vs.dropLast
  | [], vs, r => by
    have r' : vs = [] := r
    subst r'
    exact rfl
  | [x], _, ⟨w, r, rfl, h1, h2⟩ => by
    have r' : r = [] := h2
    subst r'
    exact rfl
  | x :: y :: ss, _, ⟨w, r, e, h1, h2⟩ => by
    obtain ⟨w2, r2, e2, h3, h4⟩ := id h2
    subst e2
    subst e
    exact ⟨w, _, rfl, h1, RpSL.dropLast h2⟩
theorem RpSL.erase {W : Wd} : ∀ {ss : List SV} {vs : List V} (k : Nat), RpSL T W ss vs → RpSL T W (ss.eraseIdx k) (vs.eraseIdx k)
  | [], vs, k, r => by
    have r' : vs = [] := r
    subst r'
    exact rfl
  | x :: ss, _, 0, ⟨w, r, rfl, h1, h2⟩ => h2
  | x :: ss, _, k + 1, ⟨w, r, rfl, h1, h2⟩ => ⟨w, _, rfl, h1, RpSL.erase k h2⟩
theorem RpSL.setAt {W : Wd} {s : SV} {v : V} (h : RpS T W s v) : ∀ {ss : List SV} {vs : List V} (k : Nat), RpSL T W ss vs → RpSL T W (ss.set k s) (vs.set k v)
  | [], vs, k, r => by
    have r' : vs = [] := r
    subst r'
    exact rfl
  | x :: ss, _, 0, ⟨w, r, rfl, h1, h2⟩ => ⟨v, r, rfl, h, h2⟩
  | x :: ss, _, k + 1, ⟨w, r, rfl, h1, h2⟩ => ⟨w, _, rfl, h1, RpSL.setAt h k h2⟩
theorem wm_append {k : Nat} {ss : List SV} {x : SV} (ho : own[k]? = some (.lst ss)) (hl : ss.length < 100000) (p : P (.d .non) (own.set k (.lst (ss ++ [x])))) : WM T b rAppend own k [x] P := fun W a vs ha ea ⟨v, r, ev, rx, er⟩ Q q => by
  subst ev
  have er' : r = [] := er
  subst er'
  obtain ⟨a', ea', _, _, _, ws, eh, rr⟩ := ha.ow.get ho
  have z : a' = a := Option.some.inj (ea'.symm.trans ea)
  subst z
  obtain ⟨ha2, l2⟩ := ha.setOwn ho ea (RpSL.snoc rx rr)
  exact ⟨a', ws, v, rfl, rfl, eh, sz_lt (by rw [rr.len]; exact hl), q _ (.d .non) _ _ ha2 l2 rfl p⟩
theorem wm_pop {k : Nat} {ss : List SV} {x : SV} (ho : own[k]? = some (.lst ss)) (e : ss[ss.length - 1]? = some x) (p : P x (own.set k (.lst ss.dropLast))) : WM T b rPop own k [] P := fun W a vs ha ea rx Q q => by
  have er' : vs = [] := rx
  subst er'
  obtain ⟨a', ea', _, _, _, ws, eh, rr⟩ := ha.ow.get ho
  have z : a' = a := Option.some.inj (ea'.symm.trans ea)
  subst z
  obtain ⟨ha2, l2⟩ := ha.setOwn ho ea (RpSL.dropLast rr)
  obtain ⟨v, ev, rv⟩ := rr.get e
  exact ⟨a', ws, v, rfl, rfl, eh, by rw [rr.len]; exact ev, q v x _ _ ha2 l2 (RpS.mono l2 rv) p⟩
theorem seqIndex_nat {i n : Nat} (h : i < n) : seqIndex? (i : Int) n = some i := by
  have := (ixN_seq (n := n) (i := (i : Int)) (j := i) (by unfold ixN; rw [if_pos (by omega), if_pos (by omega)]; simp)).1
  exact this
theorem wm_popAt {k : Nat} {ss : List SV} {i : Nat} {x : SV} (ho : own[k]? = some (.lst ss)) (e : ss[i]? = some x) (hl : ss.length ≤ 100000) (p : P x (own.set k (.lst (ss.eraseIdx i)))) : WM T b rPopAt own k [.d (.int i)] P := fun W a vs ha ea ⟨v, r, ev, rx, er⟩ Q q => by
  subst ev
  have er' : r = [] := er
  subst er'
  cases RpS.int rx
  obtain ⟨a', ea', _, _, _, ws, eh, rr⟩ := ha.ow.get ho
  have z : a' = a := Option.some.inj (ea'.symm.trans ea)
  subst z
  obtain ⟨ha2, l2⟩ := ha.setOwn ho ea (RpSL.erase i rr)
  obtain ⟨v, ev, rv⟩ := rr.get e
  have hi : i < ss.length := (List.getElem?_eq_some_iff.mp e).1
  exact ⟨a', ws, i, i, v, rfl, rfl, eh, by omega, by omega, by rw [rr.len]; exact seqIndex_nat hi, ev, q v x _ _ ha2 l2 (RpS.mono l2 rv) p⟩
/-- xs[i] = e on an own list -/
theorem ws_sub {Φ : Po} {te to ti : TE} (h : WE T b te own ds fun x o1 => WE T b to o1 ds fun s o2 => ∃ k, s = .p k ∧ WE T b ti o2 ds fun y o3 => ∃ (i : Int) (j : Nat) (ss : List SV), y = .d (.int i) ∧ o3[k]? = some (.lst ss) ∧ ixN ss.length i = some j ∧ Φ.nx (o3.set k (.lst (ss.set j x))) ds) : WS T b (tAsg te (gSub to ti rSetL)) own ds Φ := fun W σ ha sl D d => by
  refine h W σ ha sl _ fun v x o1 W1 ha1 l1 r1 h1 => ?_
  refine h1 W1 σ ha1 (sl.mono l1) _ fun v2 s o2 W2 ha2 l2 r2 ⟨k, e, h2⟩ => ?_
  subst e
  obtain ⟨a, ea, rfl⟩ := r2
  refine h2 W2 σ ha2 (sl.mono (l1.trans l2)) _ fun v3 y o3 W3 ha3 l3 r3 ⟨i, j, ss, e, ho, hj, p⟩ => ?_
  subst e
  cases RpS.int r3
  have ea3 := prefix_get l3.a ea
  obtain ⟨a', ea', _, _, _, ws, eh, rr⟩ := ha3.ow.get ho
  have z : a' = a := Option.some.inj (ea'.symm.trans ea3)
  subst z
  obtain ⟨ha4, l4⟩ := ha3.setOwn ho ea3 (RpSL.setAt (RpS.mono (l2.trans l3) r1) j rr)
  refine ⟨a', ws, i, j, rfl, rfl, eh, by rw [rr.len]; exact hj, ?_⟩
  exact d.nx σ _ ds _ ha4 (((l1.trans l2).trans l3).trans l4) (sl.mono (((l1.trans l2).trans l3).trans l4)) p

/-! ### slices -/
def WO (T : Tb) (b : Bd) (to : TO) (own : List OW) (ds : List (Option SV)) (P : Option Int → List OW → Prop) : Prop :=
  ∀ (W : Wd) (σ : L2.St), HA T b W own → SlL T W σ ds → ∀ Q : Option Int → Hp → Prop, (∀ k own' W', HA T b W' own' → Le W W' → P k own' → Q k W'.H) → to σ W.H Q
theorem wo_none {P : Option Int → List OW → Prop} (p : P none own) : WO T b tNoPart own ds P := fun W σ ha sl Q q => q none own W ha (Le.refl W) p
theorem wo_some {P : Option Int → List OW → Prop} {te : TE} (h : WE T b te own ds fun s o => ∃ i, s = .d (.int i) ∧ P (some i) o) : WO T b (tPart te) own ds P := fun W σ ha sl Q q => by
  refine h W σ ha sl _ fun v s o W1 ha1 l1 r1 ⟨i, e, p⟩ => ?_
  subst e
  exact ⟨i, r1, q (some i) o W1 ha1 l1 p⟩
def cutD {α : Type} (xs : List α) (lo hi : Option Int) : List α := (xs.drop (HT.sIx xs.length 0 lo)).take (HT.sIx xs.length xs.length hi - HT.sIx xs.length 0 lo)
theorem RepL.drop {G : Hp} : ∀ {xs : List D} {vs : List V} (n : Nat), RepL T G xs vs → RepL T G (xs.drop n) (vs.drop n)
  | _, _, 0, h => h
  | [], vs, n + 1, h => by
    have h' : vs = [] := h
    subst h'
    exact rfl
  | x :: xs, _, n + 1, ⟨v, r, rfl, h1, h2⟩ => RepL.drop n h2
theorem RepL.take {G : Hp} : ∀ {xs : List D} {vs : List V} (n : Nat), RepL T G xs vs → RepL T G (xs.take n) (vs.take n)
  | _, _, 0, h => rfl
  | [], vs, n + 1, h => by
    have h' : vs = [] := h
    subst h'
    exact rfl
  | x :: xs, _, n + 1, ⟨v, r, rfl, h1, h2⟩ => ⟨v, r.take n, rfl, h1, RepL.take n h2⟩
theorem RepL.cut {G : Hp} {xs : List D} {vs : List V} (h : RepL T G xs vs) (lo hi : Option Int) : RepL T G (cutD xs lo hi) (cutV vs lo hi) := by
  unfold cutD cutV
  rw [h.len]
  exact (h.drop _).take _
def rSlAny (K : PySem.W.Frag) : V → Option Int → Option Int → Hp → VK → Prop := fun x lo hi H Q => rSlL K x lo hi H Q ∨ rSlA K x lo hi H Q ∨ rSlS x lo hi H Q
theorem sl_any {X : Cx} : SlR X (rSlAny X.K) := by
  intro pins s σ H x v vl vu lo hi sl Q I rx hs pl pu h
  rcases h with h | h | h
  · exact sl_list pins s σ H x v vl vu lo hi sl Q I rx hs pl pu h
  · exact sl_tupA pins s σ H x v vl vu lo hi sl Q I rx hs pl pu h
  · exact sl_str pins s σ H x v vl vu lo hi sl Q I rx hs pl pu h
theorem we_sl {te : TE} {tl th : TO} (h : WE T b te own ds fun s o => WO T b tl o ds fun lo o1 => WO T b th o1 ds fun hi o2 =>
    (∃ xs, s = .d (.lst xs) ∧ P (.d (.lst (cutD xs lo hi))) o2) ∨ (∃ xs, s = .d (.tup xs) ∧ P (.d (.tup (cutD xs lo hi))) o2) ∨ (∃ z, s = .d (.str z) ∧ z.length ≤ 100000 ∧ P (.d (.str (cutS z lo hi))) o2)) : WE T b (tSl (rSlAny T.K) te tl th) own ds P := fun W σ ha sl Q q => by
  refine h W σ ha sl _ fun v s o1 W1 ha1 l1 r1 h1 => ?_
  refine h1 W1 σ ha1 (sl.mono l1) _ fun lo o2 W2 ha2 l2 h2 => ?_
  refine h2 W2 σ ha2 (sl.mono (l1.trans l2)) _ fun hi o3 W3 ha3 l3 h3 => ?_
  have r3 := RpS.mono (l2.trans l3) r1
  rcases h3 with ⟨xs, e, p⟩ | ⟨xs, e, p⟩ | ⟨z, e, hz, p⟩
  · subst e
    obtain ⟨a, ws, rfl, hs, rr⟩ := r3
    refine .inl ⟨a, ws, rfl, sq_of (ha3.gh _ _ hs), fun c hc => ?_⟩
    obtain ⟨ha4, l4⟩ := ha3.alloc (o := .lst (cutV ws lo hi)) hc
    exact q _ (.d (.lst (cutD xs lo hi))) _ _ ha4 (((l1.trans l2).trans l3).trans l4) ⟨c, _, rfl, upd_same, RepL.mono l4.g (rr.cut lo hi)⟩ p
  · subst e
    obtain ⟨a, ws, rfl, hs, rr⟩ := r3
    refine .inr (.inl ⟨a, ws, rfl, ex_t ha3.gh hs, fun ⟨e1, e2⟩ => ?_, fun _ c hc => ?_⟩)
    · have e : cutD xs lo hi = xs := by
        unfold cutD
        rw [rr.len] at e1 e2
        rw [e1, e2]
        simp
      rw [e] at p
      exact q _ (.d (.tup xs)) _ W3 ha3 ((l1.trans l2).trans l3) ⟨a, ws, rfl, hs, rr⟩ p
    · obtain ⟨ha4, l4⟩ := ha3.alloc (o := .tup (cutV ws lo hi)) hc
      exact q _ (.d (.tup (cutD xs lo hi))) _ _ ha4 (((l1.trans l2).trans l3).trans l4) ⟨c, _, rfl, st_of upd_same, RepL.mono l4.g (rr.cut lo hi)⟩ p
  · subst e
    cases RpS.str r3
    exact .inr (.inr ⟨z, rfl, sz_of hz, q _ (.d (.str (cutS z lo hi))) _ W3 ha3 ((l1.trans l2).trans l3) rfl p⟩)
/-- [*xs, ..] -/
theorem wa_star {P : List SV → List OW → Prop} {te : TE} {tr : TA} (h : WE T b te own ds fun s o => ∃ xs, (s = .d (.lst xs) ∨ s = .d (.tup xs)) ∧ WA T b tr o ds fun ss o2 => P (xs.map SV.d ++ ss) o2) : WA T b (StX.tStar T.K te tr) own ds P := fun W σ ha sl Q q => by
  refine h W σ ha sl _ fun v s o1 W1 ha1 l1 r1 ⟨xs, e, h1⟩ => ?_
  have app : ∀ {W2 : Wd} {xs : List D} {ss : List SV} {vs ws : List V}, RepL T W2.G xs vs → RpSL T W2 ss ws → RpSL T W2 (xs.map SV.d ++ ss) (vs ++ ws) := by
    intro W2 xs
    induction xs with
    | nil =>
      intro ss vs ws a1 a2
      have a1' : vs = [] := a1
      subst a1'
      exact a2
    | cons x xs ih =>
      intro ss vs ws ⟨v, r, e, a1, a2⟩ a3
      subst e
      exact ⟨v, r ++ ws, rfl, a1, ih a2 a3⟩
  rcases e with rfl | rfl
  · obtain ⟨a, ws, rfl, hs, rr⟩ := r1
    refine ⟨a, ws, rfl, .inr (sq_of (ha1.gh _ _ hs)), h1 W1 σ ha1 (sl.mono l1) _ fun vs ss o2 W2 ha2 l2 r2 p => ?_⟩
    exact q _ _ o2 W2 ha2 (l1.trans l2) (app (RepL.mono l2.g rr) r2) p
  · obtain ⟨a, ws, rfl, hs, rr⟩ := r1
    refine ⟨a, ws, rfl, .inl (ex_t ha1.gh hs), h1 W1 σ ha1 (sl.mono l1) _ fun vs ss o2 W2 ha2 l2 r2 p => ?_⟩
    exact q _ _ o2 W2 ha2 (l1.trans l2) (app (RepL.mono l2.g rr) r2) p
end
end Lo
end
section
set_option Elab.async false
set_option linter.all false
set_option autoImplicit false
set_option maxRecDepth 100000
set_option maxHeartbeats 1000000
namespace Lo
open PySem PySem.Spec PyProof.Rows L2 Evl

section
variable {T : Tb} {b : Bd} {own : List OW} {ds : List (Option SV)} {P : PSv}
theorem lookup_names {α β : Type} {f : PySem.Str} : ∀ {gs : List (PySem.Str × α)} {fs : List (PySem.Str × β)}, gs.map (·.1) = fs.map (·.1) → (gs.lookup f = none ↔ fs.lookup f = none)
  | [], [], _ => by simp
  | [], _ :: _, h => by simp at h
  | _ :: _, [], h => by simp at h
  | (n, x) :: gs, (m, y) :: fs, h => by
    simp only [List.map_cons, List.cons.injEq] at h
    obtain ⟨e, h⟩ := h
    subst e
    by_cases q : f = n
    · subst q
      simp [List.lookup]
    · have q' : (f == n) = false := by simpa using q
      simp only [List.lookup, q']
      exact lookup_names h
/-- which field of a class -/
def fldAt : List PySem.Str → List D → PySem.Str → Option D
  | n :: ns, d :: ds, f => if f = n then some d else fldAt ns ds f
  | _, _, _ => none
theorem fld_lookup {H : Hp} {f : PySem.Str} {d : D} : ∀ {ns : List PySem.Str} {fs : List D} {gs : List (PySem.Str × V)}, gs.map (·.1) = ns → RepL T H fs (gs.map (·.2)) → fldAt ns fs f = some d → ∃ v, gs.lookup f = some v ∧ Rep T H d v
  | [], fs, gs, e, r, h => by simp [fldAt] at h
  | n :: ns, [], gs, e, r, h => by simp [fldAt] at h
  | n :: ns, x :: fs, [], e, r, h => by simp at e
  | n :: ns, x :: fs, (m, v) :: gs, e, ⟨w, rr, ew, h1, h2⟩, h => by
    simp only [List.map_cons, List.cons.injEq] at e ew
    obtain ⟨e1, e2⟩ := e
    obtain ⟨ew1, ew2⟩ := ew
    subst e1
    subst ew1
    unfold fldAt at h
    by_cases q : f = m
    · subst q
      rw [if_pos rfl] at h
      have := Option.some.inj h
      subst this
      exact ⟨v, by simp [List.lookup], h1⟩
    · rw [if_neg q] at h
      have q' : (f == m) = false := by simpa using q
      obtain ⟨v', ev, rv⟩ := fld_lookup e2 (ew2 ▸ h2) h
      exact ⟨v', by simp [List.lookup, q', ev], rv⟩
/-- o.f of an instance that stands for good -/
theorem we_fld {ta : TE} {f : PySem.Str} (h : WE T b ta own ds fun s o => ∃ c fs d, s = .d (.obj c fs) ∧ Cls T.K (T.cls c) ∧ NoAttr T.K (T.cls c) f ∧ fldAt (T.fld c) fs f = some d ∧ P (.d d) o) : WE T b (tFld T.K ta f) own ds P := fun W σ ha sl Q q => by
  refine h W σ ha sl _ fun v s o1 W1 ha1 l1 r1 ⟨c, fs, d, e, hc, hn, hf, p⟩ => ?_
  subst e
  obtain ⟨a, dx, gs, rfl, ho, en, rr⟩ := r1
  obtain ⟨v, ev, rv⟩ := fld_lookup en rr hf
  exact ⟨a, T.cls c, dx, gs, v, rfl, ha1.gh _ _ ho, hc, hn, ev, q v (.d d) o1 W1 ha1 l1 rv p⟩
def fldS : List (PySem.Str × SV) → PySem.Str → Option SV
  | (n, s) :: r, f => if f = n then some s else fldS r f
  | [], _ => none
theorem fldS_lookup {W : Wd} {f : PySem.Str} {s : SV} : ∀ {fs : List (PySem.Str × SV)} {gs : List (PySem.Str × V)}, gs.map (·.1) = fs.map (·.1) → RpSL T W (fs.map (·.2)) (gs.map (·.2)) → fldS fs f = some s → ∃ v, gs.lookup f = some v ∧ RpS T W s v
  | [], gs, e, r, h => by simp [fldS] at h
  | (n, x) :: fs, [], e, r, h => by simp at e
  | (n, x) :: fs, (m, v) :: gs, e, ⟨w, rr, ew, h1, h2⟩, h => by
    simp only [List.map_cons, List.cons.injEq] at e ew
    obtain ⟨e1, e2⟩ := e
    obtain ⟨ew1, ew2⟩ := ew
    subst e1
    subst ew1
    unfold fldS at h
    by_cases q : f = m
    · subst q
      rw [if_pos rfl] at h
      have := Option.some.inj h
      subst this
      exact ⟨v, by simp [List.lookup], h1⟩
    · rw [if_neg q] at h
      have q' : (f == m) = false := by simpa using q
      obtain ⟨v', ev, rv⟩ := fldS_lookup e2 (ew2 ▸ h2) h
      exact ⟨v', by simp [List.lookup, q', ev], rv⟩
/-- .. that is being made -/
theorem we_fldO {ta : TE} {f : PySem.Str} (h : WE T b ta own ds fun s o => ∃ k c fs x, s = .p k ∧ o[k]? = some (.ins c fs) ∧ Cls T.K (T.cls c) ∧ NoAttr T.K (T.cls c) f ∧ fldS fs f = some x ∧ P x o) : WE T b (tFld T.K ta f) own ds P := fun W σ ha sl Q q => by
  refine h W σ ha sl _ fun v s o1 W1 ha1 l1 r1 ⟨k, c, fs, x, e, ho, hc, hn, hf, p⟩ => ?_
  subst e
  obtain ⟨a, ea, rfl⟩ := r1
  obtain ⟨a', ea', _, _, _, dx, gs, eh, en, rr⟩ := ha1.ow.get ho
  have z : a' = a := Option.some.inj (ea'.symm.trans ea)
  subst z
  obtain ⟨v, ev, rv⟩ := fldS_lookup en rr hf
  exact ⟨a', T.cls c, dx, gs, v, rfl, eh, hc, hn, ev, q v x o1 W1 ha1 l1 rv p⟩
theorem putF_new {f : PySem.Str} {v : V} : ∀ {gs : List (PySem.Str × V)}, f ∉ gs.map (·.1) → putF f v gs = gs ++ [(f, v)]
  | [], _ => rfl
  | (n, x) :: gs, h => by
    simp only [List.map_cons, List.mem_cons, not_or] at h
    have q : ¬ n = f := fun z => h.1 z.symm
    have ih := putF_new (v := v) h.2
    first
      | (show (if n = f then (n, v) :: gs else (n, x) :: putF f v gs) = _; rw [if_neg q, ih]; rfl)
      | (show (if f = n then (n, v) :: gs else (n, x) :: putF f v gs) = _; rw [if_neg h.1, ih]; rfl)
      | (unfold putF; simp [q, h.1, ih])
theorem HA.setIns {W : Wd} (h : HA T b W own) {k : Nat} {a : Addr} {c : Nat} {fs : List (PySem.Str × SV)} {f : PySem.Str} {x : SV} {v : V} (ho : own[k]? = some (.ins c fs)) (ea : W.as[k]? = some a) (hf : f ∉ fs.map (·.1)) (rv : RpS T W x v) {dx : Addr} {gs : List (PySem.Str × V)} (eh : W.H a = some (.ins (T.cls c) dx gs)) (en : gs.map (·.1) = fs.map (·.1)) (rr : RpSL T W (fs.map (·.2)) (gs.map (·.2))) :
    HA T b ⟨W.G, upd W.H a (.ins (T.cls c) dx (gs ++ [(f, v)])), W.as⟩ (own.set k (.ins c (fs ++ [(f, x)]))) ∧ Le W ⟨W.G, upd W.H a (.ins (T.cls c) dx (gs ++ [(f, v)])), W.as⟩ := by
  obtain ⟨a', ea', g, bb, hN, _⟩ := h.ow.get ho
  have z : a' = a := Option.some.inj (ea'.symm.trans ea)
  subst z
  have l : Le W ⟨W.G, upd W.H a' (.ins (T.cls c) dx (gs ++ [(f, v)])), W.as⟩ := ⟨Ex.refl _, List.prefix_refl _⟩
  have ne : ∀ {H : Hp} {x : Addr} {o : HO}, H a' = none → H x = some o → x ≠ a' := fun {H x o} q w z => by
    subst z
    rw [q] at w
    cases w
  have how : Ow T b ⟨W.G, upd W.H a' (.ins (T.cls c) dx (gs ++ [(f, v)])), W.as⟩ a' (.ins c (fs ++ [(f, x)])) := by
    refine ⟨g, bb, hN, dx, _, upd_same, by simp [en], ?_⟩
    rw [List.map_append, List.map_append]
    exact RpSL.snoc (RpS.mono l rv) (RpSL.mono l rr)
  refine ⟨⟨fun x o q => (upd_ne (ne g q)).trans (h.gh x o q), fun x o q => (upd_ne (ne bb q)).trans (h.bh x o q), fun x n => ?_, h.nd, OwL.set l how ea h.nd (fun c _ z => ⟨upd_ne z, id⟩) h.ow⟩, l⟩
  have z : x ≠ a' := fun z => hN (z ▸ n)
  exact ⟨(h.nn x n).1, fun q => (h.nn x n).2 ((upd_ne z).symm.trans q)⟩
/-- self.f = e of an instance that is being made; self is the 0-th own object -/
theorem ws_fld {Φ : Po} {ta tv : TE} {f : PySem.Str} (h : WE T b tv own ds fun x o1 => WE T b ta o1 ds fun s o => ∃ k c fs, s = .p k ∧ o[k]? = some (.ins c fs) ∧ Cls T.K (T.cls c) ∧ NoAttr T.K (T.cls c) f ∧ f ∉ fs.map (·.1) ∧ fs.length < 900 ∧ Φ.nx (o.set k (.ins c (fs ++ [(f, x)]))) ds) : WS T b (sFld T.K ta tv f) own ds Φ := fun W σ ha sl D d => by
  refine h W σ ha sl _ fun v x o1 W1 ha1 l1 r1 h1 => ?_
  refine h1 W1 σ ha1 (sl.mono l1) _ fun v2 s o2 W2 ha2 l2 r2 ⟨k, c, fs, e, ho, hc, hn, hf, hz, p⟩ => ?_
  subst e
  obtain ⟨a, ea, rfl⟩ := r2
  obtain ⟨a', ea', _, _, _, dx, gs, eh, en, rr⟩ := ha2.ow.get ho
  have z : a' = a := Option.some.inj (ea'.symm.trans ea)
  subst z
  have lg : gs.length = fs.length := by simpa using congrArg List.length en
  obtain ⟨ha3, l3⟩ := ha2.setIns ho ea hf (RpS.mono l2 r1) eh en rr
  refine ⟨a', T.cls c, dx, gs, rfl, eh, hc, hn, by omega, ?_⟩
  rw [putF_new (by rw [en]; exact hf)]
  exact d.nx σ _ ds _ ha3 ((l1.trans l2).trans l3) (sl.mono ((l1.trans l2).trans l3)) p

/-! ### a class is called -/
/-- the promise of an __init__: F tells of the whole instance -/
def PostI (T : Tb) (c : Nat) (x : Addr) (G0 H : Hp) (Q : VK) : D → Prop := fun d => ∃ fs, d = .obj c fs ∧ ∀ G' H' gs dx, Ex G0 G' → Ex G' H' → (∀ y o, y ≠ x → H y = some o → H' y = some o) → (∀ y, H y ≠ none → G0 y = none → G' y = none) → G' x = none →
  H' x = some (.ins (T.cls c) dx gs) → gs.map (·.1) = T.fld c → RepL T G' fs (gs.map (·.2)) → Q .non H'
def PostXI (T : Tb) (x : Addr) (H : Hp) (E : XK) : Er → Prop := fun e => ∀ dx H', (∀ y o, y ≠ x → H y = some o → H' y = some o) → (H dx = none ∨ dx = x) → H' dx = some (.xd e.fs) → E (.ref (T.cls e.c)) (some dx) H'
def SpI (T : Tb) (c : Nat) (F : DF) : Sp := fun vs H Q E => ∃ x dx G0 ds ws, vs = .ref x :: ws ∧ H x = some (.ins (T.cls c) dx []) ∧ G0 x = none ∧ Ex G0 H ∧ RepL T G0 ds ws ∧ F ds (PostI T c x G0 H Q) (PostXI T x H E)
theorem repL_app {G : Hp} : ∀ {xs ys : List D} {vs ws : List V}, RepL T G xs vs → RepL T G ys ws → RepL T G (xs ++ ys) (vs ++ ws) := by
  intro xs
  induction xs with
  | nil =>
    intro ys vs ws h1 h2
    have h1' : vs = [] := h1
    subst h1'
    exact h2
  | cons x xs ih =>
    intro ys vs ws ⟨v, r, e, h1, h2⟩ h3
    subst e
    exact ⟨v, r ++ ws, rfl, h1, ih h2 h3⟩
/-- what a call of a class comes to; W's error is wished for by Y -/
theorem make_core {c : Nat} {F : DF} {E : XK} {W1 : Wd} {o : List OW} {xs : List D} {vs : List V} {Q : VK} {X : Er → Prop} (ha : HA T b W1 o) (r : RepL T W1.G xs vs) (mon : ∀ {xs R R' Y Y'}, F xs R Y → (∀ d, R d → R' d) → (∀ e, Y e → Y' e) → F xs R' Y') {R : D → Prop}
    (f : F xs R X) (hq : ∀ d v W', HA T b W' o → Le W1 W' → RpS T W' (.d d) v → R d → Q v W'.H) (hx : ∀ e dx H', Ex W1.H H' → W1.H dx = none → H' dx = some (.xd e.fs) → X e → E (.ref (T.cls e.c)) (some dx) H') (ob : ∀ d, R d → ∃ fs, d = .obj c fs)
    {x dx : Addr} (nx : W1.H x = none) (nd : W1.H dx = none) (ne : dx ≠ x) : SpI T c F (.ref x :: vs) (upd (upd W1.H dx (.own x)) x (.ins (T.cls c) dx [])) (fun v H2 => v = .non ∧ Q (.ref x) H2) E := by
  have gx : W1.G x = none := fresh_back ha.gh nx
  have e0 : Ex W1.H (upd (upd W1.H dx (.own x)) x (.ins (T.cls c) dx [])) := (Ex.new nd).mut nx
  have keep : ∀ {y o}, W1.H y = some o → y ≠ x := fun {y o} h z => by
    subst z
    rw [nx] at h
    cases h
  refine ⟨x, dx, W1.G, xs, vs, rfl, upd_same, gx, ha.gh.trans e0, r, mon f (fun d rd => ?_) fun e xe ddx H' k n hf => ?_⟩
  · obtain ⟨fs, rfl⟩ := ob d rd
    refine ⟨fs, rfl, fun G' H' gs dx g gh k hg gx' hx' hn' rr => ⟨rfl, ?_⟩⟩
    have eG : Ex G' (upd G' x (.ins (T.cls c) dx gs)) := Ex.new gx'
    have hh : Ex W1.H H' := fun y o h => k y o (keep h) (e0 y o h)
    have gh2 : Ex (upd G' x (.ins (T.cls c) dx gs)) H' := fun y o h => by
      by_cases z : y = x
      · subst z
        rw [upd_same] at h
        rw [hx', h]
      · rw [upd_ne z] at h
        exact gh y o h
    obtain ⟨h2, l2⟩ := ha.call (g.trans eG) gh2 hh (fun y n1 n2 => by
      have z : y ≠ x := fun z => n1 (z ▸ nx)
      rw [upd_ne z]
      refine hg y ?_ n2
      cases q : W1.H y with
      | none => exact absurd q n1
      | some o =>
        rw [e0 y o q]
        exact fun z => by cases z)
    have rp : RpS T ⟨upd G' x (.ins (T.cls c) dx gs), H', W1.as⟩ (.d (.obj c fs)) (.ref x) := ⟨x, dx, gs, rfl, upd_same, hn', RepL.mono eG rr⟩
    exact hq _ _ _ h2 l2 rp rd
  · refine hx e ddx H' (fun y o h => k y o (keep h) (e0 y o h)) ?_ hf xe
    rcases n with n | rfl
    · cases q : W1.H ddx with
      | none => rfl
      | some o =>
        have := e0 _ _ q
        rw [n] at this
        cases this
    · exact nx
theorem we_make {c : Nat} {C : Addr} {F : DF} {dvs : List V} {dd : List D} {E : XK} {X : Er → Prop} {ta : TA} (hC : T.cls c = C) (hx : XOk T b E X) (hd : ∀ G, RepL T G dd dvs)
    (h : WA T b ta own ds fun ss o => ∃ xs, AllD ss xs ∧ F (xs ++ dd) (fun d => (∃ fs, d = .obj c fs) ∧ P (.d d) o) X) (mon : ∀ {xs R R' Y Y'}, F xs R Y → (∀ d, R d → R' d) → (∀ e, Y e → Y' e) → F xs R' Y') : WE T b (tMake C (SpI T c F) dvs E ta) own ds P := fun W σ ha sl Q q => by
  subst hC
  refine h W σ ha sl _ fun vs ss o1 W1 ha1 l1 r1 ⟨xs, e, f⟩ x dx nx nd ne => ?_
  rw [e.eq] at r1
  have r := RpSL.ds r1
  exact make_core (F := F) (xs := xs ++ dd) ha1 (repL_app r (hd _)) mon f (fun d v W' h' l' r' rd => q v (.d d) o1 W' h' (l1.trans l') r' rd.2) (fun e dx H' k n hf xe => hx e dx H' (ha1.bh.trans k) (fresh_B ha1 n) hf xe) (fun d rd => rd.1) nx nd ne
/-- a property of an own class, read -/
theorem we_prop {C : Addr} {F : DF} {E : XK} {X : Er → Prop} {ta : TE} (hx : XOk T b E X)
    (h : WE T b ta own ds fun s o => ∃ c fs, s = .d (.obj c fs) ∧ T.cls c = C ∧ F [.obj c fs] (fun d => P (.d d) o) X) (mon : ∀ {xs R R' Y Y'}, F xs R Y → (∀ d, R d → R' d) → (∀ e, Y e → Y' e) → F xs R' Y') : WE T b (tProp C (SpP T F) [] E ta) own ds P := fun W σ ha sl Q q => by
  refine h W σ ha sl _ fun v s o1 W1 ha1 l1 r1 ⟨c, fs, e, hC, f⟩ => ?_
  subst e
  have r0 := r1
  obtain ⟨a, dx, gs, rfl, ho, en, rr⟩ := r1
  refine ⟨a, dx, gs, rfl, hC ▸ ha1.gh _ _ ho, W1.G, [.obj c fs], ha1.gh, ⟨_, _, rfl, r0, rfl⟩, mon f (fun d p v G' H' g gh hh hg rv => ?_) fun e y dx H' hh hn hf => ?_⟩
  · obtain ⟨ha2, l2⟩ := ha1.call g gh hh hg
    exact q v (.d d) o1 ⟨G', H', W1.as⟩ ha2 (l1.trans l2) rv p
  · exact hx e dx H' (ha1.bh.trans hh) (fresh_B ha1 hn) hf y
theorem we_meth {C : Addr} {m : PySem.Str} {F : DF} {dvs : List V} {dd : List D} {E : XK} {X : Er → Prop} {ta : TE} {tt : TA} (hx : XOk T b E X) (hd : ∀ G, RepL T G dd dvs)
    (h : WE T b ta own ds fun s o => ∃ c fs, s = .d (.obj c fs) ∧ T.cls c = C ∧ m ∉ T.fld c ∧ WA T b tt o ds fun ss o2 => ∃ xs, AllD ss xs ∧ F (.obj c fs :: (xs ++ dd)) (fun d => P (.d d) o2) X) (mon : ∀ {xs R R' Y Y'}, F xs R Y → (∀ d, R d → R' d) → (∀ e, Y e → Y' e) → F xs R' Y') : WE T b (tMeth C m (SpP T F) dvs E ta tt) own ds P := fun W σ ha sl Q q => by
  refine h W σ ha sl _ fun v s o1 W1 ha1 l1 r1 ⟨c, fs, e, hC, hm, h2⟩ => ?_
  subst e
  have r0 := r1
  obtain ⟨a, dx, gs, rfl, ho, en, rr⟩ := r1
  have lk : gs.lookup m = none := by
    have key : ∀ {l : List (PySem.Str × V)}, m ∉ l.map (·.1) → l.lookup m = none := by
      intro l
      induction l with
      | nil => intro _; rfl
      | cons p l ih =>
        intro h
        obtain ⟨n, x⟩ := p
        simp only [List.map_cons, List.mem_cons, not_or] at h
        have q' : (m == n) = false := by simpa using h.1
        simp only [List.lookup, q']
        exact ih h.2
    exact key (by rw [en]; exact hm)
  refine ⟨a, dx, gs, rfl, hC ▸ ha1.gh _ _ ho, lk, h2 W1 σ ha1 (sl.mono l1) _ fun vs ss o2 W2 ha2 l2 r2 ⟨xs, e, f⟩ => ?_⟩
  rw [e.eq] at r2
  have r := RpSL.ds r2
  refine ⟨W2.G, .obj c fs :: (xs ++ dd), ha2.gh, ⟨_, _, rfl, Rep.mono l2.g r0, repL_app r (hd _)⟩, mon f (fun d p v G' H' g gh hh hg rv => ?_) fun e y dx H' hh hn hf => ?_⟩
  · obtain ⟨ha3, l3⟩ := ha2.call g gh hh hg
    exact q v (.d d) o2 ⟨G', H', W2.as⟩ ha3 ((l1.trans l2).trans l3) rv p
  · exact hx e dx H' (ha2.bh.trans hh) (fresh_B ha2 hn) hf y

/-! ### errors -/
/-- raise C(..): its own __init__ makes the attributes F tells -/
def SpX (T : Tb) (c : Nat) (F : List D → List (PySem.Str × V)) (pre : List D → Prop) : Sp := fun vs H Q E => ∃ (a : Addr) (ds : List D) (ws : List V), vs = .ref a :: ws ∧ H a = some (exo a (T.cls c) none) ∧ RepL T H ds ws ∧ pre ds ∧
  ∀ d H', H d = none → (∀ y o, y ≠ a → H y = some o → H' y = some o) → H' a = some (exo a (T.cls c) (some d)) → H' d = some (exd d (F ds)) → Q .non H'
theorem ws_raise {Φ : Po} {c : Nat} {C : Addr} {F : List D → List (PySem.Str × V)} {pre : List D → Prop} {E : XK} {X : Er → Prop} {ta : TA} (hC : T.cls c = C) (hx : XOk T b E X) (h : WA T b ta own ds fun ss o => ∃ xs, AllD ss xs ∧ xs.length ≤ 900 ∧ pre xs ∧ X ⟨c, F xs⟩) :
    WS T b (fun _ σ H => tMkO C (SpX T c F pre) [] ta σ H fun cls d H' => E cls d H') own ds Φ := fun W σ ha sl D d => by
  subst hC
  refine h W σ ha sl _ fun vs ss o1 W1 ha1 l1 r1 ⟨xs, e, hl, hp, x⟩ => ?_
  rw [e.eq] at r1
  have r := RpSL.ds r1
  refine ⟨by rw [r.len]; omega, fun a na => ⟨a, xs, vs, by simp, upd_same, RepL.mono (ha1.gh.trans (Ex.new na)) r, hp, fun d' H' nd k e1 e2 => ?_⟩⟩
  have nda : d' ≠ a := fun z => by
    rw [z, upd_same] at nd
    cases nd
  have nd' : W1.H d' = none := by
    rw [upd_ne nda] at nd
    exact nd
  refine ⟨rfl, d', F xs, e1, e2, nd', hx ⟨c, F xs⟩ d' _ (fun y o q => ?_) (fresh_B ha1 nd') upd_same x⟩
  have q1 := ha1.bh y o q
  have n1 : y ≠ d' := fun z => by
    rw [z, nd'] at q1
    cases q1
  have n2 : y ≠ a := fun z => by
    rw [z, na] at q1
    cases q1
  rw [upd_ne n1, del_ne n2]
  exact k y o n2 ((upd_ne n2).trans q1)
end
end Lo
end
section
set_option Elab.async false
set_option linter.all false
set_option autoImplicit false
set_option maxRecDepth 100000
set_option maxHeartbeats 2000000
/-! the __init__ of an own error that says super().__init__(e) first -/
namespace LX
open PySem PySem.Spec PyProof.Rows L2 PySem.W PySem.Calls

section
variable {prog : Program} {w : World} {A : Around} {E : Value → Shared → Prop} {h : Heap} {g : Array GenState} {d : Drawn} {t : Nat} {os : OsState}
variable {nm q : Str} {C N : Addr} {bs bm : List Value} {hdct : Bool} {sn : List Str} {sub : List Value} {ab : Bool} {col : Option Bool} {dd : Option Addr} {k0 k1 k2 k3 k5 : Option Value}
/-- the bound ValueError.__init__ is called -/
theorem call_mw {u e t0 : Addr} {rest : List Value} {Q : Value → Shared → Prop}
    (hC : h.get? C = some (excClassObj nm q C N bs bm hdct sn sub ab col dd k0 k1 k2 k3 k5 "ValueError.__new__")) (he : h.get? e = some (HandSPX.excO C t0)) (hu : h.get? u = some (kxs_mw "ValueError.__init__" e)) (hrest : rest.length ≤ sizeLine)
    (hq : ∀ h' t1, (∀ b o, b ≠ e → h.get? b = some o → h'.get? b = some o) → h'.get? e = some (HandSPX.excO C t1) → Q .none ⟨h', g, d, t, os⟩) :
    wpAny (model prog w) A (call (.ref u) rest) Q E ⟨h, g, d, t, os⟩ := by
  refine wpAny_call (codeAny_of_tree ?_)
  show wpAny _ A.in1 (callAny (.ref u) ⟨rest, []⟩) _ _ _
  simp only [callAny]
  refine wpAny_bind (wpAny_load hu ?_)
  simp only [kxs_mw, show (Value.type "method-wrapper" == Value.type "method" || Value.type "method-wrapper" == Value.type "builtin_function_or_method" || Value.type "method-wrapper" == Value.type "method-wrapper") = true by decide, if_true]
  refine KFB.if_so (by decide) ?_
  refine wpAny_bind (check_bound_init F.excBase_ValueError.toExcCallFacts hC he rfl ?_)
  refine wpAny_bind (wpAny_pure (wpAny_pure ?_))
  refine ⟨plainId_quiet F.excBase_ValueError.init.plain _, codeAny_builtin F.excBase_ValueError.initEntry ?_⟩
  refine exc_init_tree (cls := .ref C) (t0 := t0) (dv := none) (c2 := .none) (c3 := .none) (b4 := .bool false) he hrest fun h' k e' _ => ?_
  exact hq h' _ k e'
end

/-- what the written part says of the class at C and of its __init__ at f -/
structure SupC (P : Program) (K : PySem.W.Frag) (mg : Str → Option Value) (C f cc cda : Addr) (qual : Str) (params : Arguments) (body : List Stmt) (scope : Scope) : Prop where
  ox : OexC K C
  fn : ∃ (oc : Value) (od : Option Addr) (dV kV doc pm : Value) (an : Option Addr) (ct : Value) (osl : Array (Option Value)), K.lookup f = some ⟨oc, od, .func (ksFn "__init__" qual params body scope dV kV doc pm an (.ref cda) ct cc), osl⟩
  cd : codeIn K (.ref cda) qual = true
  code : ∃ ccl cdd vs ccs file tf, K.lookup cda = some ⟨ccl, cdd, .fields vs, ccs⟩ ∧ vs[2]? = some (.str file tf) ∧ ((P.main.file : Str) == file) = true
  cell : ∃ cl cld csl, K.lookup cc = some ⟨cl, cld, .cell (some (.ref C)), csl⟩
  cls : ∃ cd, clsIn K C = some cd
  sub : mroIn K C (.ref C) = some true
  sup : mg "super" = none
  ops : nsIn K cStatics "thirdparty.any" = some none
  sin : ks_superIn K C C "__init__" = some (some (.builtin "ValueError.__init__"))
  ve : subIn K (.ref C) (.type "ValueError") = some true
  top : (P.main.scope.names.lookup ("super" : Str)).isSome = false
/-- its names: the parameters, and __class__ -/
structure SupS (ps : List Str) (sc : Scope) : Prop where
  nd : ps.Nodup
  kind : sc.kind = .function
  co : sc.isCoroutine = false
  gen : sc.isGenerator = false
  par : ∀ y ∈ ps, sc.names.lookup y = some .local
  nocell : ∀ x ∈ sc.names, x.2 ≠ .cell
  free : ∀ y ∈ sc.names, y.2 = .free → y.1 = "__class__"
  hks : sc.names.lookup ("super" : Str) = some .globalImplicit
  hkc : sc.names.lookup ("__class__" : Str) = some .free
def sxc (CX : CXT) (P : Program) (w : World) (K : PySem.W.Frag) (mg : Str → Option Value) (base : Heap) (N : List Str) (qual : Str) (scope : Scope) (f cc cda : Addr) (A : Around) (outer : List Env) (s : Shared) (H : Hp) (E : XK) : Cx where
  prog := P
  w := w
  K := K
  mg := mg
  base := base
  A := A.deeper (ksEnv qual scope s.heap.objs.size f (.ref cda) cc)
  N := N
  s_0 := s
  H_0 := H
  env := ksEnv qual scope s.heap.objs.size f (.ref cda) cc
  outer := outer
  stack := ksEnv qual scope s.heap.objs.size f (.ref cda) cc :: outer
  ex := []
  calm := true
  fn := fun _ => false
  pn := []
  xe := fun e s' => wpAny (model P w) (A.deeper (ksEnv qual scope s.heap.objs.size f (.ref cda) cc)) (leaving (ksEnv qual scope s.heap.objs.size f (.ref cda) cc) e) (fun _ s'' => CX outer H s E e s'') (fun e' s'' => CX outer H s E e' s'') s'
section
variable {CX : CXT} {P : Program} {w : World} {K : PySem.W.Frag} {mg : Str → Option Value} {base : Heap} {ps : List Str} {qual : Str} {scope : Scope} {params : Arguments} {body : List Stmt} {f cc cda C : Addr} {A : Around} {outer : List Env} {s : Shared} {H : Hp} {E : XK} {us : List Value} {vs : List V} {k : Nat}
theorem inv_startS {h₁ : Heap} {tk : Nat} (S : SupS ps scope) (T : SupC P K mg C f cc cda qual params body scope) (hd : A.handled = none) (e0 : Env0 P w K mg base A outer s H) (hl : vs.length = ps.length) (r : Vals vs us) (hns : h₁.Ns s.heap.objs.size fun y => (ps.zip us).reverse.lookup y)
    (kp : ∀ b o, s.heap.get? b = some o → h₁.get? b = some o) : Inv (sxc CX P w K mg base ps qual scope f cc cda A outer s H E) [] (L2.start ps vs) H { s with heap := h₁, toks := tk } := by
  obtain ⟨cl, cld, csl, hcell⟩ := T.cell
  have hb : base.get? cc = some ⟨cl, cld, .cell (some (.ref C)), csl⟩ := e0.mod.kin _ _ hcell
  have one : ∀ {x : Str} {c : Addr}, (sxc CX P w K mg base ps qual scope f cc cda A outer s H E).env.cells.lookup x = some c → x = "__class__" ∧ c = cc := fun {x c} h => by
    have h' : List.lookup x [(("__class__" : Str), cc)] = some c := h
    by_cases q : x = "__class__"
    · subst q
      simp [List.lookup] at h'
      exact ⟨rfl, h'.symm⟩
    · have q' : (x == ("__class__" : Str)) = false := by simpa using q
      simp [List.lookup, q'] at h'
  have noA : ∀ b : Addr, b ∉ (sxc CX P w K mg base ps qual scope f cc cda A outer s H E).ex := fun b z => absurd (show b ∈ ([] : List Addr) from z) (by simp)
  refine ⟨⟨e0.mod, S.kind, rfl, rfl, Nat.le_refl _, fun x y c e1 e2 => ?_, fun y hy => ?_, fun y c z _ => ?_, fun _ => hd, Around.frames_deeper e0.frames, .inr ⟨rfl, rfl⟩, fun b z => absurd z (noA b), e0.bs, e0.bsz, fun b _ _ => noA b,
      fun b z => absurd z (noA b), e0.funs, e0.frf⟩,
    rfl, e0.bare, Un.kept kp, ⟨_, hns, fun i y v e1 e2 e3 => ?_⟩, fun y c e => ?_, e0.hok.fresh (Nat.le_refl _), fun y c e => ?_, fun q hq => absurd (show q ∈ ([] : List (Addr × Obj)) ++ [] from hq) (by simp), e0.hok.kept kp, ?_⟩
  · rw [(one e1).1, (one e2).1]
  · have hy : scope.names.lookup y = some .cell ∨ scope.names.lookup y = some .free := hy
    rcases hy with hy | hy
    · exact absurd rfl (S.nocell _ (PySem.mem_of_lookup hy))
    · have e : y = "__class__" := S.free _ (PySem.mem_of_lookup hy) rfl
      subst e
      exact ⟨cc, by show List.lookup _ [(("__class__" : Str), cc)] = _; simp [List.lookup]⟩
  · have z : false = true := z
    cases z
  · have e1 : ps[i]? = some y := e1
    have hi : i < vs.length := by
      unfold L2.start at e2
      by_cases hi : i < vs.length
      · exact hi
      · rw [List.getElem?_append_right (by simpa using hi), List.getElem?_replicate] at e2
        split at e2 <;> cases e2
    have ha : vs[i]? = some v := by
      unfold L2.start at e2
      rw [List.getElem?_append_left (by simpa using hi), List.getElem?_map] at e2
      cases e : vs[i]? with
      | none => rw [e] at e2; cases e2
      | some a => rw [e] at e2; cases e2; rfl
    obtain ⟨u, hu, rv⟩ := r.get ha
    exact ⟨u, rv, .inl ⟨S.par y (List.mem_of_getElem? e1), NdefX.zip_look S.nd e1 hu⟩⟩
  · obtain ⟨_, rfl⟩ := one e
    exact ⟨some (.ref C), ⟨_, kp _ _ ((e0.bs _ _ hb).1), rfl⟩⟩
  · obtain ⟨_, rfl⟩ := one e
    exact (e0.bs _ _ hb).2
  · unfold L2.start
    show _ = ps.length
    rw [List.length_append, List.length_map, List.length_replicate]
    omega
/-- a thing as it stands in the heap, tracked -/
def asIs (a : Addr) (o : Obj) : HO := .ext fun h => h.get? a = some o
theorem asIs_ok {H : Hp} {h : Heap} {a : Addr} {o : Obj} (e : h.get? a = some o) : ObjOk P w H h a (asIs a o) := ⟨e, ⟨o, e⟩, fun h1 h2 z k => k _ z⟩
theorem asIs_at {H : Hp} {h : Heap} {a : Addr} {o : Obj} (hok : HOk P w H h) (e : H a = some (asIs a o)) : h.get? a = some o := by
  have x : ObjOk P w H h a (.ext fun h => h.get? a = some o) := hok a _ e
  exact x.1
/-- THE RULE: def __init__(self, ..): super().__init__(e); rest -/
theorem fn_sup {sp : Sp} {e : Expr} {rest : List Stmt} {p0 p1 p2 p3 p4 : Pos} {pl : Sem Bool} {ar : Arg} (S : SupS ps scope) (hps : (params.posonlyargs ++ params.args).head? = some ar) (hp0 : ps.head? = some ar.arg)
    (T : SupC P K mg C f cc cda qual params (.Expr (.Call (.Attribute (.Call (.Name "super" p0) [] [] p1) "__init__" p2) [e] [] p3) p4 :: rest) scope)
    (len : ∀ vs H Q E, sp vs H Q E → vs.length = ps.length)
    (bind : ∀ fd (s : Shared) us, us.length = ps.length → (∃ oc od osl, K.lookup f = some ⟨oc, od, .func fd, osl⟩) → BindsTo s fd ⟨us, []⟩ (ps.zip us))
    (hstar : ∀ env, starEach [e] env = (false, eval e env) :: starEach [] env := by intro _; rfl)
    (hint : ∀ L a, interactive (ksEnv qual scope L a (.ref cda) cc) = false := by intro _ _; rfl)
    (hsw : ∀ L a, swapsWith (.Call (.Attribute (.Call (.Name "super" p0) [] [] p1) "__init__" p2) [e] [] p3) none p4.line (ksEnv qual scope L a (.ref cda) cc) = pure false := by intro _ _; rfl)
    (heval : ∀ env, eval (.Call (.Attribute (.Call (.Name "super" p0) [] [] p1) "__init__" p2) [e] [] p3) env = (do
      let ov ← attributeBase (.Call (.Name "super" p0) [] [] p1) "__init__" env (eval (.Call (.Name "super" p0) [] [] p1) env)
      standAt p2.atName
      let (f, first) ← holding [ov] (getMethod ov "__init__" pl)
      callWith p3 f first (backTo p3 (starEach [e] env)) []) := by intro _; rfl)
    (hbody : ∀ (A : Around) (outer : List Env) (s : Shared) (H : Hp) (vs : List V) (Q : VK) (E : XK), Room k (A.deeper (ksEnv qual scope s.heap.objs.size f (.ref cda) cc)) → sp vs H Q E →
      ∃ a ws te t, vs = .ref a :: ws ∧ H a = some (exo a C none) ∧ PE (sxc CX P w K mg base ps qual scope f cc cda A outer s H E) e te ∧ PSs (sxc CX P w K mg base ps qual scope f cc cda A outer s H E) rest t ∧
        (∀ H' (R : VK), Evl.Ex H H' → (∀ z, R (.str z) H') → te (L2.start ps vs) H' R) ∧ ∀ H', Evl.Ex H H' → t { nx := fun _ H' => Q .non H', rt := Q } (L2.start ps vs) H') :
    ∃ fd, (∃ oc od osl, K.lookup f = some ⟨oc, od, .func fd, osl⟩) ∧ FnOk P w K mg base CX (k + 1) f fd ps sp := by
  obtain ⟨oc, od, dV, kV, doc, pm, an, ct, osl, lk⟩ := T.fn
  refine ⟨_, ⟨oc, od, osl, lk⟩, ⟨len, fun A outer s H args us vs Q E hr e0 hb r hsp => ?_⟩⟩
  have hl := len _ _ _ _ hsp
  have KX : K.In s.heap := e0.mod.kin.keeps fun b o e => (e0.bs b o e).1
  have lim : s.heap.NoLimit := e0.mod.nolimit.keeps fun b o e => (e0.bs b o e).1
  refine ks_codeAny_call_defAt hr.depth (KX _ _ lk) rfl lim (codeRec_of KX T.cd) rfl hb S.nocell (fun y hy => S.par y.1 (List.of_mem_zip hy).1) (fun h₀ hns kp => ?_) S.co S.gen S.kind
  obtain ⟨a, ws, te, t, rfl, ha, he, hrest, hte, hq⟩ := hbody A outer s H vs Q E (hr.deeper _) hsp
  have I : Inv (sxc CX P w K mg base ps qual scope f cc cda A outer s H E) [] (L2.start ps (.ref a :: ws)) H { s with heap := h₀, toks := s.toks + (ps.zip us).length } := inv_startS S T hr.hd e0 hl r hns kp
  have fin : ∀ {σ' : L2.St} {H' : Hp} {v : V} {u : Value} {s' : Shared}, Inv (sxc CX P w K mg base ps qual scope f cc cda A outer s H E) [] σ' H' s' → RelV v u → Q v H' → CE outer P w H s Q u s' :=
    fun {σ' H' v u s'} J rv q => ⟨v, H', J.os, J.bare, J.base, J.hok, rv, q⟩
  -- self
  cases r with
  | @cons _ u0 _ ur ra rw' =>
  obtain rfl : u0 = Value.ref a := ra
  obtain ⟨p', pr, rfl⟩ : ∃ p' pr, ps = p' :: pr := by
    cases ps with
    | nil => simp at hl
    | cons p' pr => exact ⟨p', pr, rfl⟩
  have ep : p' = ar.arg := by simpa using hp0
  subst ep
  obtain ⟨ccl, cdd, cvs, ccs, file, tf, hcode, hvs, hfile⟩ := T.code
  obtain ⟨cl, cld, csl, hcell⟩ := T.cell
  obtain ⟨cd, hcls⟩ := T.cls
  have X₀ : K.In h₀ := KX.keeps kp
  obtain ⟨t1, hx⟩ := exo_at I.hok ha
  have IA : InstAt h₀ a { cls := .ref C, dict := none, data := .fields #[.ref t1, .none, .none, .none, .bool false, .none] } C none := ⟨hx, rfl, rfl, trivial⟩
  obtain ⟨oD, hD1, hD2⟩ : ∃ oD, h₀.get? C = some oD ∧ oD.data = .cls cd := by
    have hD := hcls
    unfold clsIn at hD
    split at hD
    · rename_i c d cd' sl ho
      cases hD
      exact ⟨_, X₀ _ _ ho, rfl⟩
    · cases hD
  have hself : (fun y => ((ar.arg :: pr).zip (Value.ref a :: ur)).reverse.lookup y) ar.arg = some (Value.ref a) := NdefX.zip_look S.nd (i := 0) rfl rfl
  refine ks_wpAt_execs_cons (ks_wpAt_Expr_any ?_ (hint _ _) (hsw _ _))
  refine ks_wpAt_MethodCall (pl := pl) ?_ (heval _)
  refine ks_wpAt_super_base (env := ksEnv qual scope s.heap.objs.size f (.ref cda) cc) S.hks S.hkc rfl rfl (X₀ _ _ lk) rfl hps rfl (X₀ _ _ hcode) rfl hvs hfile T.top ?_
  obtain ⟨mb, hb1, hb2⟩ := I.mod.blt
  refine ks_loadName_global S.kind S.hks (loadGlobal_builtin (env := ksEnv qual scope s.heap.objs.size f (.ref cda) cc) (I.mod.glob.keeps I.bk) T.sup (hb1.keeps I.bk) ((hb2 _ (by decide)).trans (by decide +kernel)) ⟨rfl, ?_⟩)
  refine wpAny_loadName_free S.kind S.hkc rfl ⟨_, X₀ _ _ hcell, rfl⟩ ?_
  refine wpAny_loadName_local S.kind (S.par _ (by simp)) hns hself ?_
  refine ks_wpAny_isType_cls hD1 hD2 ⟨rfl, ?_⟩
  refine ks_wpAny_call_super hD1 hD2 IA.at_ IA.cls (fun c e => ?_) (looks_mroIn X₀ T.sub) (fun h₁ hso k₁ => ?_)
  · have := IA.no
    unfold notCls at this
    rw [e] at this
    exact Bool.noConfusion this
  -- the bound __init__
  have X₁ : K.In h₁ := X₀.keeps k₁
  have hI : Looks (model P w) h₁ (isInstance (.ref a) (.type "ValueError")) true := (show InstAt h₁ a _ C none from ⟨k₁ _ _ hx, rfl, rfl, trivial⟩).type.andThen (looks_subIn X₁ T.ve)
  have sin := T.sin
  unfold ks_superIn at sin
  rw [hcls] at sin
  refine kxs_getMethod kxs_ValueError (so := h₀.objs.size) hso (looks_opaque X₁ T.ops) (l₀ := cd.mro) ?_ rfl X₁ sin hI (ks_ne X₀ IA hcls) rfl ?_
  · exact fun A Q E s k q => wpAny_bind ((looks_clsIn X₁ hcls) A _ E s k (wpAny_pure q))
  -- the arguments
  have lt0 : h₀.objs.size < h₁.objs.size := Heap.lt_size hso
  have k₂ : ∀ b o, h₀.get? b = some o → (h₁.push (kxs_mw "ValueError.__init__" a)).get? b = some o := fun b o e => Heap.get?_push_of_some _ (k₁ b o e)
  have hu : H h₁.objs.size = none := I.hok.fresh (Nat.le_of_lt lt0)
  have I2 : Inv (sxc CX P w K mg base (ar.arg :: pr) qual scope f cc cda A outer s H E) [] (L2.start (ar.arg :: pr) (.ref a :: ws)) (upd H h₁.objs.size (asIs h₁.objs.size (kxs_mw "ValueError.__init__" a)))
      { s with heap := h₁.push (kxs_mw "ValueError.__init__" a), toks := s.toks + ((ar.arg :: pr).zip (Value.ref a :: ur)).length + 1 } :=
    I.laid (a := h₁.objs.size) (o := asIs h₁.objs.size (kxs_mw "ValueError.__init__" a)) k₂ (Nat.le_of_lt lt0) (asIs_ok (Heap.get?_push_size _ rfl))
  have eH : Evl.Ex H (upd H h₁.objs.size (asIs h₁.objs.size (kxs_mw "ValueError.__init__" a))) := Evl.Ex.new hu
  have nau : a ≠ h₁.objs.size := fun z => by
    rw [← z, ha] at hu
    cases hu
  have ra := (pa_cons (hs := hstar _) he pa_nil).run p3 [] _ (L2.start (ar.arg :: pr) (.ref a :: ws)) (upd H h₁.objs.size (asIs h₁.objs.size (kxs_mw "ValueError.__init__" a))) (fun vs H1 => H1 = upd H h₁.objs.size (asIs h₁.objs.size (kxs_mw "ValueError.__init__" a)) ∧ vs.length = 1) I2
    (hte _ _ eH fun z => ⟨rfl, rfl⟩)
  dsimp only
  rw [hstar]
  refine kxs_callWith (i := "ValueError.__init__") (x := a) (by rfl) (evalArgs_plain ?_)
  rw [hstar] at ra
  refine wpAny_mono ra (fun us2 s3 ⟨vs3, H3, I3, rv3, e3, l3⟩ => ?_) fun _ _ x => x
  subst e3
  have hmw : s3.heap.get? h₁.objs.size = some (kxs_mw "ValueError.__init__" a) := asIs_at I3.hok upd_same
  refine ⟨hmw, ?_⟩
  have ha3 : (upd H h₁.objs.size (asIs h₁.objs.size (kxs_mw "ValueError.__init__" a))) a = some (exo a C none) := (upd_ne nau).trans ha
  obtain ⟨t3, hx3⟩ := exo_at I3.hok ha3
  obtain ⟨nm, q, N, bs, bm, sn, sub, ab, col, dd, k0, k1, k2, k3, k5, hC, hbm⟩ := T.ox.cls
  have hC3 := I3.kIn _ _ hC
  obtain ⟨hp3, g3, d3, tk3, os3⟩ := s3
  refine call_mw hC3 hx3 hmw (by
    show ([] ++ us2).length ≤ sizeLine
    rw [List.nil_append, ← Paired.length rv3, l3]
    decide) fun h4 t4 k4 e4 => ?_
  have J := I3.write (t' := tk3) (x := a) (e := a) (o := exo a C none) (by rw [ha3]; exact True.intro) (.inl rfl) k4 ⟨_, e4⟩ (exo_ok e4)
  have eu : upd (upd H h₁.objs.size (asIs h₁.objs.size (kxs_mw "ValueError.__init__" a))) a (exo a C none) = upd H h₁.objs.size (asIs h₁.objs.size (kxs_mw "ValueError.__init__" a)) := by
    funext y
    by_cases hy : y = a
    · rw [hy, upd_same, ha3]
    · rw [upd_ne hy]
  rw [eu] at J
  refine wpAt_of_wpAny ?_
  refine wpAny_mono (hrest.run [] _ _ _ _ J (hq _ eH)) (fun fl s' hs => ?_) fun e s' hs => hs
  cases fl with
  | ret u =>
    obtain ⟨v, σ', H', J, rv, q⟩ := hs
    exact fin J rv q
  | next =>
    obtain ⟨σ', H', J, q⟩ := hs
    exact fin (v := V.non) (u := Value.none) J rfl q
  | brk =>
    obtain ⟨_, _, _, q⟩ := hs
    exact False.elim q
  | cont =>
    obtain ⟨_, _, _, q⟩ := hs
    exact False.elim q
end
end LX
end
section
set_option Elab.async false
set_option linter.all false
set_option autoImplicit false
set_option maxRecDepth 100000
set_option maxHeartbeats 2000000
/-! == and != by an own __eq__, both answers -/
namespace LX
open PySem PySem.Spec PyProof.Rows L2 PySem.W PySem.Calls
section
variable {prog : Program} {w : World} {A : Around} {E : Value → Shared → Prop} {s : Shared} {K : Frag} {x C L f : Addr} {h₀ : Heap} {m : Str → Option Value} {ox : Obj} {od : Option Obj} {b tb : Value}
theorem objNe_K {Q : Fin → Shared → Prop} (X : K.In s.heap) (I : InstAt s.heap x ox C od) (he : findIn K (.ref C) "__eq__" = some (some (.ref f))) (hf : isFn K (.ref f) = true) (hu : A.units < cLine)
    (hcall : wpAny (model prog w) A (call (.ref f) [.ref x, b]) (fun v s' => ∃ k, v = .bool k ∧ Q (.done (.ret (.bool (!k)))) s') E s) :
    wpAny (model prog w) A (Builtin.«object.__ne__» ⟨[.ref x, b], []⟩) Q E s := by
  unfold Builtin.«object.__ne__»
  repeat (first
    | with_reducible refine wpAny_cRoomFor hu ?_
    | (refine wpAny_bind (m := callSpecialIfBound? (.ref x) (Str.ofString "__eq__") [b])
        (ifBound_K X I he hf (wpAny_mono hcall (fun r s' hr => by
          obtain ⟨k, rfl, hq⟩ := hr
          repeat (first | exact hq | exact wpAny_pure hq | exact wpAny_truthy_bool hq | (refine wpAny_bind (m := truthy (.bool _)) (wpAny_truthy_bool ?_)) | wp_step)) fun _ _ e => e)))
    | wp_step)
theorem ifBoundNe {args : List Value} {Q : Option Value → Shared → Prop} (X : K.In s.heap) (I : InstAt s.heap x ox C od) (hs : findIn K (.ref C) "__ne__" = some (some (.builtin "object.__ne__")))
    (h : wpAny (model prog w) A (call (.builtin "object.__ne__") (.ref x :: args)) (fun v => Q (some v)) E s) : wpAny (model prog w) A (callSpecialIfBound? (.ref x) "__ne__" args) Q E s := by
  simp only [callSpecialIfBound?, bindSpecialIfBound?]
  refine wpAny_holding (wpAny_bind (wpAny_bind (wpAny_bind (I.type.here ((looks_findIn X hs).here ?_)))))
  refine wpAny_bind (wpAny_askSetting (wpAny_ite ?_))
  have fin : wpAny (model prog w) A (call (.builtin "object.__ne__") ([.ref x] ++ args) >>= fun v => pure (some v)) Q E s := wpAny_bind (wpAny_mono h (fun v s' h' => wpAny_pure h') fun _ _ h' => h')
  split
  · exact wpAny_bind (wpAny_of_eq (F.cmp_object.ne.bind _) (wpAny_pure (by exact fin)))
  · exact wpAny_tryCatch (wpAny_bind (wpAny_of_eq (F.cmp_object.ne.bind _) (wpAny_pure (by exact fin))))
theorem cmpNe_K {Q : Value → Shared → Prop} (hu : A.units + 1 < cLine) (F₀ : Fr h₀ L s.heap m) (X₀ : K.In h₀) (I : InstAt s.heap x ox C od) (hb : Looks (model prog w) s.heap (typeOf b) tb) (hn : notFirst K C tb = true)
    (hs : findIn K (.ref C) "__ne__" = some (some (.builtin "object.__ne__"))) (he : findIn K (.ref C) "__eq__" = some (some (.ref f))) (hf : isFn K (.ref f) = true) (ho : mroIn K C (.type "object") = some true)
    (h : wpAny (model prog w) A.in1 (call (.ref f) [.ref x, b]) (fun v s' => ∃ k, v = .bool k ∧ Q (.bool (!k)) s') E s) : wpAny (model prog w) A (richCompare .NotEq (.ref x) b) Q E s := by
  have X := X₀.keeps F₀.keep
  have sub : Looks (model prog w) s.heap (isInstance (.ref x) (.type "object")) true := I.type.andThen (looks_mroIn X ho)
  have one : wpAny (model prog w) A (tryCompare (.ref x) "__ne__" b) (fun r s' => ∃ k, r = some (.bool k) ∧ Q (.bool k) s') E s := by
    unfold tryCompare
    refine wpAny_bind (ifBoundNe X I hs (wpAny_mono (Q := fun v s' => ∃ k, v = .bool k ∧ Q (.bool k) s') (E := E) (wpAny_call (codeAny_call_builtin F.cmp_object.ne.plain F.cmpEntry_ne
      (@W.check_slot (model prog w) _ _ s "object.__ne__" "object" "__ne__" (.ref x) [b] [] _ F.cmpKind_ne F.cmpSplit_ne sub (F.cmpArgs_ne _ _)
        (objNe_K (A := A.in1) X I he hf (by show A.units + 1 < cLine; exact hu) (wpAny_mono h (fun v s' hv => ?_) fun _ _ e => e))))) (fun v s' hv => ?_) fun _ _ e => e))
    · obtain ⟨k, rfl, hq⟩ := hv
      exact ⟨k, rfl, _, rfl, hq⟩
    · obtain ⟨k, rfl, hq⟩ := hv
      exact wpAny_pure ⟨_, rfl, hq⟩
  unfold richCompare
  simp only [oneThing_ref]
  refine wpAny_holding (wpAny_bind (wpAny_cRoomFor (by omega) ?_))
  refine wpAny_bind (I.type.here (wpAny_bind (hb.here ?_)))
  split
  · rename_i q
    have e : subIn K tb (.ref C) = some false := by
      rcases Bool.or_eq_true_iff.mp hn with e | e
      · rw [beq_iff_eq.mp e] at q; simp at q
      · exact beq_iff_eq.mp e
    refine wpAny_bind ((looks_subIn X e).here ?_)
    simp only [Bool.false_eq_true, if_false]
    refine wpAny_bind (wpAny_mono one (fun r s' z => ?_) fun _ _ e => e)
    obtain ⟨v, rfl, hq⟩ := z
    exact wpAny_pure hq
  · refine wpAny_bind (wpAny_pure ?_)
    simp only [Bool.false_eq_true, if_false]
    refine wpAny_bind (wpAny_mono one (fun r s' z => ?_) fun _ _ e => e)
    obtain ⟨v, rfl, hq⟩ := z
    exact wpAny_pure hq
end
/-- a value's class, looked at -/
theorem ty_looks {X : Cx} {pins : List (Addr × Obj)} {σ : L2.St} {H : Hp} {s : Shared} {y : V} {u t : Value} (I : L2.Inv X pins σ H s) (r : L2.RelV y u) (ty : TyX X.K H y t) : Looks (model X.prog X.w) s.heap (typeOf u) t := by
  have ofRef : ∀ {a : Addr} {o : Obj} {c : Value}, s.heap.get? a = some o → o.cls = c → Looks (model X.prog X.w) s.heap (typeOf (.ref a)) c := fun {a o c} e k A Q E s' kk q => wpAny_typeOf_ref (kk _ _ e) (by rw [k]; exact q)
  have ofEq : ∀ {v c : Value}, typeOf v = pure c → Looks (model X.prog X.w) s.heap (typeOf v) c := fun {v c} e A Q E s' kk q => wpAny_of_eq e q
  cases ty with
  | base b =>
    cases b with
    | non => cases (show u = Value.none from r); exact ofEq (by kernel_rfl)
    | bl y => cases (show u = Value.bool y from r); exact ofEq (by rfl)
    | int i => obtain ⟨t, q⟩ := (show ∃ t, u = Value.int i t from r); cases q; exact ofEq (by rfl)
    | str y => obtain ⟨t, q⟩ := (show ∃ t, u = Value.str y t from r); cases q; exact ofEq (by rfl)
    | flt y => obtain ⟨t, q⟩ := (show ∃ t, u = Value.float y t from r); cases q; exact ofEq (by rfl)
    | @lst a xs ea =>
      cases (show u = Value.ref a from r)
      obtain ⟨_, _, n, _, h1⟩ := (show ObjOk X.prog X.w H s.heap a (.lst xs) from I.hok a _ ea)
      exact ofRef h1 rfl
    | @frz a ob xs ea =>
      cases (show u = Value.ref a from r)
      obtain ⟨_, _, _, n, _, h1⟩ := (show ObjOk X.prog X.w H s.heap a (.frz ob (.lst xs)) from I.hok a _ ea)
      exact ofRef h1 rfl
    | @tup a xs ea =>
      cases (show u = Value.ref a from r)
      obtain ⟨_, _, _, o, h1, h2, _⟩ := (show ObjOk X.prog X.w H s.heap a (.tup xs) from I.hok a _ ea)
      exact ofRef h1 h2
    | @dK a kvs ea =>
      cases (show u = Value.ref a from r)
      obtain ⟨_, _, vs, _, o, es, ep, h1, h2, _⟩ := (show ObjOk X.prog X.w H s.heap a (.dK kvs) from I.hok a _ ea)
      exact ofRef h1 h2.1
    | @dT a kvs ea =>
      cases (show u = Value.ref a from r)
      obtain ⟨_, _, xs, _, o, es, ep, h1, h2, _⟩ := (show ObjOk X.prog X.w H s.heap a (.dT kvs) from I.hok a _ ea)
      exact ofRef h1 h2.1
    | @ins a C dx fs ea cl ha hn htk hm =>
      cases (show u = Value.ref a from r)
      obtain ⟨mA, O, _⟩ := ins_get I.hok ea
      obtain ⟨od, J, _⟩ := O.look
      exact J.type
  | byt y => obtain ⟨t, q⟩ := (show ∃ t, u = Value.bytes y t from r); cases q; exact ofEq (by rfl)
  | @set a S n ea =>
    cases (show u = Value.ref a from r)
    obtain ⟨o, _, _, _, e, ex, _⟩ := I.hok a _ ea
    exact ofRef e ex.1
  | @kList a o e c =>
    cases (show u = Value.ref a from r)
    exact ofRef (I.kIn a o e) c
  | @kTuple a o e c =>
    cases (show u = Value.ref a from r)
    exact ofRef (I.kIn a o e) c
  | @kDict a o e c =>
    cases (show u = Value.ref a from r)
    exact ofRef (I.kIn a o e) c
  | @fTuple a ob xs ea =>
    cases (show u = Value.ref a from r)
    obtain ⟨_, _, _, _, o, h1, h2, _⟩ := (show ObjOk X.prog X.w H s.heap a (.frz ob (.tup xs)) from I.hok a _ ea)
    exact ofRef h1 h2
  | @fDict a ob kvs ea =>
    cases (show u = Value.ref a from r)
    obtain ⟨_, _, _, vs, _, o, es, ep, h1, h2, _⟩ := (show ObjOk X.prog X.w H s.heap a (.frz ob (.dK kvs)) from I.hok a _ ea)
    exact ofRef h1 h2.1
/-- an own class with an own __eq__, and no own __ne__ -/
structure EqC (K : Frag) (C f : Addr) : Prop where
  eq : findIn K (.ref C) "__eq__" = some (some (.ref f))
  fn : isFn K (.ref f) = true
  ne : findIn K (.ref C) "__ne__" = some (some (.builtin "object.__ne__"))
  ob : mroIn K C (.type "object") = some true
/-- x == y, x an instance of C -/
def rEqI (K : Frag) (C : Addr) (sp : Sp) : R2 := fun x y H Q => ∃ a dx fs t, x = .ref a ∧ H a = some (.ins C dx fs) ∧ TyX K H y t ∧ notFirst K C t = true ∧ sp [x, y] H (fun v H' => ∃ k, v = .bl k ∧ Q (.bl k) H') E0
def rNeI (K : Frag) (C : Addr) (sp : Sp) : R2 := fun x y H Q => ∃ a dx fs t, x = .ref a ∧ H a = some (.ins C dx fs) ∧ TyX K H y t ∧ notFirst K C t = true ∧ sp [x, y] H (fun v H' => ∃ k, v = .bl k ∧ Q (.bl (!k)) H') E0
section
variable {X : Cx} {n : Nat} {C f : Addr} {fd : FuncData} {ps : List Str} {sp : Sp}
theorem op_eqI (F : FnOk X.prog X.w X.K X.mg X.base (L2.CX X.prog X.w) n f fd ps sp) (T : EqC X.K C f) (hb : Binds X.K fd ps []) (hr : Room n X.A) : OpR X (compareOp .Eq) (rEqI X.K C sp) := by
  intro pins s σ H x y v u Q I rx ry hq
  obtain ⟨a, dx, fs, t, rfl, ha, ty, hn, hsp⟩ := hq
  cases rx
  obtain ⟨mA, J, _⟩ := ins_get I.hok ha
  obtain ⟨od, J, _⟩ := J.look
  obtain ⟨m, hF⟩ := I.fr
  unfold compareOp
  refine cmp_K (op := .Eq) (tb := t) hr.units0 hF I.ok.mod.kin J (ty_looks I ry ty) hn T.eq T.fn ?_
  have r := run_fn (dvs := []) (ds := []) (E := E0) F hr hb .nil passL I (us := [.ref a, u]) (vs := [.ref a, y]) (.cons rfl (.cons ry .nil)) hsp
  refine wpAny_mono r (fun v' s' ⟨z, H', J', rz, k, ez, q⟩ => ?_) fun _ _ e => e
  subst ez
  cases (show v' = Value.bool k from rz)
  exact ⟨.bl k, H', J', rfl, q⟩
theorem op_neI (F : FnOk X.prog X.w X.K X.mg X.base (L2.CX X.prog X.w) n f fd ps sp) (T : EqC X.K C f) (hb : Binds X.K fd ps []) (hr : Room (n + 1) X.A) : OpR X (compareOp .NotEq) (rNeI X.K C sp) := by
  intro pins s σ H x y v u Q I rx ry hq
  obtain ⟨a, dx, fs, t, rfl, ha, ty, hn, hsp⟩ := hq
  cases rx
  obtain ⟨mA, J, _⟩ := ins_get I.hok ha
  obtain ⟨od, J, _⟩ := J.look
  obtain ⟨m, hF⟩ := I.fr
  have sb : L2.Sub X n X.A.in1 := Sub.in1 ⟨hr, by rw [I.ok.frames]⟩
  unfold compareOp
  refine cmpNe_K (tb := t) (by have := hr.units0; have := sb.room.units0; exact this) hF I.ok.mod.kin J (ty_looks I ry ty) hn T.ne T.eq T.fn T.ob ?_
  have e0 : Env0 X.prog X.w X.K X.mg X.base X.A.in1 X.stack s H := by
    have e := I.env0
    exact ⟨by rw [sb.fr]; exact e.frames, e.mod, e.bs, e.bsz, e.funs, e.frf, e.hok, e.bare⟩
  have hl := F.len _ _ _ _ hsp
  have r2 : Vals [V.ref a, y] [Value.ref a, u] := .cons rfl (.cons ry .nil)
  refine wpAny_call (codeAny_mono (F.run X.A.in1 X.stack s H ⟨[.ref a, u], []⟩ [.ref a, u] [.ref a, y] _ E0 sb.room e0 (by
    have := hb s [.ref a, u] I.kIn (by simpa using hl)
    simpa using this) r2 hsp) fun r s' hq => ?_)
  cases r with
  | error e => exact passL pins σ H s e s' I hq
  | ok fl =>
    cases fl with
    | ret w =>
      obtain ⟨z, H', I', rz, k, ez, q⟩ := I.after hq
      subst ez
      cases (show w = Value.bool k from rz)
      exact ⟨k, rfl, .bl (!k), H', I', rfl, q⟩
    | next => exact False.elim hq
    | brk => exact False.elim hq
    | cont => exact False.elim hq
end
end LX
end
section
set_option Elab.async false
set_option linter.all false
set_option autoImplicit false
set_option maxRecDepth 100000
set_option maxHeartbeats 2000000
/-! defs that ask repr: called where no repr is under way -/
namespace LX
open PySem PySem.Spec PyProof.Rows L2 PySem.W PySem.Calls
/-- as FnOk, where no repr runs around the call -/
structure FnG (P : Program) (w : World) (K : Frag) (mg : Str → Option Value) (base : Heap) (CX : CXT) (k : Nat) (f : Addr) (fd : FuncData) (ps : List Str) (sp : Sp) : Prop where
  len : ∀ vs H Q E, sp vs H Q E → vs.length = ps.length
  run : ∀ (A : Around), A.guards = some [] → ∀ (outer : List Env) (s : Shared) (H : Hp) (args : Args) (us : List Value) (vs : List V) (Q : VK) (E : XK), Room k A → Env0 P w K mg base A outer s H → BindsTo s fd args (ps.zip us) → Vals vs us → sp vs H Q E →
    codeAny (model P w) A (.call (.ref f) args) (CR CX outer P w H s Q E) s
section
variable {P : Program} {w : World} {K : Frag} {mg : Str → Option Value} {base : Heap} {CX : CXT} {k : Nat}
theorem FnG.of {f : Addr} {fd : FuncData} {ps : List Str} {sp : Sp} (F : FnOk P w K mg base CX k f fd ps sp) : FnG P w K mg base CX k f fd ps sp := ⟨F.len, fun A _ => F.run A⟩
theorem fnG_of {f : Addr} {name qual : Str} {params : Arguments} {body : List Stmt} {scope : Scope} {dV kV doc pm cdv ct oc : Value} {an od : Option Addr} {osl : Array (Option Value)} {N ps : List Str} {sp : Sp}
    (lk : K.lookup f = some ⟨oc, od, .func (fnOf name qual params body scope dV kV doc pm an cdv ct), osl⟩) (hcd : codeIn K cdv qual = true) (S : FnScope N ps scope) (len : ∀ vs H Q E, sp vs H Q E → vs.length = ps.length)
    (hbody : ∀ (A : Around), A.guards = some [] → ∀ (outer : List Env) (s : Shared) (H : Hp) (vs : List V) (Q : VK) (E : XK), Room k (A.deeper (envOfC qual scope s.heap.objs.size f cdv)) → sp vs H Q E →
      ∃ t, PSs (cxOf CX P w K mg base N qual scope f cdv A outer s H E) body t ∧ t { nx := fun _ H' => Q .non H', rt := Q } (L2.start N vs) H) :
    FnG P w K mg base CX (k + 1) f (fnOf name qual params body scope dV kV doc pm an cdv ct) ps sp := by
  refine ⟨len, fun A hg outer s H args us vs Q E hr e0 hb r hsp => ?_⟩
  have hin : K.In s.heap := e0.mod.kin.keeps fun b o e => (e0.bs b o e).1
  have hno : s.heap.NoLimit := e0.mod.nolimit.keeps fun b o e => (e0.bs b o e).1
  have par : ∀ y ∈ ps.zip us, scope.names.lookup y.1 = some .local ∨ (scope.names.lookup y.1 = some .cell ∧ ((cellsFrom (s.heap.objs.size + 1) scope.names []).lookup y.1).isSome = true) := fun y hy =>
    (S.par y.1 (List.of_mem_zip (show (y.1, y.2) ∈ ps.zip us from hy)).1).imp id fun q => ⟨q, cellsFrom_some _ _ _ (.inl q)⟩
  refine codeAny_call_function hr.depth (hin _ _ lk) rfl S.co S.gen rfl (codeRec_of hin hcd) (hb _ _ _ _ (wpAny_newFunctionEnv_cells S.kind par fun env he s1 x => ?_))
  subst he
  obtain ⟨t, ht, hq⟩ := hbody A hg outer s H vs Q E (hr.deeper _) hsp
  have I : L2.Inv (cxOf CX P w K mg base N qual scope f cdv A outer s H E) [] (L2.start N vs) H s1 := inv_start S hr.hd e0 (len _ _ _ _ hsp) r x
  refine ⟨hno.keeps x.toInCall.keep, codeAny_func (wpAny_mono (ht.run [] s1 (L2.start N vs) H _ I hq) (fun fl s' hs => ?_) fun e s' hs => hs)⟩
  match fl, hs with
  | .ret u, ⟨v, σ', H', J, rv, q⟩ => exact ⟨v, H', J.os, J.bare, J.base, J.hok, rv, q⟩
  | .next, ⟨σ', H', J, q⟩ => exact ⟨.non, H', J.os, J.bare, J.base, J.hok, rfl, q⟩
  | .brk, ⟨_, _, _, q⟩ => exact q.elim
  | .cont, ⟨_, _, _, q⟩ => exact q.elim
end
section
variable {X : Cx} {CX : CXT} {k : Nat} {f : Addr} {fd : FuncData} {ps : List Str} {sp : Sp} {dvs : List V} {ds : List Value} {E : XK} {x : Str} {p pos : Pos} {e : Expr} {es : List Expr} {t : TA}
theorem pe_callG (hgu : X.A.guards = some []) (F : FnG X.prog X.w X.K X.mg X.base CX k f fd ps sp) (hr : Room k X.A) (hg : Gl X x) (hm : X.mg x = some (.ref f)) (hk : keepIn X.K (.ref f) = true) (hb : Binds X.K fd ps ds) (hd : Vals dvs ds) (hx : Passes CX X E)
    (ha : PA X (e :: es) t) (hdb : (x == ("__debug__" : Str)) = false := by decide) (he : starEach (e :: es) X.env = (false, eval e X.env) :: starEach es X.env := by rfl) (hpl : (backTo pos (starEach es X.env)).any (·.1) = false := by rfl) :
    PE X (.Call (.Name x p) (e :: es) [] pos) (tCall sp dvs E t) := ⟨fun pins s σ H Q I h => by
  refine wpAny_Call_Name_kw (ld_glob I hg hm (callWith_K (h₀ := X.base) I.ok.mod.kin hk (thn (ha.run pos pins s σ H _ I h) fun us s1 hq => ?_) he hpl) hdb)
  obtain ⟨vs, H1, I1, r, q⟩ := hq
  refine ⟨I1.kIn, wpAny_call (codeAny_mono (F.run X.A hgu X.stack s1 H1 ⟨us, []⟩ (us ++ ds) (vs ++ dvs) Q E hr I1.env0 (hb s1 us I1.kIn ?_) (r.append hd) q) fun z s' hq => ?_)⟩
  · rw [← F.len _ _ _ _ q]
    exact (r.append hd).length.symm
  · match z, hq with
    | .error e, hq => exact hx pins σ H1 s1 e s' I1 hq
    | .ok (.ret u), hq => exact I1.after hq
    | .ok .next, hq => exact hq.elim
    | .ok .brk, hq => exact hq.elim
    | .ok .cont, hq => exact hq.elim⟩
/-- repr of data -/
def rRepr (K : Frag) : List V → Hp → VK → Prop := fun xs H Q => ∃ x d, xs = [x] ∧ Dp K H x d ∧ d.showable = true ∧ d.hasDict = false ∧ d.depth ≤ 60 ∧ d.shown.length ≤ sizeLine ∧ (∃ a, x = .ref a) ∧ Q (.str d.shown) H
theorem call_repr (hgu : X.A.guards = some []) (hu : X.A.units + 64 < cLine) : CallR X (.builtin "repr") (rRepr X.K) := by
  intro pins s σ H xs us Q I r h
  obtain ⟨x, d, rfl, hd, hs, hn, hz, hl, ⟨a, rfl⟩, q⟩ := h
  obtain ⟨u, rfl, ru⟩ := vals1 r
  obtain ⟨as, rd⟩ := Dp.reads I d _ _ hd ru
  cases (show u = Value.ref a from ru)
  refine repr_of_reads' rd hs (PyData.noDict_hsm hn) hgu (by omega) (fun _ _ e => e) (fun h' t tk hk => ?_) hl
  exact ⟨.str d.shown, H, I.kept (t' := tk) hk, ⟨t, rfl⟩, q⟩
end
/-- the law's def is called, at the heap behind the top -/
theorem law_callG {P : Program} {w : World} {K : Frag} {mg mb : Str → Option Value} {CX : CXT} {k : Nat} {fa a : Addr} {fd : FuncData} {x : Str} {sp : Sp} {s₁ : Shared} {vs : List Value} {ns : List Int}
    (KX : K.In s₁.heap) (hns : s₁.heap.Ns mainGlobals mg) (hb : s₁.heap.Ns builtinsNs mb) (hbb : ∀ x : Str, x ≠ "__name__" → mb x = bootBuiltins x) (hlim : s₁.heap.NoLimit) (hg : s₁.gens = #[])
    (ha : s₁.heap.get? a = some { cls := .type "list", data := .seq vs.toArray }) (hi : IntsAre vs ns) (hl : ns.length ≤ sizeLine) (hr : Room k callerA)
    (F : ∀ base : Heap, K.In base → base.Ns mainGlobals mg → FnG P w K mg base CX k fa fd [x] sp) (hbind : ∀ (s : Shared) (u : Value), BindsTo s fd ⟨[u], []⟩ [(x, u)])
    (hsp : ∀ H : Hp, Only H → SqL K H a (ns.map V.int) → sp [.ref a] H (fun v _ => v = .bl true) fun _ _ _ => False) (hCX : ∀ H e s', CX [] H s₁ (fun _ _ _ => False) e s' → False) :
    codeAny (model P w) callerA (.call (.ref fa) ⟨[.ref a], []⟩) (fun r s' => r = .ok (.ret (.bool true)) ∧ OldK s₁.heap s'.heap ∧ s'.os = s₁.os ∧ AllBare s'.gens) s₁ := by
  have len := hi.length
  have rv : Vals (ns.map V.int) vs := vals_ints hi
  -- the abstract heap: the script, locked, if it is not of the written part
  obtain ⟨H, hO, hS, hok, hA⟩ : ∃ H : Hp, Only H ∧ SqL K H a (ns.map V.int) ∧ HOk P w H s₁.heap ∧ ∀ b, H b ≠ none → b = a ∧ K.lookup a = none := by
    cases hk : K.lookup a with
    | some o =>
      have e := (KX a o hk).symm.trans ha
      cases e
      exact ⟨fun _ => none, fun _ => .inl rfl, .inr ⟨_, vs.toArray, _, hk, rfl, rfl, rfl, by rw [List.size_toArray, len]; exact hl, by simpa using rv⟩, fun b u z => (nomatch (show (none : Option HO) = some u from z)), fun b z => absurd rfl z⟩
    | none =>
      let H : Hp := fun b => if b = a then some (.frz { cls := .type "list", data := .seq vs.toArray } (.lst (ns.map V.int))) else none
      have at_a : H a = some (.frz { cls := .type "list", data := .seq vs.toArray } (.lst (ns.map V.int))) := if_pos rfl
      have off : ∀ b, b ≠ a → H b = none := fun b n => if_neg n
      refine ⟨H, fun b => ?_, .inl (.inr ⟨_, at_a⟩), fun b u z => ?_, fun b z => ⟨Classical.byContradiction fun n => z (off b n), rfl⟩⟩
      · by_cases q : b = a
        · exact .inr ⟨_, _, q ▸ at_a⟩
        · exact .inl (off b q)
      · by_cases q : b = a
        · subst q
          cases Option.some.inj (at_a.symm.trans z)
          exact ⟨ha, by rw [List.length_map]; exact hl, vs, _, rv, ha⟩
        · rw [off b q] at z
          cases z
  have out : ∀ {b : Addr} {o : Obj} {u : HO}, s₁.heap.get? b = some o → H b = some u → o = { cls := .type "list", data := .seq vs.toArray } := fun {b o u} e q => by
    have z := (hA b (by rw [q]; exact fun y => nomatch y)).1
    rw [z, ha] at e
    exact (Option.some.inj e).symm
  have lift : ∀ {b : Addr} {m : Str → Option Value}, s₁.heap.Ns b m → (hidT s₁.heap H).Ns b m := fun {b m} ⟨o, es, ep, e, d, r⟩ => by
    refine ⟨o, es, ep, hidT_get e ?_, d, r⟩
    cases q : H b with
    | none => rfl
    | some u =>
      rw [out e q] at d
      cases d
  have hKb : K.In (hidT s₁.heap H) := fun b o e => hidT_get (KX b o e) (by
    cases q : H b with
    | none => rfl
    | some u =>
      obtain ⟨z1, z2⟩ := hA b (by rw [q]; exact fun y => nomatch y)
      rw [z1, z2] at e
      cases e)
  have e0 : Env0 P w K mg (hidT s₁.heap H) callerA [] s₁ H :=
    ⟨rfl, ⟨hKb, lift hns, ⟨mb, lift hb, hbb⟩, let ⟨mc, h1, h2⟩ := hlim; ⟨mc, lift h1, h2⟩⟩, fun b o e => of_hidT e, Nat.le_of_eq (hidT_size _ _), trivial, fun b hb => absurd (show b ∈ ([] : List Addr) from hb) (by simp), hok, .of_eq hg⟩
  refine codeAny_mono ((F _ hKb (lift hns)).run callerA rfl [] s₁ H ⟨[.ref a], []⟩ [.ref a] [.ref a] _ _ hr e0 (hbind s₁ (.ref a)) (.cons rfl .nil) (hsp H hO hS)) fun r s' h => ?_
  match r, h with
  | .error e, h => exact (hCX H e s' h).elim
  | .ok .next, h => exact h.elim
  | .ok .brk, h => exact h.elim
  | .ok .cont, h => exact h.elim
  | .ok (.ret u), ⟨v, H', os, bare, un, hok', r', q⟩ =>
    have q' : v = .bl true := q
    subst q'
    cases (show u = Value.bool true from r')
    refine ⟨rfl, OldK.of_keep fun b o e => ?_, os, bare⟩
    cases z : H b with
    | none => exact un.keep b o e z (fun y => absurd (show b ∈ ([] : List Addr) from y) (by simp)) (by simp)
    | some u =>
      rcases hO b with y | ⟨ob, xs, y⟩
      · rw [z] at y
        cases y
      · have old := (hok b _ y).1
        have new := (hok' b _ (un.frzs b ob _ y)).1
        exact new.trans (old.symm.trans e)
theorem walk_G {l : OpenLaw} {n k : Nat} {q : Program} {loose : List Str} {XP : (Str → Option Value) → Heap → Prop} {YP : World → Heap → Prop} {d : DefRec} {K : Params → Frag} {CX : World → CXT} {sp : World → Sp} {x : Str}
    (hn : l.most = some n) (hn2 : n ≤ sizeLine) (hdf : d.params.defaults = []) (hr : Room k callerA) (hY : ∀ (w : World) (h : Heap), YP w h → (K w.params).In h)
    (F : ∀ (w : World) (mg : Str → Option Value) (fa : Addr) (h : Heap), (K w.params).In h → h.Ns mainGlobals mg → mg d.name = some (.ref fa) →
      ∃ fd : FuncData, (∀ (s : Shared) (u : Value), BindsTo s fd ⟨[u], []⟩ [(x, u)]) ∧ ∀ base : Heap, (K w.params).In base → base.Ns mainGlobals mg → FnG l.prog w (K w.params) mg base (CX w) k fa fd [x] (sp w))
    (hsp : ∀ (w : World) (H : Hp) (a : Addr) (ns : List Int), ns.length ≤ n → (∀ z ∈ ns, Builtin.Int.intBits z ≤ 1048576) → Only H → SqL (K w.params) H a (ns.map V.int) → sp w [.ref a] H (fun v _ => v = .bl true) fun _ _ _ => False)
    (hCX : ∀ (w : World) (H : Hp) (s : Shared) (e : Value) (s' : Shared), CX w [] H s (fun _ _ _ => False) e s' → False) : WalkO q loose XP YP l.row.toRowW d [] (fun f vs => PySem.call f vs) := by
  refine Att.attach_callB hn hdf fun w s₀ s₁ mg mb fa o pm cd doc a vs ns G Y ho hd hcd hmg hobj hints hlen hbits hg => ?_
  obtain ⟨fd, hb, hF⟩ := F w mg fa _ (hY w _ Y) G.T.g hmg
  exact law_callG (hY w _ Y) G.T.g G.T.b G.T.builtins G.T.nolimit hg hobj hints (Nat.le_trans hlen hn2) hr hF hb (fun H hO hS => hsp w H a ns hlen hbits hO hS) fun H e s' => hCX w H s₁ e s'
end LX
end
section
set_option Elab.async false
set_option linter.all false
set_option autoImplicit false
set_option maxRecDepth 100000
set_option maxHeartbeats 1000000
namespace Lo
open PySem PySem.Spec PyProof.Rows L2 Evl

/-! ### operators that serve several kinds -/
def rAddA : R2 := fun x y H Q => (rI0 fun i j => .int (i + j)) x y H Q ∨ rAddStr x y H Q ∨ rCat x y H Q
theorem op_addA {X : Cx} : OpR X (binaryOp .Add) rAddA := OpR.or op_add (OpR.or op_addStr op_cat)
def rLeA : R2 := fun x y H Q => (rI0 fun i j => .bl (decide (i ≤ j))) x y H Q ∨ rLeStr x y H Q
theorem op_leA {X : Cx} : OpR X (compareOp .LtE) rLeA := OpR.or op_le op_leStr
def rMulA : R2 := rI CMulW fun i j => .int (i * j)
theorem op_mulA {X : Cx} : OpR X (binaryOp .Mult) rMulA := op_mulW
def rEqA (K : PySem.W.Frag) (C : Addr) (sp : Sp) : R2 := fun x y H Q => rEqD K x y H Q ∨ LX.rEqI K C sp x y H Q
def rNeA (K : PySem.W.Frag) (C : Addr) (sp : Sp) : R2 := fun x y H Q => rNeD K x y H Q ∨ LX.rNeI K C sp x y H Q
theorem op_eqA {X : Cx} {C : Addr} {sp : Sp} (hu : X.A.units + 64 < cLine) (h : OpR X (compareOp .Eq) (LX.rEqI X.K C sp)) : OpR X (compareOp .Eq) (rEqA X.K C sp) := OpR.or (op_eqD hu) h
theorem op_neA {X : Cx} {C : Addr} {sp : Sp} (hu : X.A.units + 64 < cLine) (h : OpR X (compareOp .NotEq) (LX.rNeI X.K C sp)) : OpR X (compareOp .NotEq) (rNeA X.K C sp) := OpR.or (op_neD hu) h
section
variable {T : Tb} {b : Bd} {own : List OW} {ds : List (Option SV)} {P : PSv}
theorem wr_addI {i j : Int} (p : P (.d (.int (i + j))) own) : WR T b rAddA own (.d (.int i)) (.d (.int j)) P := fun W vx vy ha rx ry Q q => .inl (wr_I0 (P := P) (g := fun i j => i + j) p W vx vy ha rx ry Q q)
theorem wr_addS {x y : PySem.Str} (l : x.length + y.length ≤ 100000) (p : P (.d (.str (x ++ y))) own) : WR T b rAddA own (.d (.str x)) (.d (.str y)) P := fun W vx vy ha rx ry Q q => .inr (.inl (wr_addStr l p W vx vy ha rx ry Q q))
theorem wr_addL {x y : SV} {xs ys : List D} (hx : Thw own x (.lst xs)) (hy : Thw own y (.lst ys)) (nx : ∀ k, x ≠ .p k) (ny : ∀ k, y ≠ .p k) (l : xs.length + ys.length ≤ 100000) (p : P (.d (.lst (xs ++ ys))) own) : WR T b rAddA own x y P := fun W vx vy ha rx ry Q q => by
  cases hx with
  | p e a => exact absurd rfl (nx _)
  | d =>
    cases hy with
    | p e a => exact absurd rfl (ny _)
    | d =>
      obtain ⟨a, vs, rfl, hs, r⟩ := rx
      obtain ⟨c, ws, rfl, hs2, r2⟩ := ry
      refine .inr (.inr ⟨a, c, vs, ws, rfl, rfl, ha.gh _ _ hs, ha.gh _ _ hs2, sz_of (by rw [r.len, r2.len]; exact l), fun t ht => ?_⟩)
      obtain ⟨ha2, l2⟩ := ha.alloc (o := .lst (vs ++ ws)) ht
      exact q _ (.d (.lst (xs ++ ys))) own _ ha2 l2 ⟨t, _, rfl, upd_same, RepL.mono l2.g (repL_app r r2)⟩ p
theorem wr_leI {i j : Int} (p : P (.d (.bl (decide (i ≤ j)))) own) : WR T b rLeA own (.d (.int i)) (.d (.int j)) P := fun W vx vy ha rx ry Q q => .inl (wr_B0 (P := P) (g := fun i j => decide (i ≤ j)) p W vx vy ha rx ry Q q)
theorem wr_leS {x y : PySem.Str} (p : P (.d (.bl (!decide (y.cps.toList < x.cps.toList)))) own) : WR T b rLeA own (.d (.str x)) (.d (.str y)) P := fun W vx vy ha rx ry Q q => .inr (wr_leStr p W vx vy ha rx ry Q q)
theorem wr_mul {i j : Int} (c : CMulW i j) (p : P (.d (.int (i * j))) own) : WR T b rMulA own (.d (.int i)) (.d (.int j)) P := wr_I (g := fun i j => i * j) c p
theorem wr_eqL {C : Addr} {sp : Sp} {x y : SV} {dx dy : D} (tx : Thw own x dx) (ty : Thw own y dy) (fx : dx.okd = true) (fy : dy.okd = true) (p : P (.d (.bl (dx.eqv dy))) own) : WR T b (rEqA T.K C sp) own x y P := fun W vx vy ha rx ry Q q => .inl (wr_eqD tx ty fx fy p W vx vy ha rx ry Q q)
theorem wr_neL {C : Addr} {sp : Sp} {x y : SV} {dx dy : D} (tx : Thw own x dx) (ty : Thw own y dy) (fx : dx.okd = true) (fy : dy.okd = true) (p : P (.d (.bl (!dx.eqv dy))) own) : WR T b (rNeA T.K C sp) own x y P := fun W vx vy ha rx ry Q q => .inl (wr_neD tx ty fx fy p W vx vy ha rx ry Q q)
/-- a value's class, for == -/
def TyO (T : Tb) (C : Addr) (y : D) : Prop := (y.isO = false ∧ PySem.W.notFirst T.K C (.type y.tyN) = true) ∨ (∃ c fs, y = .obj c fs ∧ T.cls c = C ∧ Cls T.K C ∧ PySem.W.findIn T.K (.ref C) "__class__" = some (some (.builtin "object.__class__")) ∧ PySem.W.specialIn T.K (.builtin "object.__class__") "__get__" = some (some (.builtin "getset_descriptor.__get__")) ∧ PySem.W.takesIn T.K (.builtin "object.__class__") = some true ∧ PySem.W.mroIn T.K C (.type "object") = some true)
theorem TyO.get {C : Addr} {y : D} {H : Hp} {v : V} (h : TyO T C y) (r : Rep T H y v) : ∃ t, TyX T.K H v t ∧ PySem.W.notFirst T.K C t = true := by
  rcases h with ⟨n, f⟩ | ⟨c, fs, rfl, rfl, cl, ha, hn, ht, hm⟩
  · exact ⟨_, Rep.tyx n r, f⟩
  · obtain ⟨a, dx, gs, rfl, ho, _⟩ := r
    refine ⟨_, .base (.ins ho cl ha hn ht hm), ?_⟩
    unfold PySem.W.notFirst
    simp
theorem wr_eqO {C : Addr} {F : DF} {y : D} {c : Nat} {fs : List D} (hC : T.cls c = C) (ty : TyO T C y) (f : F [.obj c fs, y] (fun d => ∃ k, d = .bl k ∧ P (.d (.bl k)) own) (fun _ => False)) (mon : ∀ {xs R R' Y Y'}, F xs R Y → (∀ d, R d → R' d) → (∀ e, Y e → Y' e) → F xs R' Y') : WR T b (rEqA T.K C (SpP T F)) own (.d (.obj c fs)) (.d y) P := fun W vx vy ha rx ry Q q => by
  obtain ⟨t, tx, nf⟩ := ty.get (Rep.mono ha.gh ry)
  have r0 := rx
  obtain ⟨a, dx, gs, rfl, ho, en, rr⟩ := rx
  refine .inr ⟨a, dx, gs, t, rfl, hC ▸ ha.gh _ _ ho, tx, nf, W.G, [.obj c fs, y], ha.gh, ⟨_, _, rfl, r0, _, _, rfl, ry, rfl⟩, mon f (fun d ⟨k, ek, p⟩ v G' H' g gh hh hg rv => ?_) fun e y => y.elim⟩
  subst ek
  obtain ⟨ha2, l2⟩ := ha.call g gh hh hg
  exact ⟨k, rv, q _ (.d (.bl k)) own ⟨G', H', W.as⟩ ha2 l2 rfl p⟩
theorem wr_neO {C : Addr} {F : DF} {y : D} {c : Nat} {fs : List D} (hC : T.cls c = C) (ty : TyO T C y) (f : F [.obj c fs, y] (fun d => ∃ k, d = .bl k ∧ P (.d (.bl (!k))) own) (fun _ => False)) (mon : ∀ {xs R R' Y Y'}, F xs R Y → (∀ d, R d → R' d) → (∀ e, Y e → Y' e) → F xs R' Y') : WR T b (rNeA T.K C (SpP T F)) own (.d (.obj c fs)) (.d y) P := fun W vx vy ha rx ry Q q => by
  obtain ⟨t, tx, nf⟩ := ty.get (Rep.mono ha.gh ry)
  have r0 := rx
  obtain ⟨a, dx, gs, rfl, ho, en, rr⟩ := rx
  refine .inr ⟨a, dx, gs, t, rfl, hC ▸ ha.gh _ _ ho, tx, nf, W.G, [.obj c fs, y], ha.gh, ⟨_, _, rfl, r0, _, _, rfl, ry, rfl⟩, mon f (fun d ⟨k, ek, p⟩ v G' H' g gh hh hg rv => ?_) fun e y => y.elim⟩
  subst ek
  obtain ⟨ha2, l2⟩ := ha.call g gh hh hg
  exact ⟨k, rv, q _ (.d (.bl (!k))) own ⟨G', H', W.as⟩ ha2 l2 rfl p⟩
/-- a < b < c -/
theorem we_chain {r r' : R2} {ta tb tc : TE} (h : WE T b ta own ds fun x o1 => WE T b tb o1 ds fun y o2 => WR T b r o2 x y fun z o3 => ∃ k, z = .d (.bl k) ∧ (k = true → WE T b tc o3 ds fun w o4 => WR T b r' o4 y w P) ∧ (k = false → P (.d (.bl false)) o3)) : WE T b (tChain r r' ta tb tc) own ds P := fun W σ ha sl Q q => by
  refine h W σ ha sl _ fun v1 s1 o1 W1 ha1 l1 r1 h1 => ?_
  refine h1 W1 σ ha1 (sl.mono l1) _ fun v2 s2 o2 W2 ha2 l2 r2 h2 => ?_
  refine h2 W2 v1 v2 ha2 (RpS.mono l2 r1) r2 _ fun v3 s3 o3 W3 ha3 l3 r3 ⟨k, e, ht, hf⟩ => ?_
  subst e
  refine ⟨k, r3, ?_⟩
  cases k with
  | true =>
    refine ht rfl W3 σ ha3 (sl.mono ((l1.trans l2).trans l3)) _ fun v4 s4 o4 W4 ha4 l4 r4 h4 => ?_
    exact h4 W4 v2 v4 ha4 (RpS.mono (l3.trans l4) r2) r4 Q fun v s o W5 ha5 l5 r5 p => q v s o W5 ha5 ((((l1.trans l2).trans l3).trans l4).trans l5) r5 p
  | false => exact q _ (.d (.bl false)) o3 W3 ha3 ((l1.trans l2).trans l3) rfl (hf rfl)
/-- truth of an own list -/
theorem wt_truO {ta : TE} {P : Bool → List OW → Prop} (h : WE T b ta own ds fun s o => ∃ k ss, s = .p k ∧ o[k]? = some (.lst ss) ∧ P (!ss.isEmpty) o) : WT T b (fun σ H Q => ta σ H fun x H' => ∃ k, TruV T.K x H' k ∧ Q k H') own ds P := fun W σ ha sl Q q => by
  refine h W σ ha sl _ fun v s o1 W1 ha1 l1 r1 ⟨k, ss, e, ho, p⟩ => ?_
  subst e
  obtain ⟨a, ea, rfl⟩ := r1
  obtain ⟨a', ea', _, _, _, ws, eh, rr⟩ := ha1.ow.get ho
  have z : a' = a := Option.some.inj (ea'.symm.trans ea)
  subst z
  refine ⟨!ss.isEmpty, .inl ⟨ws, sq_of eh, ?_⟩, q _ o1 W1 ha1 l1 p⟩
  have lw := rr.len
  cases ws with
  | nil => cases ss with
    | nil => rfl
    | cons x y => simp at lw
  | cons x y => cases ss with
    | nil => simp at lw
    | cons x y => rfl
/-- isinstance of a class of one's own -/
theorem we_isiC {ta : TE} {C : Addr} (h : WE T b ta own ds fun s o => ∃ d k, Thw o s d ∧ ((d.isO = false ∧ PySem.W.kitOne T.K (.type d.tyN) (.ref C) = some k) ∨ (∃ c fs, d = .obj c fs ∧ TyO T (T.cls c) d ∧ PySem.W.kitOne T.K (.ref (T.cls c)) (.ref C) = some k)) ∧ P (.d (.bl k)) o) : WE T b (tCB (rIsi T.K) (tCons ta (tCons (tC (.ref C)) tNil))) own ds P := fun W σ ha sl Q q => by
  refine h W σ ha sl _ fun v s o1 W1 ha1 l1 r1 ⟨d, k, t, hd, p⟩ => ?_
  have r2 := t.rep ha1 r1
  rcases hd with ⟨f, e⟩ | ⟨c, fs, rfl, ty, e⟩
  · exact ⟨v, .ref C, .type d.tyN, .ref C, k, rfl, .own C, Rep.tyx f r2, e, q _ (.d (.bl k)) o1 W1 ha1 l1 rfl p⟩
  · rcases ty with ⟨z, _⟩ | ⟨c', fs', e', hC, cl, h1, h2, h3, h4⟩
    · cases z
    · cases e'
      obtain ⟨a, dx, gs, rfl, ho, _⟩ := r2
      exact ⟨.ref a, .ref C, .ref (T.cls c), .ref C, k, rfl, .own C, .base (.ins ho cl h1 h2 h3 h4), e, q _ (.d (.bl k)) o1 W1 ha1 l1 rfl p⟩
/-- repr -/
def D.rp (d : D) : Bool := d.pure && d.py.showable && !d.py.hasDict && decide (d.py.depth ≤ 60) && decide (d.py.shown.length ≤ 100000)
def D.isR : D → Bool
  | .lst _ | .tup _ => true
  | _ => false
theorem wc_repr {s : SV} {d : D} (t : Thw own s d) (hr : d.isR = true) (h : d.rp = true) (p : P (.d (.str d.py.shown)) own) : WC T b (LX.rRepr T.K) own [s] P :=
  wc_val (z := .str d.py.shown) (vz := .str d.py.shown) (fun _ => rfl) (fun W vs ha ⟨v, r, ev, rx, er⟩ Q q => by
    subst ev
    have er' : r = [] := er
    subst er'
    simp only [D.rp, Bool.and_eq_true, Bool.not_eq_true', decide_eq_true_eq] at h
    have rr := t.rep ha rx
    refine ⟨v, d.py, rfl, Rep.dp h.1.1.1.1 rr, h.1.1.1.2, h.1.1.2, h.1.2, sz_of h.2, ?_, q⟩
    cases d with
    | lst xs => obtain ⟨a, _, e, _⟩ := rr; exact ⟨a, e⟩
    | tup xs => obtain ⟨a, _, e, _⟩ := rr; exact ⟨a, e⟩
    | non => cases hr
    | bl k => cases hr
    | int k => cases hr
    | str k => cases hr
    | obj c fs => cases hr
    | dct ks vs => cases hr) p
theorem its_ok {W : Wd} {a : Addr} {ns : List Int} (hs : SqL T.K W.G a (ns.map V.int)) : ItOk T b (Itl T.K a) W (ns.map D.int) := fun i W2 own2 l ha => by
  have h2 : SqL T.K W2.H a (ns.map V.int) := ex_l (l.g.trans ha.gh) hs
  refine ⟨fun x e => ?_, fun e => ⟨_, h2, by rw [e, List.length_map, List.length_map]; exact Nat.le_refl _⟩⟩
  rw [List.getElem?_map] at e
  cases q : ns[i]? with
  | none => rw [q] at e; cases e
  | some n =>
    rw [q] at e
    cases e
    have ev : (ns.map V.int)[i]? = some (.int n) := by rw [List.getElem?_map, q]; rfl
    refine ⟨⟨_, _, h2, ev⟩, fun w H' ⟨eh, hw⟩ => ⟨W2, eh.symm, ha, Le.refl _, ?_⟩⟩
    exact Option.some.inj ((hw _ h2).symm.trans ev)
theorem wi_scr {tl : TE} {P : List D → List OW → Prop} (h : WE T b tl own ds fun s o => ∃ ns, s = .scr ns ∧ P (ns.map D.int) o) : WI T b (iSeq T.K tl) own ds P := fun W σ ha sl R q => by
  refine h W σ ha sl _ fun v s o1 W1 ha1 l1 r1 ⟨ns, e, p⟩ => ?_
  subst e
  obtain ⟨a, rfl, hs⟩ := r1
  exact .inl ⟨a, rfl, ⟨_, ex_l ha1.gh hs⟩, q _ _ o1 W1 ha1 l1 (its_ok hs) p⟩
theorem wc_lenScr {ns : List Int} (p : P (.d (.int ns.length)) own) : WC T b (rLen T.K) own [.scr ns] P :=
  wc_val (z := .int ns.length) (vz := .int ns.length) (fun _ => rfl) (fun W vs ha ⟨v, r, ev, ⟨a, e, hs⟩, er⟩ Q q => by
    subst ev
    have er' : r = [] := er
    subst er'
    subst e
    exact ⟨.ref a, ns.length, rfl, .inl ⟨_, ex_l ha.gh hs, by rw [List.length_map]⟩, q⟩) p
end
end Lo
end
section
set_option Elab.async false
set_option linter.all false
set_option autoImplicit false
set_option maxRecDepth 100000
set_option maxHeartbeats 1000000
/-! a class made within a try; what a suite asks of a caught error with attributes -/
namespace LX
open PySem PySem.Spec PyProof.Rows L2 PySem.W PySem.Calls
section
variable {X : Cx} {CX : CXT} {k : Nat} {f C : Addr} {fd : FuncData} {ps : List Str} {sp : Sp} {dvs : List V} {ds : List Value} {E : L2.St → XK} {x : Str} {p pos : Pos} {e : Expr} {es : List Expr} {t : TA}
def tMakeS (C : Addr) (sp : Sp) (dvs : List V) (E : L2.St → XK) (t : TA) : TE := fun σ H Q => t σ H fun vs H1 => ∀ x dx, H1 x = none → H1 dx = none → dx ≠ x →
  sp (.ref x :: (vs ++ dvs)) (upd (upd H1 dx (.own x)) x (.ins C dx [])) (fun v H2 => v = .non ∧ Q (.ref x) H2) (E σ)
theorem pe_makeS (M : Mk X.K C f) (F : FnOk X.prog X.w X.K X.mg X.base CX k f fd ps sp) (hr : Room (k + 1) X.A) (hg : Gl X x) (hm : X.mg x = some (.ref C)) (hb : Binds X.K fd ps ds) (hd : Vals dvs ds) (hx : ∀ σ, PassesAt CX X σ (E σ))
    (ha : PA X (e :: es) t) (hdb : (x == ("__debug__" : Str)) = false := by decide) (he : starEach (e :: es) X.env = (false, eval e X.env) :: starEach es X.env := by rfl) (hpl : (backTo pos (starEach es X.env)).any (·.1) = false := by rfl) :
    PE X (.Call (.Name x p) (e :: es) [] pos) (tMakeS C sp dvs E t) := by
  refine ⟨fun pins s σ H Q I h => wpAny_Call_Name_kw (ld_glob I hg hm ?_ hdb)⟩
  refine callWith_K (h₀ := X.base) I.ok.mod.kin M.kp (thn (ha.run pos pins s σ H _ I h) fun us s1 hh => ?_) he hpl
  obtain ⟨vs, H1, J, r, hq0⟩ := hh
  refine ⟨J.kIn, ?_⟩
  have nz : s1.heap.objs.size ≠ s1.heap.objs.size + 1 := Nat.ne_of_lt (Nat.lt_succ_self _)
  have hq := hq0 (s1.heap.objs.size + 1) s1.heap.objs.size (J.hok.fresh (Nat.le_succ _)) (J.hok.fresh (Nat.le_refl _)) nz
  have J2 := Inv.made (C := C) J
  have rr : Vals (V.ref (s1.heap.objs.size + 1) :: (vs ++ dvs)) (Value.ref (s1.heap.objs.size + 1) :: (us ++ ds)) := .cons rfl (r.append hd)
  have hlen : (Value.ref (s1.heap.objs.size + 1) :: us ++ ds).length = ps.length := (rr.length.symm.trans (F.len _ _ _ _ hq) : _)
  refine wpAny_call (make_map (f := f) J.kIn M.makes M.init (beq_iff_eq.mp M.fn) (codeAny_mono (F.run _ X.stack _ _ ⟨Value.ref (s1.heap.objs.size + 1) :: us, []⟩ _ _ _ (E σ) (hr.make C us [])
    (J2.env0.make C us []) (hb _ (Value.ref (s1.heap.objs.size + 1) :: us) J2.kIn hlen) rr hq) fun res s' hres => ?_))
  match res, hres with
  | .error e, hz => exact hx σ pins _ _ e s' J2 hz
  | .ok (.ret u), hz =>
    obtain ⟨v, H', J3, rv, ev, q3⟩ := J2.after hz
    subst ev
    exact ⟨rv, V.ref (s1.heap.objs.size + 1), H', J3, rfl, q3⟩
  | .ok .next, hz => exact hz.elim
  | .ok .brk, hz => exact hz.elim
  | .ok .cont, hz => exact hz.elim
end
/-- isinstance(e, c), e the caught error, with a dict of its own -/
def rIsD (K : Frag) (cls : Value) (d : Option Addr) (a : Addr) : List V → Hp → VK → Prop := fun xs H Q => ∃ (D dd : Addr) (fs : List (Str × V)) (c : V) (cv : Value) (b : Bool), xs = [.ref a, c] ∧ cls = .ref D ∧ d = some dd ∧ ExcC K D ∧ H dd = some (.xd fs) ∧ (∀ u, RelV c u → u = cv) ∧ kitOne K (.ref D) cv = some b ∧ Q (.bl b) H
theorem call_isD {X : Cx} {a : Addr} {cls : Value} {d : Option Addr} {oe : Obj} {pn : List (Addr × Obj)} (hz : Zc cls d oe) (hf : ∃ vs, oe.data = .fields vs) : CallR (X.suite a ((a, oe) :: pn)) (.builtin "isinstance") (rIsD X.K cls d a) := by
  intro pins s σ H xs us Q I r h
  obtain ⟨D, dd, fs, c, cv, b, rfl, ec, ed, C, hH, hcv, hk, q⟩ := h
  subst ec
  subst ed
  cases r with
  | cons rx rr =>
    cases rr with
    | cons rt rn =>
      cases rn
      cases rx
      cases hcv _ rt
      have pin := (I.pin (a, oe) (List.mem_append.mpr (.inl List.mem_cons_self))).1
      obtain ⟨vs, hv⟩ := hf
      have hx : ObjOk X.prog X.w H s.heap dd (.xd fs) := I.hok dd _ hH
      obtain ⟨mA, hns, _⟩ := hx
      obtain ⟨od, ho, _⟩ := lookIn_ns hns
      have J : InstAt s.heap a oe D (some od) := ⟨pin, hz.1, by unfold notCls; rw [hv] <;> rfl, by rw [hz.2]; exact ho⟩
      have hc : (clsIn X.K D).isSome = true := by
        obtain ⟨cd, hc, _⟩ := any_some C.hd
        rw [hc]
        rfl
      exact kia_one (kitx_exc hc C.hg C.hk C.hs C.ha C.hn C.ht C.hm) I.kIn J hk (fun z => nomatch z) fun tk => ⟨.bl b, H, I.kept (t' := tk) fun _ _ z => z, rfl, q⟩
/-- e.f, e the caught error -/
def tXd (K : Frag) (a : Addr) (cls : Value) (d : Option Addr) (n : Str) (te : TE) : TE := fun σ H Q => te σ H fun x H1 => x = .ref a ∧ ∃ (C dd : Addr) (fs : List (Str × V)) (v : V), cls = .ref C ∧ XfC K C ∧ findIn K (.ref C) n = some none ∧ d = some dd ∧ H1 dd = some (.xd fs) ∧ fs.lookup n = some v ∧ Q v H1
theorem pe_xd {X : Cx} {a : Addr} {oe : Obj} {cls : Value} {d : Option Addr} {pn : List (Addr × Obj)} {e : Expr} {te : TE} {pos : Pos} {n : Str}
    (hz : Zc cls d oe) (hf : ∃ vs, oe.data = .fields vs) (he : PE (X.suite a ((a, oe) :: pn)) e te) (hb : attributeBase e n X.env (eval e X.env) = eval e X.env := by rfl) :
    PE (X.suite a ((a, oe) :: pn)) (.Attribute e n pos) (tXd X.K a cls d n te) := by
  refine ⟨fun pins s σ H Q I h => attr_of hb (thn (he.run pins s σ H _ I h) fun u s1 hh => ?_)⟩
  obtain ⟨x, H1, J, rx, rfl, C, dd, fs, v, ec, T, hno, ed, ea, lk, q⟩ := hh
  cases (show u = Value.ref a from rx)
  subst ec
  subst ed
  have pin := (J.pin (a, oe) (List.mem_append_left _ List.mem_cons_self)).1
  obtain ⟨vs, hd⟩ := hf
  have hx : ObjOk X.prog X.w H1 s1.heap dd (.xd fs) := J.hok dd _ ea
  obtain ⟨mA, hns, hrl⟩ := hx
  obtain ⟨od, ho, hl⟩ := lookIn_ns hns
  obtain ⟨w, hw, rw'⟩ := RelO.some_of (v := v) (o := mA n) (by rw [← lk]; exact hrl n)
  have IA : InstAt s1.heap a oe C (some od) := ⟨pin, hz.1, by unfold notCls; rw [hd] <;> rfl, by rw [hz.2]; exact ho⟩
  exact HandSPX.exc_get J.kIn IA T.ga T.gg T.exC (findObj_own T.hdC hno rfl (by rw [hl, hw])) (handed_of rw') ⟨v, H1, J.tok _, rw', q⟩
end LX
namespace Lo
open PySem PySem.Spec PyProof.Rows L2 Evl
section
variable {T : Tb} {b : Bd} {own : List OW} {ds : List (Option SV)} {P : PSv}
abbrev Mon (F : DF) : Prop := ∀ {xs R R' Y Y'}, F xs R Y → (∀ d, R d → R' d) → (∀ e, Y e → Y' e) → F xs R' Y'
/-- the way into a suite: the error's dict stands for good from now on -/
theorem HA.caught {W : Wd} (ha : HA T b W own) {dx : Addr} {H' : Hp} {fs : List (PySem.Str × V)} (hh : Ex W.H H') (nd : W.H dx = none) (hd : H' dx = some (.xd fs)) :
    HA T b ⟨upd W.G dx (.xd fs), H', W.as⟩ own ∧ Le W ⟨upd W.G dx (.xd fs), H', W.as⟩ := by
  have gd : W.G dx = none := fresh_back ha.gh nd
  refine ha.call (Ex.new gd) (fun y o q => ?_) hh fun y n1 n2 => ?_
  · by_cases z : y = dx
    · subst z
      rw [upd_same] at q
      rw [hd, q]
    · rw [upd_ne z] at q
      exact hh _ _ (ha.gh _ _ q)
  · have z : y ≠ dx := fun z => n1 (z ▸ nd)
    rw [upd_ne z]
    exact n2
def Po.back (Φ : Po) (j : Nat) : Po := ⟨fun o s => Φ.nx o (s.set j none), Φ.rt, fun o s => Φ.bk o (s.set j none), fun o s => Φ.ct o (s.set j none)⟩
/-- what a try wants of an error: its suite runs -/
def Caught (T : Tb) (b : Bd) (c : Value) (j : Nat) (ts : Addr → Value → Option Addr → TS) (own : List OW) (ds : List (Option SV)) (Φ : Po) : Er → Prop := fun e => PySem.W.exmOne T.K (.ref (T.cls e.c)) c = some true ∧
  ∀ a dx, WS T b (ts a (.ref (T.cls e.c)) (some dx)) own (ds.set j (some (.x a dx e.fs))) (Φ.back j)
theorem caught_go {W : Wd} {σ : L2.St} {D : Ends} {Φ : Po} {c : Value} {j : Nat} {ts : Addr → Value → Option Addr → TS} {Wout : WX} (ha : HA T b W own) (sl : SlL T W σ ds) (d : DOk T b W D Φ) {e : Er} (y : Caught T b c j ts own ds Φ e) {dx : Addr} {H' : Hp} (hh : Ex W.H H') (nd : W.H dx = none) (hd : H' dx = some (.xd e.fs)) :
    wAs T.K c j ts Wout D (.ref (T.cls e.c)) (some dx) σ H' := by
  obtain ⟨hm, hs⟩ := y
  refine ⟨true, hm, fun _ a na => ?_, fun z => Bool.noConfusion z⟩
  obtain ⟨h2, l2⟩ := ha.caught hh nd hd
  have rx : RpS T ⟨upd W.G dx (.xd e.fs), H', W.as⟩ (.x a dx e.fs) (.ref a) := ⟨rfl, upd_same⟩
  refine hs a dx ⟨upd W.G dx (.xd e.fs), H', W.as⟩ (σ.set j (some (.ref a))) h2 (SlL.set (fun sv q => by cases q; exact rx) j (sl.mono l2)) _ ⟨fun σ' o s W' h' l' sl' n => ?_, fun v s o W' h' l' r' p => d.rt v s o W' h' (l2.trans l') r' p, fun σ' o s W' h' l' sl' n => ?_, fun σ' o s W' h' l' sl' n => ?_⟩
  · exact d.nx _ o _ W' h' (l2.trans l') (SlL.setNone j sl') n
  · exact d.bk _ o _ W' h' (l2.trans l') (SlL.setNone j sl') n
  · exact d.ct _ o _ W' h' (l2.trans l') (SlL.setNone j sl') n
/-- try: x = f(..) except .. as n: suite -/
theorem ws_tryCall {F : DF} {dvs : List V} {dd : List D} {i j : Nat} {c : Value} {ts : Addr → Value → Option Addr → TS} {Wout : WX} {ta : TA} {Φ : Po} (mon : Mon F) (hd : ∀ G, RepL T G dd dvs)
    (h : WA T b ta own ds fun ss o => ∃ xs, AllD ss xs ∧ F (xs ++ dd) (fun d => Φ.nx o (ds.set i (some (.d d)))) (Caught T b c j ts o ds Φ)) :
    WS T b (fun D => tAsg (tCallSD (SpP T F) dvs (L2.WE (wAs T.K c j ts Wout D)) ta) (gName i) D) own ds Φ := fun W σ ha sl D d => by
  refine h W σ ha sl _ fun vs ss o1 W1 ha1 l1 r1 ⟨xs, e, f⟩ => ?_
  rw [e.eq] at r1
  refine ⟨W1.G, xs ++ dd, ha1.gh, repL_app (RpSL.ds r1) (hd _), mon f (fun y p v G' H' g gh hh hg rv => ?_) fun er y dx H' hh hn hf => ?_⟩
  · obtain ⟨ha2, l2⟩ := ha1.call g gh hh hg
    exact d.nx _ o1 _ ⟨G', H', W1.as⟩ ha2 (l1.trans l2) (SlL.set (fun sv q => by cases q; exact rv) i (sl.mono (l1.trans l2))) p
  · exact caught_go ha1 (sl.mono l1) (d.up l1) y hh hn hf
/-- try: x = C(..) except .. as n: suite -/
theorem ws_tryMake {F : DF} {k : Nat} {C : Addr} {dvs : List V} {dd : List D} {i j : Nat} {c : Value} {ts : Addr → Value → Option Addr → TS} {Wout : WX} {ta : TA} {Φ : Po} (hC : T.cls k = C) (mon : Mon F) (hd : ∀ G, RepL T G dd dvs)
    (h : WA T b ta own ds fun ss o => ∃ xs, AllD ss xs ∧ F (xs ++ dd) (fun d => (∃ fs, d = .obj k fs) ∧ Φ.nx o (ds.set i (some (.d d)))) (Caught T b c j ts o ds Φ)) :
    WS T b (fun D => tAsg (LX.tMakeS C (SpI T k F) dvs (L2.WE (wAs T.K c j ts Wout D)) ta) (gName i) D) own ds Φ := fun W σ ha sl D d => by
  subst hC
  refine h W σ ha sl _ fun vs ss o1 W1 ha1 l1 r1 ⟨xs, e, f⟩ x dx nx nd ne => ?_
  rw [e.eq] at r1
  refine make_core (F := F) (xs := xs ++ dd) (o := o1) (Q := fun x H1 => gName i x σ H1 D.nx) (E := L2.WE (wAs T.K c j ts Wout D) σ) ha1 (repL_app (RpSL.ds r1) (hd _)) mon f (fun y v W' h' l' r' rd => ?_) (fun er ddx H' hh hn hf y => ?_) (fun y rd => rd.1) nx nd ne
  · exact d.nx _ o1 _ W' h' (l1.trans l') (SlL.set (fun sv q => by cases q; exact r') i (sl.mono (l1.trans l'))) rd.2
  · exact caught_go ha1 (sl.mono l1) (d.up l1) y hh hn hf
theorem we_isD {te : TE} {K : PySem.W.Frag} {cls : Value} {dA : Option Addr} {a : Addr} {v : V} {cv : Value} (hK : K = T.K) (hv : ∀ u, RelV v u → u = cv)
    (h : WE T b te own ds fun s o => ∃ dx fs D k, s = .x a dx fs ∧ cls = .ref D ∧ dA = some dx ∧ ExcC T.K D ∧ PySem.W.kitOne T.K (.ref D) cv = some k ∧ P (.d (.bl k)) o) : WE T b (tCB (LX.rIsD K cls dA a) (tCons te (tCons (tC v) tNil))) own ds P := fun W σ ha sl Q q => by
  subst hK
  refine h W σ ha sl _ fun w s o1 W1 ha1 l1 r1 ⟨dx, fs, D, k, e, ec, ed, hC, hk, p⟩ => ?_
  subst e
  obtain ⟨rfl, hg⟩ := r1
  exact ⟨D, dx, fs, v, cv, k, rfl, ec, ed, hC, ha1.gh _ _ hg, hv, hk, q _ (.d (.bl k)) o1 W1 ha1 l1 rfl p⟩
theorem we_xd {te : TE} {K : PySem.W.Frag} {cls : Value} {dA : Option Addr} {a : Addr} {n : PySem.Str} (hK : K = T.K)
    (h : WE T b te own ds fun s o => ∃ dx fs D v d, s = .x a dx fs ∧ cls = .ref D ∧ dA = some dx ∧ XfC T.K D ∧ PySem.W.findIn T.K (.ref D) n = some none ∧ fs.lookup n = some v ∧ (∀ G, Rep T G d v) ∧ P (.d d) o) : WE T b (LX.tXd K a cls dA n te) own ds P := fun W σ ha sl Q q => by
  subst hK
  refine h W σ ha sl _ fun w s o1 W1 ha1 l1 r1 ⟨dx, fs, D, v, d, e, ec, ed, hX, hn, hl, rd, p⟩ => ?_
  subst e
  obtain ⟨rfl, hg⟩ := r1
  exact ⟨rfl, D, dx, fs, v, ec, hX, hn, ed, ha1.gh _ _ hg, hl, q v (.d d) o1 W1 ha1 l1 (rd _) p⟩
end
end Lo
end
section
set_option Elab.async false
set_option linter.all false
set_option autoImplicit false
set_option maxRecDepth 100000
set_option maxHeartbeats 1000000
/-! defs, by what they do to data -/
namespace Lo
open PySem PySem.Spec PyProof.Rows L2 Evl

/-- what a def does: for each i let by pre, called with args i, it answers some d that post tells or lets out some e that perr tells -/
def Fv {ι : Type} (args : ι → List D) (pre : ι → Prop) (post : ι → D → Prop) (perr : ι → Er → Prop) : DF := fun xs R X => ∃ i, xs = args i ∧ pre i ∧ (∀ d, post i d → R d) ∧ ∀ e, perr i e → X e
theorem Fv.mon {ι : Type} {args : ι → List D} {pre : ι → Prop} {post : ι → D → Prop} {perr : ι → Er → Prop} : Mon (Fv args pre post perr) := fun ⟨i, e, p, r, x⟩ hr hx => ⟨i, e, p, fun d h => hr d (r d h), fun e h => hx e (x e h)⟩
def noErr {ι : Type} : ι → Er → Prop := fun _ _ => False
def slots (N : List PySem.Str) (xs : List SV) : List (Option SV) := xs.map some ++ List.replicate (N.length - xs.length) none
abbrev Pv (post : D → Prop) : Po := ⟨fun _ _ => post .non, fun s _ => ∃ d, s = .d d ∧ post d, fun _ _ => False, fun _ _ => False⟩
abbrev PvH (post : D → Prop) : Po := ⟨fun o _ => o[0]? = some .hand ∧ post .non, fun s o => o[0]? = some .hand ∧ ∃ d, s = .d d ∧ post d, fun _ _ => False, fun _ _ => False⟩
abbrev PvI (T : Tb) (c : Nat) (post : D → Prop) : Po := ⟨fun o _ => ∃ fs xs, o[0]? = some (.ins c fs) ∧ fs.map (·.1) = T.fld c ∧ AllD (fs.map (·.2)) xs ∧ post (.obj c xs), fun _ _ => False, fun _ _ => False, fun _ _ => False⟩
section
variable {T : Tb} {ι : Type} {args : ι → List D} {pre : ι → Prop} {post : ι → D → Prop} {perr : ι → Er → Prop}
theorem rpSL_slots {W : Wd} {N : List PySem.Str} : ∀ {xs : List SV} {vs : List V}, RpSL T W xs vs → SlL T W (L2.start N vs) (slots N xs) := by
  have rep : ∀ n, SlL T W (List.replicate n none) (List.replicate n none) := fun n => by
    induction n with
    | zero => exact rfl
    | succ n ih => exact ⟨none, _, rfl, (fun sv (e : (none : Option SV) = some sv) => nomatch e), ih⟩
  have key : ∀ (n : Nat) {xs : List SV} {vs : List V}, RpSL T W xs vs → SlL T W (vs.map some ++ List.replicate n none) (xs.map some ++ List.replicate n none) := by
    intro n xs
    induction xs with
    | nil =>
      intro vs h
      have h' : vs = [] := h
      subst h'
      exact rep n
    | cons x xs ih =>
      intro vs ⟨v, r, e, h1, h2⟩
      subst e
      exact ⟨some x, _, rfl, fun sv e => by cases e; exact ⟨v, rfl, h1⟩, ih h2⟩
  intro xs vs h
  unfold slots L2.start
  rw [RpSL.len h]
  exact key _ h
theorem spP_len {n : Nat} (hn : ∀ i, (args i).length = n) {vs : List V} {H : Hp} {Q : VK} {E : XK} (h : SpP T (Fv args pre post perr) vs H Q E) : vs.length = n := by
  obtain ⟨G, ds, g, r, i, e, _⟩ := h
  rw [r.len, e, hn]
theorem spH_len {n : Nat} (hn : ∀ i, (args i).length + 1 = n) {vs : List V} {H : Hp} {Q : VK} {E : XK} (h : SpH T (Fv args pre post perr) vs H Q E) : vs.length = n := by
  obtain ⟨a, G, ds, ws, e, _, _, _, r, i, e2, _⟩ := h
  rw [e, List.length_cons, r.len, e2, hn]
theorem spI_len {c n : Nat} (hn : ∀ i, (args i).length + 1 = n) {vs : List V} {H : Hp} {Q : VK} {E : XK} (h : SpI T c (Fv args pre post perr) vs H Q E) : vs.length = n := by
  obtain ⟨x, dx, G, ds, ws, e, _, _, _, r, i, e2, _⟩ := h
  rw [e, List.length_cons, r.len, e2, hn]
theorem runP {N : List PySem.Str} {E : XK} {t : TS} {vs : List V} {H : Hp} {Q : VK} (h : SpP T (Fv args pre post perr) vs H Q E) (hb : ∀ b i, pre i → XOk T b E (perr i) → WS T b t [] (slots N ((args i).map SV.d)) (Pv (post i))) : t { nx := fun _ H' => Q .non H', rt := Q } (L2.start N vs) H := by
  obtain ⟨G0, ds, g, r, i, rfl, p, hr, hx⟩ := h
  refine bodyP (F := Fv args pre post perr) (E := E) (xs := args i) (vs := vs) g (rpSL_slots (W := ⟨G0, H, []⟩) (RepL.sv (W := ⟨G0, H, []⟩) r)) (WS.imp (hb _ i p ?_) (fun o s z => hr _ z) (fun s o ⟨d, e, z⟩ => ⟨d, e, hr d z⟩) (fun _ _ z => z) fun _ _ z => z)
  exact fun e dx H' k n f x => hx e x dx H' k n f
theorem runH {N : List PySem.Str} {E : XK} {t : TS} {vs : List V} {H : Hp} {Q : VK} (h : SpH T (Fv args pre post perr) vs H Q E) (hb : ∀ b i, pre i → WS T b t [.hand] (slots N (.p 0 :: (args i).map SV.d)) ⟨fun _ _ => False, (PvH (post i)).rt, fun _ _ => False, fun _ _ => False⟩) : t { nx := fun _ H' => Q .non H', rt := Q } (L2.start N vs) H := by
  obtain ⟨a, G0, ds, ws, rfl, ga, g, hd, r, i, rfl, p, hr, hx⟩ := h
  refine bodyH (F := Fv args pre post perr) (E := E) ga g hd (rpSL_slots (W := ⟨G0, H, [a]⟩) (xs := .p 0 :: (args i).map SV.d) ⟨.ref a, ws, rfl, ⟨a, rfl, rfl⟩, RepL.sv (W := ⟨G0, H, [a]⟩) r⟩) (WS.imp (hb _ i p) (fun o s z => z) (fun s o ⟨h0, d, e, z⟩ => ⟨h0, d, e, hr d z⟩) (fun _ _ z => z) fun _ _ z => z)
theorem runI {c : Nat} {N : List PySem.Str} {E : XK} {t : TS} {vs : List V} {H : Hp} {Q : VK} (h : SpI T c (Fv args pre post perr) vs H Q E) (hb : ∀ b i, pre i → XOk T b E (perr i) → WS T b t [.ins c []] (slots N (.p 0 :: (args i).map SV.d)) (PvI T c (post i))) : t { nx := fun _ H' => Q .non H', rt := Q } (L2.start N vs) H := by
  obtain ⟨x, dx, G0, ds, ws, rfl, hx0, gx, g, r, i, rfl, p, hr, hx⟩ := h
  let b : Bd := ⟨fun y => if y = x then none else H y, fun y => y ≠ x ∧ H y ≠ none ∧ G0 y = none⟩
  have bh : Ex b.B H := fun y o q => by
    by_cases z : y = x
    · subst z
      have q' : (if y = y then none else H y) = some o := q
      rw [if_pos rfl] at q'
      cases q'
    · have q' : (if y = x then none else H y) = some o := q
      rw [if_neg z] at q'
      exact q'
  have how : Ow T b ⟨G0, H, [x]⟩ x (.ins c []) := ⟨gx, if_pos rfl, fun z => z.1 rfl, dx, [], hx0, rfl, rfl⟩
  have ha : HA T b ⟨G0, H, [x]⟩ [.ins c []] := ⟨g, bh, fun y n => ⟨n.2.2, n.2.1⟩, by simp, ⟨_, _, rfl, how, rfl⟩⟩
  have sl : SlL T ⟨G0, H, [x]⟩ (L2.start N (.ref x :: ws)) (slots N (.p 0 :: (args i).map SV.d)) := rpSL_slots (W := ⟨G0, H, [x]⟩) (xs := .p 0 :: (args i).map SV.d) ⟨.ref x, ws, rfl, ⟨x, rfl, rfl⟩, RepL.sv (W := ⟨G0, H, [x]⟩) r⟩
  refine hb b i p (fun e ddx H' k n f y => ?_) ⟨G0, H, [x]⟩ _ ha sl _ ⟨fun σ' o s W' h' l sl' ⟨fs, xs, ho, hn, hal, z⟩ => ?_, fun v s o W' h' l r z => z.elim, fun _ _ _ _ _ _ _ z => z.elim, fun _ _ _ _ _ _ _ z => z.elim⟩
  · refine hx e y ddx H' (fun y o ny q => k y o ?_) ?_ f
    · show (if y = x then none else H y) = some o
      rw [if_neg ny]
      exact q
    · have n' : (if ddx = x then none else H ddx) = none := n
      by_cases z : ddx = x
      · exact .inr z
      · rw [if_neg z] at n'
        exact .inl n'
  · obtain ⟨a', ea, ga', _, _, dx', gs, eh, en, rr⟩ := h'.ow.get ho
    have ea2 : W'.as[0]? = some x := prefix_get l.a rfl
    have z' : a' = x := Option.some.inj (ea.symm.trans ea2)
    subst z'
    obtain ⟨fs', e', hk⟩ := hr _ z
    cases e'
    have rr' := RpSL.ds (ds := xs) (by rw [← hal.eq]; exact rr)
    exact hk W'.G W'.H gs dx' l.g h'.gh (fun y o ny q => h'.bh y o (by show (if y = a' then none else H y) = some o; rw [if_neg ny]; exact q)) (fun y n1 n2 => by
      by_cases z : y = a'
      · subst z
        exact ga'
      · exact (h'.nn y ⟨z, n1, n2⟩).1) ga' eh (en.trans hn) rr'
end
theorem xok0 {T : Tb} {b : Bd} {E : XK} : XOk T b E (fun _ => False) := fun _ _ _ _ _ _ x => x.elim
section
variable {T : Tb} {b : Bd} {own : List OW} {ds : List (Option SV)} {P : PSv} {ι : Type} {args : ι → List D} {pre : ι → Prop} {post : ι → D → Prop} {perr : ι → Er → Prop}
/-- a call that lets nothing out: i what it is called with -/
structure Goes (args : ι → List D) (pre : ι → Prop) (post : ι → D → Prop) (perr : ι → Er → Prop) (xs : List D) (R : D → Prop) : Prop where
  ex : ∃ i, xs = args i ∧ pre i ∧ (∀ e, ¬ perr i e) ∧ ∀ d, post i d → R d
theorem Goes.fv {xs : List D} {R : D → Prop} {X : Er → Prop} (h : Goes args pre post perr xs R) : Fv args pre post perr xs R X := by
  obtain ⟨i, e, p, n, r⟩ := h.ex
  exact ⟨i, e, p, r, fun e z => (n e z).elim⟩
theorem we_cal {dvs : List V} {dd : List D} {E : XK} {ta : TA} (hd : ∀ G, RepL T G dd dvs) (h : WA T b ta own ds fun ss o => ∃ xs, AllD ss xs ∧ Goes args pre post perr (xs ++ dd) (fun d => P (.d d) o)) : WE T b (tCall (SpP T (Fv args pre post perr)) dvs E ta) own ds P :=
  we_call xok0 hd (fun W σ ha sl Q q => h W σ ha sl Q fun vs ss o W' h' l r ⟨xs, e, g⟩ => q vs ss o W' h' l r ⟨xs, e, g.fv⟩) Fv.mon
theorem we_cal0 {E : XK} {ta : TA} (h : WA T b ta own ds fun ss o => ∃ xs, AllD ss xs ∧ Goes args pre post perr (xs ++ []) (fun d => P (.d d) o)) : WE T b (tCall (SpP T (Fv args pre post perr)) [] E ta) own ds P := we_cal (dd := []) (fun _ => rfl) h
theorem we_cal2 {E : XK} {ta : TA} (h : WA T b ta own ds fun ss o => ∃ xs, AllD ss xs ∧ Goes args pre post perr (xs ++ [.non, .non]) (fun d => P (.d d) o)) : WE T b (tCall (SpP T (Fv args pre post perr)) [.non, .non] E ta) own ds P := we_cal (dd := [.non, .non]) (fun _ => ⟨.non, _, rfl, rfl, .non, _, rfl, rfl, rfl⟩) h
/-- .. that draws -/
theorem we_calH {E : XK} {ta : TA} (h : WA T b ta own ds fun ss o => ∃ k sr xs, ss = .p k :: sr ∧ o[k]? = some .hand ∧ AllD sr xs ∧ Goes args pre post perr (xs ++ []) (fun d => P (.d d) o)) : WE T b (tCall (SpH T (Fv args pre post perr)) [] E ta) own ds P :=
  we_callH (dd := []) (fun _ => rfl) (fun W σ ha sl Q q => h W σ ha sl Q fun vs ss o W' h' l r ⟨k, sr, xs, e1, e2, e3, g⟩ => q vs ss o W' h' l r ⟨k, sr, xs, e1, e2, e3, g.fv⟩) Fv.mon
/-- a class is called -/
theorem we_mak {c : Nat} {C : Addr} {dvs : List V} {dd : List D} {E : XK} {ta : TA} (hC : T.cls c = C) (hd : ∀ G, RepL T G dd dvs) (h : WA T b ta own ds fun ss o => ∃ xs, AllD ss xs ∧ Goes args pre post perr (xs ++ dd) (fun d => (∃ fs, d = .obj c fs) ∧ P (.d d) o)) : WE T b (tMake C (SpI T c (Fv args pre post perr)) dvs E ta) own ds P :=
  we_make hC xok0 hd (fun W σ ha sl Q q => h W σ ha sl Q fun vs ss o W' h' l r ⟨xs, e, g⟩ => q vs ss o W' h' l r ⟨xs, e, g.fv⟩) Fv.mon
theorem we_prp {C : Addr} {E : XK} {ta : TE} (h : WE T b ta own ds fun s o => ∃ c fs, s = .d (.obj c fs) ∧ T.cls c = C ∧ Goes args pre post perr [.obj c fs] (fun d => P (.d d) o)) : WE T b (tProp C (SpP T (Fv args pre post perr)) [] E ta) own ds P :=
  we_prop (F := Fv args pre post perr) xok0 (h.imp fun s o ⟨c, fs, e1, e2, g⟩ => ⟨c, fs, e1, e2, g.fv⟩) Fv.mon
end
theorem OwP_nil {n : Nat} : OwP n [] := fun o m => by cases m
theorem OwP_cons {n : Nat} {o : OW} {os : List OW} (h : (∀ xs, o = .lst xs → ∀ x ∈ xs, ∀ k, x = .p k → k < n) ∧ (∀ c fs, o = .ins c fs → ∀ x ∈ fs.map (·.2), ∀ k, x = .p k → k < n) ∧ (∀ kvs, o = .dct kvs → ∀ x ∈ kvs.map (·.2), ∀ k, x = .p k → k < n)) (r : OwP n os) : OwP n (o :: os) := fun q m => by
  rcases List.mem_cons.mp m with e | m
  · rw [e]
    exact h
  · exact r q m
theorem OwP_hand {n : Nat} {os : List OW} (r : OwP n os) : OwP n (.hand :: os) := OwP_cons ⟨fun _ e => (nomatch e), fun _ _ e => (nomatch e), fun _ e => (nomatch e)⟩ r
theorem OwP_gone {n : Nat} {os : List OW} (r : OwP n os) : OwP n (.gone :: os) := OwP_cons ⟨fun _ e => (nomatch e), fun _ _ e => (nomatch e), fun _ e => (nomatch e)⟩ r
theorem OwP_ho {n : Nat} {f : Addr → HO} {os : List OW} (r : OwP n os) : OwP n (.ho f :: os) := OwP_cons ⟨fun _ e => (nomatch e), fun _ _ e => (nomatch e), fun _ e => (nomatch e)⟩ r
theorem OwP_lst {n : Nat} {xs : List D} {os : List OW} (r : OwP n os) : OwP n (.lst (xs.map SV.d) :: os) := by
  refine OwP_cons ⟨fun ys e x m k z => ?_, fun _ _ e => (by cases e), fun _ e => (by cases e)⟩ r
  cases e
  obtain ⟨d, _, e⟩ := List.mem_map.mp m
  rw [← e] at z
  cases z
/-! ### as they stand in the text -/
section
variable {P : Program} {w : World} {K : PySem.W.Frag} {mg : PySem.Str → Option Value} {base : Heap} {x qual : PySem.Str} {st : Stmt} {dvs : List V} {f : Addr} {fd : FuncData} {N ps : List PySem.Str} {k : Nat} {T : Tb}
variable {ι : Type} {args : ι → List D} {pre : ι → Prop} {post : ι → D → Prop} {perr : ι → Er → Prop}
/-- a def of the text, at f, its defaults dvs -/
abbrev DefAt (K : PySem.W.Frag) (x qual : PySem.Str) (st : Stmt) (dvs : List V) (f : Addr) (fd : FuncData) : Prop := FunD K x qual (defArgs st) (defBody st) (defScope st) dvs [] f fd
abbrev CxB (P : Program) (w : World) (K : PySem.W.Frag) (mg : PySem.Str → Option Value) (base : Heap) (N : List PySem.Str) (qual : PySem.Str) (st : Stmt) (f : Addr) (cdv : Value) (A : Around) (outer : List Env) (s : Shared) (H : Hp) (E : XK) : Cx :=
  cxOf (L2.CX P w) P w K mg base N qual (defScope st) f cdv A outer s H E
theorem okP (ss : ι → List (Option SV)) (F : DefAt K x qual st dvs f fd) (S : FnScope N ps (defScope st)) (hn : ∀ i, (args i).length = ps.length)
    (hb : ∀ (cdv : Value) (A : Around) (outer : List Env) (s : Shared) (H : Hp) (E : XK), Room k (A.deeper (envOfC qual (defScope st) s.heap.objs.size f cdv)) →
      ∃ t, PSs (CxB P w K mg base N qual st f cdv A outer s H E) (defBody st) t ∧ ∀ b i, pre i → XOk T b E (perr i) → WS T b t [] (ss i) (Pv (post i))) (hs : ∀ i, slots N ((args i).map SV.d) = ss i := by intro _; rfl) : FnOk P w K mg base (L2.CX P w) (k + 1) f fd ps (SpP T (Fv args pre post perr)) :=
  F.ok S (fun vs H Q E h => spP_len hn h) fun cdv A outer s H vs Q E hr h => by
    obtain ⟨t, ht, hw⟩ := hb cdv A outer s H E hr
    exact ⟨t, ht, runP h fun b i p x => hs i ▸ hw b i p x⟩
theorem okH (ss : ι → List (Option SV)) (F : DefAt K x qual st dvs f fd) (S : FnScope N ps (defScope st)) (hn : ∀ i, (args i).length + 1 = ps.length)
    (hb : ∀ (cdv : Value) (A : Around) (outer : List Env) (s : Shared) (H : Hp) (E : XK), Room k (A.deeper (envOfC qual (defScope st) s.heap.objs.size f cdv)) →
      ∃ t, PSs (CxB P w K mg base N qual st f cdv A outer s H E) (defBody st) t ∧ ∀ b i, pre i → WS T b t [.hand] (ss i) ⟨fun _ _ => False, (PvH (post i)).rt, fun _ _ => False, fun _ _ => False⟩) (hs : ∀ i, slots N (.p 0 :: (args i).map SV.d) = ss i := by intro _; rfl) : FnOk P w K mg base (L2.CX P w) (k + 1) f fd ps (SpH T (Fv args pre post perr)) :=
  F.ok S (fun vs H Q E h => spH_len hn h) fun cdv A outer s H vs Q E hr h => by
    obtain ⟨t, ht, hw⟩ := hb cdv A outer s H E hr
    exact ⟨t, ht, runH h fun b i p => hs i ▸ hw b i p⟩
theorem okI {c : Nat} (ss : ι → List (Option SV)) (F : DefAt K x qual st dvs f fd) (S : FnScope N ps (defScope st)) (hn : ∀ i, (args i).length + 1 = ps.length)
    (hb : ∀ (cdv : Value) (A : Around) (outer : List Env) (s : Shared) (H : Hp) (E : XK), Room k (A.deeper (envOfC qual (defScope st) s.heap.objs.size f cdv)) →
      ∃ t, PSs (CxB P w K mg base N qual st f cdv A outer s H E) (defBody st) t ∧ ∀ b i, pre i → XOk T b E (perr i) → WS T b t [.ins c []] (ss i) (PvI T c (post i))) (hs : ∀ i, slots N (.p 0 :: (args i).map SV.d) = ss i := by intro _; rfl) : FnOk P w K mg base (L2.CX P w) (k + 1) f fd ps (SpI T c (Fv args pre post perr)) :=
  F.ok S (fun vs H Q E h => spI_len hn h) fun cdv A outer s H vs Q E hr h => by
    obtain ⟨t, ht, hw⟩ := hb cdv A outer s H E hr
    exact ⟨t, ht, runI h fun b i p x => hs i ▸ hw b i p x⟩
/-- what a caller needs of a def: it keeps its promise where the last arguments are its defaults -/
def Cal (P : Program) (w : World) (K : PySem.W.Frag) (mg : PySem.Str → Option Value) (base : Heap) (k : Nat) (f : Addr) (ps : List PySem.Str) (sp : Sp) (dvs : List V) : Prop :=
  ∃ fd ds, FnOk P w K mg base (L2.CX P w) k f fd ps sp ∧ Vals dvs ds ∧ Binds K fd ps ds
structure At (K : PySem.W.Frag) (mg : PySem.Str → Option Value) (x : PySem.Str) (f : Addr) : Prop where
  mg : mg x = some (.ref f)
  kp : PySem.W.keepIn K (.ref f) = true
end
section
variable {X : Cx} {k : Nat} {f C : Addr} {ps : List PySem.Str} {sp : Sp} {dvs : List V} {E : XK} {ES : L2.St → XK} {x : PySem.Str} {p pos : Pos} {e : Expr} {es : List Expr} {t : TA} {te : TE}
theorem pe_cal {n : Nat} (A : At X.K X.mg x f) (F : Cal X.prog X.w X.K X.mg X.base k f ps sp dvs) (hr : Room n X.A) (hg : Gl X x) (hx : Passes (L2.CX X.prog X.w) X E) (ha : PA X (e :: es) t) (hk : k ≤ n := by decide)
    (hdb : (x == ("__debug__" : PySem.Str)) = false := by decide) (he : starEach (e :: es) X.env = (false, eval e X.env) :: starEach es X.env := by rfl) (hpl : (backTo pos (starEach es X.env)).any (·.1) = false := by rfl) :
    PE X (.Call (.Name x p) (e :: es) [] pos) (tCall sp dvs E t) := by
  obtain ⟨fd, ds, F, hd, hb⟩ := F
  exact pe_call F (hr.mono hk) hg A.mg A.kp hb hd hx ha hdb he hpl
theorem pe_calS {n : Nat} (A : At X.K X.mg x f) (F : Cal X.prog X.w X.K X.mg X.base k f ps sp dvs) (hr : Room n X.A) (hg : Gl X x) (hx : ∀ σ, PassesAt (L2.CX X.prog X.w) X σ (ES σ)) (ha : PA X (e :: es) t) (hk : k ≤ n := by decide)
    (hdb : (x == ("__debug__" : PySem.Str)) = false := by decide) (he : starEach (e :: es) X.env = (false, eval e X.env) :: starEach es X.env := by rfl) (hpl : (backTo pos (starEach es X.env)).any (·.1) = false := by rfl) :
    PE X (.Call (.Name x p) (e :: es) [] pos) (tCallSD sp dvs ES t) := by
  obtain ⟨fd, ds, F, hd, hb⟩ := F
  exact pe_callSD F (hr.mono hk) hg A.mg A.kp hb hd hx ha hdb he hpl
/-- a class that is called -/
structure MkAt (K : PySem.W.Frag) (mg : PySem.Str → Option Value) (x : PySem.Str) (C f : Addr) : Prop where
  mg : mg x = some (.ref C)
  mkc : Mk K C f
theorem pe_mak {n : Nat} (A : MkAt X.K X.mg x C f) (F : Cal X.prog X.w X.K X.mg X.base k f ps sp dvs) (hr : Room n X.A) (hg : Gl X x) (hx : Passes (L2.CX X.prog X.w) X E) (ha : PA X (e :: es) t) (hk : k + 1 ≤ n := by decide)
    (hdb : (x == ("__debug__" : PySem.Str)) = false := by decide) (he : starEach (e :: es) X.env = (false, eval e X.env) :: starEach es X.env := by rfl) (hpl : (backTo pos (starEach es X.env)).any (·.1) = false := by rfl) :
    PE X (.Call (.Name x p) (e :: es) [] pos) (tMake C sp dvs E t) := by
  obtain ⟨fd, ds, F, hd, hb⟩ := F
  exact pe_make A.mkc F (hr.mono hk) hg A.mg hb hd hx ha hdb he hpl
theorem pe_makS {n : Nat} (A : MkAt X.K X.mg x C f) (F : Cal X.prog X.w X.K X.mg X.base k f ps sp dvs) (hr : Room n X.A) (hg : Gl X x) (hx : ∀ σ, PassesAt (L2.CX X.prog X.w) X σ (ES σ)) (ha : PA X (e :: es) t) (hk : k + 1 ≤ n := by decide)
    (hdb : (x == ("__debug__" : PySem.Str)) = false := by decide) (he : starEach (e :: es) X.env = (false, eval e X.env) :: starEach es X.env := by rfl) (hpl : (backTo pos (starEach es X.env)).any (·.1) = false := by rfl) :
    PE X (.Call (.Name x p) (e :: es) [] pos) (LX.tMakeS C sp dvs ES t) := by
  obtain ⟨fd, ds, F, hd, hb⟩ := F
  exact LX.pe_makeS A.mkc F (hr.mono hk) hg A.mg hb hd hx ha hdb he hpl
theorem pe_prp {n : Nat} {nm : PySem.Str} {pp : Addr} (he : PE X e te) (c : Cls X.K C) (hp : PropOf X.K C nm pp f) (F : Cal X.prog X.w X.K X.mg X.base k f ps sp dvs) (hr : Room n X.A) (hx : Passes (L2.CX X.prog X.w) X.nox E) (hab : attributeBase e nm X.env (eval e X.env) = eval e X.env) (hk : k + 1 ≤ n := by decide) :
    PE X (.Attribute e nm pos) (tProp C sp dvs E te) := by
  obtain ⟨fd, ds, F, hd, hb⟩ := F
  exact pe_prop he c hp F (hr.mono hk) hb hd hx hab
theorem op_eqC {n : Nat} (c : LX.EqC X.K C f) (F : Cal X.prog X.w X.K X.mg X.base k f ps sp []) (hr : Room n X.A) (hk : k ≤ n := by decide) : OpR X (compareOp .Eq) (LX.rEqI X.K C sp) := by
  obtain ⟨fd, ds, F, hd, hb⟩ := F
  cases hd
  exact LX.op_eqI F c hb (hr.mono hk)
theorem op_neC {n : Nat} (c : LX.EqC X.K C f) (F : Cal X.prog X.w X.K X.mg X.base k f ps sp []) (hr : Room n X.A) (hk : k + 1 ≤ n := by decide) : OpR X (compareOp .NotEq) (LX.rNeI X.K C sp) := by
  obtain ⟨fd, ds, F, hd, hb⟩ := F
  cases hd
  exact LX.op_neI F c hb (hr.mono hk)
theorem pmk_err {n : Nat} (T : OexC X.K C) (iC : PySem.W.findIn X.K (.ref C) "__init__" = some (some (.ref f))) (tI : PySem.W.typeIn X.K (.ref f) = some (.type "function")) (hm : X.mg x = some (.ref C)) (F : Cal X.prog X.w X.K X.mg X.base k f ps sp dvs) (hr : Room n X.A) (hg : Gl X x) (ha : PA X (e :: es) t) (hk : k + 1 ≤ n := by decide)
    (hdb : (x == ("__debug__" : PySem.Str)) = false := by decide) (he : starEach (e :: es) X.env = (false, eval e X.env) :: starEach es X.env := by rfl) (hpl : (backTo pos (starEach es X.env)).any (·.1) = false := by rfl) :
    PMk X (.Call (.Name x p) (e :: es) [] pos) (tMkO C sp dvs t) := by
  obtain ⟨fd, ds, F, hd, hb⟩ := F
  exact pmk_oex T iC tI F (hr.mono hk) hb hd passL hg hm ha hdb he hpl
theorem pe_constI {n : Int} (hg : Gl X x) (h : ∃ t, X.mg x = some (.int n t)) (hdb : (x == ("__debug__" : PySem.Str)) = false := by decide) : PE X (.Name x pos) (tC (.int n)) := by
  obtain ⟨t, h⟩ := h
  exact pe_glob (v := .int n) hg h ⟨t, rfl⟩ hdb
end
/-! the same rules, the written part told (for a comprehension's inner parts) -/
section
variable {X : Cx} (K : PySem.W.Frag) {t : TE} {f : Value} {g : Value → Value → Sem Value}
theorem kIx (r : PySem.W.Frag → R2) (e : X.K = K) (h : IxR X (r X.K)) : IxR X (r K) := e ▸ h
theorem kOp (r : PySem.W.Frag → R2) (e : X.K = K) (h : OpR X g (r X.K)) : OpR X g (r K) := e ▸ h
theorem kCa (r : PySem.W.Frag → List V → Hp → VK → Prop) (e : X.K = K) (h : CallR X f (r X.K)) : CallR X f (r K) := e ▸ h
theorem kSl (r : PySem.W.Frag → V → Option Int → Option Int → Hp → VK → Prop) (e : X.K = K) (h : SlR X (r X.K)) : SlR X (r K) := e ▸ h
theorem kFld {ta : TE} {x : Expr} {n : PySem.Str} {pos : Pos} (e : X.K = K) (he : PE X x ta) (hb : attributeBase x n X.env (eval x X.env) = eval x X.env) : PE X (.Attribute x n pos) (tFld K ta n) := e ▸ pe_fld he hb
end
end Lo
end
section
set_option Elab.async false
set_option linter.all false
set_option autoImplicit false
set_option maxRecDepth 100000
set_option maxHeartbeats 1000000
/-! == and repr of plain data -/
namespace Lo
open PySem PySem.Spec PyProof.Rows L2
/-- signs that lay -/
def okSt (z : PySem.Str) : Bool := z.cps.all (· < 0x110000)
theorem okd_non : D.okd .non = true := by decide +kernel
theorem okd_bl (k : Bool) : D.okd (.bl k) = true := by cases k <;> decide +kernel
theorem okd_int (i : Int) : D.okd (.int i) = true := rfl
theorem okd_str {z : PySem.Str} (h : okSt z = true) : D.okd (.str z) = true := by
  show (true && ((PyData.strOk z) && decide (0 ≤ 64))) = true
  have e : PyData.strOk z = true := h
  rw [e]
  rfl
/-- a row of such data -/
theorem lay_flat {d : D} (f : d.flat = true) (h : d.okd = true) : d.pure = true ∧ d.py.canLay0 = true ∧ d.py.depth = 0 := by
  cases d <;> first
    | (cases f; done)
    | (simp only [D.okd, SeqAt.shaped, Bool.and_eq_true] at h; exact ⟨h.1, h.2.1, rfl⟩)
theorem lay_row : ∀ {xs : List D}, (∀ x ∈ xs, x.flat = true ∧ x.okd = true) → D.pureL xs = true ∧ PyData.canLayAll0 (D.pyL xs) = true ∧ PyData.depthAll (D.pyL xs) = 0
  | [], _ => ⟨rfl, rfl, rfl⟩
  | x :: xs, h => by
    obtain ⟨h1, h2, h3⟩ := lay_flat (h x (by simp)).1 (h x (by simp)).2
    obtain ⟨k1, k2, k3⟩ := lay_row (xs := xs) fun y m => h y (by simp [m])
    refine ⟨?_, ?_, ?_⟩
    · show (x.pure && D.pureL xs) = true
      rw [h1, k1]
      rfl
    · show (x.py.canLay0 && PyData.canLayAll0 (D.pyL xs)) = true
      rw [h2, k2]
      rfl
    · show max x.py.depth (PyData.depthAll (D.pyL xs)) = 0
      rw [h3, k3]
      rfl
theorem okd_tup {xs : List D} (h : ∀ x ∈ xs, x.flat = true ∧ x.okd = true) : D.okd (.tup xs) = true := by
  obtain ⟨k1, k2, k3⟩ := lay_row h
  show (D.pureL xs && (PyData.canLayAll0 (D.pyL xs) && decide (PyData.depthAll (D.pyL xs) + 1 ≤ 64))) = true
  rw [k1, k2, k3]
  rfl
theorem okd_lst {xs : List D} (h : ∀ x ∈ xs, x.flat = true ∧ x.okd = true) : D.okd (.lst xs) = true := by
  obtain ⟨k1, k2, k3⟩ := lay_row h
  show (D.pureL xs && (PyData.canLayAll0 (D.pyL xs) && decide (PyData.depthAll (D.pyL xs) + 1 ≤ 64))) = true
  rw [k1, k2, k3]
  rfl
theorem ints_row (ns : List Int) : ∀ x ∈ ns.map D.int, x.flat = true ∧ x.okd = true := fun x m => by
  obtain ⟨n, _, rfl⟩ := List.mem_map.mp m
  exact ⟨rfl, rfl⟩
/-! equal -/
theorem eqv_non : D.eqv .non .non = true := rfl
theorem eqv_int (i j : Int) : D.eqv (.int i) (.int j) = decide (i = j) := rfl
theorem eqv_str (x y : PySem.Str) : D.eqv (.str x) (.str y) = decide (x = y) := by
  show (x == y) = _
  by_cases h : x = y
  · subst h; simp
  · rw [decide_eq_false h]
    exact beq_eq_false_iff_ne.mpr h
theorem eqv_ints : ∀ (xs ys : List Int), PyData.eqvAll (D.pyL (xs.map .int)) (D.pyL (ys.map .int)) = decide (xs = ys)
  | [], [] => rfl
  | [], _ :: _ => rfl
  | _ :: _, [] => rfl
  | x :: xs, y :: ys => by
    show ((x == y) && PyData.eqvAll (D.pyL (xs.map .int)) (D.pyL (ys.map .int))) = _
    rw [eqv_ints xs ys]
    by_cases h : x = y
    · subst h
      simp
    · have e : (x == y) = false := beq_eq_false_iff_ne.mpr h
      rw [e]
      simp [h]
theorem eqv_tup (xs ys : List Int) : D.eqv (.tup (xs.map .int)) (.tup (ys.map .int)) = decide (xs = ys) := eqv_ints xs ys
theorem eqv_lst (xs ys : List Int) : D.eqv (.lst (xs.map .int)) (.lst (ys.map .int)) = decide (xs = ys) := eqv_ints xs ys
/-! repr -/
mutual
def D.rb : D → Nat
  | .non => 4
  | .bl _ => 5
  | .int _ => 1922
  | .str z => 10 * z.length + 2
  | .lst xs => D.rbL xs + 4
  | .tup xs => D.rbL xs + 4
  | .obj _ _ => 0
  | .dct _ _ => 0
def D.rbL : List D → Nat
  | [] => 0
  | d :: ds => d.rb + 2 + D.rbL ds
end
mutual
/-- what can be shown -/
def D.shw : D → Bool
  | .non => true
  | .bl _ => true
  | .int i => decide (i.natAbs.log2 < 1920)
  | .str z => okSt z
  | .lst xs => D.shwL xs
  | .tup xs => D.shwL xs
  | .obj _ _ => false
  | .dct _ _ => false
def D.shwL : List D → Bool
  | [] => true
  | d :: ds => d.shw && D.shwL ds
end
theorem textFrom_le : ∀ (ts : List PySem.Str) (k : Nat) (acc : PySem.Str), (textFrom k acc ts).length ≤ acc.length + (ts.map fun t => t.length + 2).sum
  | [], k, acc => Nat.le_refl _
  | t :: r, k, acc => by
    have ih := textFrom_le r (k + 1) (acc ++ (if k > 0 then ", " else "" : String) ++ t)
    have e : textFrom k acc (t :: r) = textFrom (k + 1) (acc ++ (if k > 0 then ", " else "" : String) ++ t) r := rfl
    rw [e]
    refine Nat.le_trans ih ?_
    have l : (acc ++ (if k > 0 then ", " else "" : String) ++ t : PySem.Str).length ≤ acc.length + 2 + t.length := by
      show ((acc.cps ++ (PySem.Str.ofString (if k > 0 then ", " else "" : String)).cps) ++ t.cps).size ≤ _
      rw [Array.size_append, Array.size_append]
      have : (PySem.Str.ofString (if k > 0 then ", " else "" : String)).cps.size ≤ 2 := by
        split <;> decide +kernel
      show acc.cps.size + _ + t.cps.size ≤ acc.cps.size + 2 + t.cps.size
      omega
    simp only [List.map_cons, List.sum_cons]
    omega
theorem listText_le (ts : List PySem.Str) : (listText ts).length ≤ (ts.map fun t => t.length + 2).sum + 4 := by
  have h := textFrom_le ts 0 "["
  have e1 : (("[" : PySem.Str)).length = 1 := by decide +kernel
  have e2 : (("]" : PySem.Str)).length = 1 := by decide +kernel
  show ((textFrom 0 "[" ts).cps ++ ("]" : PySem.Str).cps).size ≤ _
  rw [Array.size_append]
  have h' : (textFrom 0 "[" ts).cps.size ≤ 1 + (ts.map fun t => t.length + 2).sum := by rw [← e1]; exact h
  have e2' : ("]" : PySem.Str).cps.size = 1 := e2
  omega
theorem tupleText_le (ts : List PySem.Str) : (tupleText ts).length ≤ (ts.map fun t => t.length + 2).sum + 4 := by
  have j : (PySem.Str.join ", " ts).length ≤ (ts.map fun t => t.length + 2).sum := by
    by_cases h : ts = []
    · subst h
      decide +kernel
    · have := join_length_add ts h
      unfold piled at this
      omega
  have e1 : ("(" : PySem.Str).cps.size = 1 := by decide +kernel
  have e2 : (PySem.Str.ofString (if ts.length == 1 then ",)" else ")" : String)).cps.size ≤ 2 := by
    split <;> decide +kernel
  show ((("(" : PySem.Str).cps ++ (PySem.Str.join ", " ts).cps) ++ (PySem.Str.ofString (if ts.length == 1 then ",)" else ")" : String)).cps).size ≤ _
  rw [Array.size_append, Array.size_append, e1]
  have j' : (PySem.Str.join ", " ts).cps.size ≤ (ts.map fun t => t.length + 2).sum := j
  omega
mutual
theorem shown_le : ∀ {d : D}, d.shw = true → d.pure = true ∧ d.py.showable = true ∧ d.py.hasDict = false ∧ d.py.shown.length ≤ d.rb
  | .non, _ => ⟨rfl, rfl, rfl, by decide +kernel⟩
  | .bl k, _ => ⟨rfl, rfl, rfl, by cases k <;> decide +kernel⟩
  | .int i, h => ⟨rfl, h, rfl, by
    have h' : i.natAbs.log2 < 1920 := of_decide_eq_true h
    exact Nat.le_trans (int_text_len_1921 h') (by show 1921 ≤ 1922; decide)⟩
  | .str z, h => ⟨rfl, rfl, rfl, by
    refine PySem.StrLaws.reprText_len z fun c hc => ?_
    have h' : z.cps.all (· < 0x110000) = true := h
    rw [Array.all_eq_true'] at h'
    have := h' c (by simpa using hc)
    have this : c < 0x110000 := by simpa using this
    exact Nat.lt_of_lt_of_le this (by decide)⟩
  | .lst xs, h => by
    obtain ⟨h1, h2, h3, h4⟩ := shown_leL (ds := xs) h
    exact ⟨h1, h2, h3, Nat.le_trans (listText_le _) (Nat.add_le_add_right h4 4)⟩
  | .tup xs, h => by
    obtain ⟨h1, h2, h3, h4⟩ := shown_leL (ds := xs) h
    exact ⟨h1, h2, h3, Nat.le_trans (tupleText_le _) (Nat.add_le_add_right h4 4)⟩
  | .obj _ _, h => nomatch h
  | .dct _ _, h => nomatch h
theorem shown_leL : ∀ {ds : List D}, D.shwL ds = true → D.pureL ds = true ∧ PyData.showableAll (D.pyL ds) = true ∧ PyData.hasDictAll (D.pyL ds) = false ∧ ((PyData.shownAll (D.pyL ds)).map fun t => t.length + 2).sum ≤ D.rbL ds
  | [], _ => ⟨rfl, rfl, rfl, Nat.le_refl _⟩
  | d :: ds, h => by
    have h' : (d.shw && D.shwL ds) = true := h
    rw [Bool.and_eq_true] at h'
    obtain ⟨a1, a2, a3, a4⟩ := shown_le (d := d) h'.1
    obtain ⟨b1, b2, b3, b4⟩ := shown_leL (ds := ds) h'.2
    refine ⟨?_, ?_, ?_, ?_⟩
    · show (d.pure && D.pureL ds) = true
      rw [a1, b1]; rfl
    · show (d.py.showable && PyData.showableAll (D.pyL ds)) = true
      rw [a2, b2]; rfl
    · show (d.py.hasDict || PyData.hasDictAll (D.pyL ds)) = false
      rw [a3, b3]; rfl
    · show (((d.py.shown :: PyData.shownAll (D.pyL ds)).map fun t => t.length + 2)).sum ≤ d.rb + 2 + D.rbL ds
      rw [List.map_cons, List.sum_cons]
      omega
end
theorem rp_of {d : D} (h : d.shw = true) (hd : d.py.depth ≤ 60) (hb : d.rb ≤ 100000) : d.rp = true := by
  obtain ⟨h1, h2, h3, h4⟩ := shown_le h
  unfold D.rp
  rw [h1, h2, h3, decide_eq_true hd, decide_eq_true (Nat.le_trans h4 hb)]
  rfl
end Lo
end
section
set_option Elab.async false
set_option linter.all false
set_option autoImplicit false
set_option maxRecDepth 100000
set_option maxHeartbeats 1000000
/-! the hand of draws -/
namespace Lo
open PySem PySem.Spec PyProof.Rows L2 Evl
/-- what a hand holds -/
structure HandV (cells : List Int) (i r t : Int) : Prop where
  c : ∀ x ∈ cells, 0 ≤ x ∧ x.natAbs < 2 ^ bigN
  i0 : 0 ≤ i
  i1 : i ≤ cells.length
  l : cells.length ≤ 63
  r0 : 0 ≤ r
  r1 : r.natAbs < 2 ^ bigN
  t0 : 0 ≤ t
  t1 : t < 2147483629
def handL (cells : List Int) (i r t : Int) : List SV := [.scr cells, .d (.int i), .d (.int r), .d (.int t)]
section
variable {T : Tb} {b : Bd} {own : List OW} {ds : List (Option SV)} {P : PSv}
theorem HA.openHand {W : Wd} {k : Nat} (h : HA T b W own) (ho : own[k]? = some .hand) : ∃ cells i r t, HandV cells i r t ∧ HA T b W (own.set k (.lst (handL cells i r t))) := by
  obtain ⟨a, ea, ga, ba, na, c, i, r, t, cells, e, hc, hx, h1, h2, h3, h4, h5, h6, h7⟩ := h.ow.get ho
  refine ⟨cells, i, r, t, ⟨hx, h1, h2, h3, h4, h5, h6, h7⟩, h.gh, h.bh, h.nn, h.nd, ?_⟩
  refine OwL.set (Le.refl W) (o := .lst (handL cells i r t)) ?_ ea h.nd (fun _ _ _ => ⟨rfl, id⟩) h.ow
  exact ⟨ga, ba, na, _, e, .ref c, _, rfl, ⟨c, rfl, hc⟩, .int i, _, rfl, rfl, .int r, _, rfl, rfl, .int t, _, rfl, rfl, rfl⟩
theorem HA.closeHand {W : Wd} {k : Nat} {cells : List Int} {i r t : Int} (h : HA T b W own) (ho : own[k]? = some (.lst (handL cells i r t))) (v : HandV cells i r t) : HA T b W (own.set k .hand) := by
  obtain ⟨a, ea, ga, ba, na, vs, e, rr⟩ := h.ow.get ho
  obtain ⟨v0, w0, rfl, ⟨c, rfl, hc⟩, v1, w1, rfl, r1, v2, w2, rfl, r2, v3, w3, rfl, r3, rfl⟩ := rr
  have e1 : v1 = .int i := r1
  have e2 : v2 = .int r := r2
  have e3 : v3 = .int t := r3
  subst e1 e2 e3
  refine ⟨h.gh, h.bh, h.nn, h.nd, OwL.set (Le.refl W) (o := .hand) ?_ ea h.nd (fun _ _ _ => ⟨rfl, id⟩) h.ow⟩
  exact ⟨ga, ba, na, c, i, r, t, cells, e, hc, v.c, v.i0, v.i1, v.l, v.r0, v.r1, v.t0, v.t1⟩
/-- the body of a def that looks into the hand -/
theorem ws_openHand {ts : TS} {k : Nat} {Φ : Po} (ho : own[k]? = some .hand) (h : ∀ cells i r t, HandV cells i r t → WS T b ts (own.set k (.lst (handL cells i r t))) ds Φ) : WS T b ts own ds Φ := fun W σ ha sl D d => by
  obtain ⟨cells, i, r, t, v, h2⟩ := ha.openHand ho
  exact h cells i r t v W σ h2 sl D d
theorem ws_closeHand {ts : TS} {k : Nat} {Φ : Po} (h : WS T b ts own ds { Φ with rt := fun s o => ∃ cells i r t, o[k]? = some (.lst (handL cells i r t)) ∧ HandV cells i r t ∧ Φ.rt s (o.set k .hand) }) : WS T b ts own ds Φ := fun W σ ha sl D d =>
  h W σ ha sl D ⟨d.nx, fun v s o W' h' l r' ⟨cells, i, r, t, ho, hv, p⟩ => d.rt v s _ W' (h'.closeHand ho hv) l r' p, d.bk, d.ct⟩
theorem wr_ixC {cells : List Int} {i : Int} {x : Int} (e : atI cells i = some x) (p : P (.d (.int x)) own) : WR T b (rIx T.K) own (.scr cells) (.d (.int i)) P := fun W vx vy ha rx ry Q q => by
  cases RpS.int ry
  obtain ⟨a, rfl, hs⟩ := rx
  obtain ⟨j, h1, h2⟩ := atI_len (ys := cells.map V.int) (by rw [List.length_map]) e
  refine .inl ⟨a, _, i, .int x, rfl, rfl, ex_l ha.gh hs, ?_, q (.int x) (.d (.int x)) own W ha (Le.refl W) rfl p⟩
  unfold atI
  rw [h1]
  show (cells.map V.int)[j]? = _
  rw [List.getElem?_map, h2]
  rfl
theorem wr_mod {i j : Int} (c : 0 < j) (p : P (.d (.int (i % j))) own) : WR T b (rI (fun _ j => 0 < j) fun i j => .int (i % j)) own (.d (.int i)) (.d (.int j)) P := wr_I (g := fun i j => i % j) c p
theorem wr_fdiv {i j : Int} (c : 0 < j) (d : j < 2 ^ 62) (p : P (.d (.int (i / j))) own) : WR T b (rI CDivW fun i j => .int (i / j)) own (.d (.int i)) (.d (.int j)) P := wr_I (g := fun i j => i / j) ⟨c, by
  have h : j.natAbs < 2 ^ 62 := by omega
  by_cases z : j.natAbs = 0
  · rw [z]; decide
  · have := (Nat.log2_lt z).mpr h
    omega⟩ p
theorem wr_pow {i j : Int} (c : CPow i j) (p : P (.d (.int (i ^ j.toNat))) own) : WR T b (rI CPow fun i j => .int (i ^ j.toNat)) own (.d (.int i)) (.d (.int j)) P := wr_I (g := fun i j => i ^ j.toNat) c p
theorem log2_le {i : Int} {a : Nat} (h : i.natAbs < 2 ^ a) : i.natAbs.log2 ≤ a := by
  by_cases z : i.natAbs = 0
  · rw [z]; exact Nat.zero_le _
  · exact Nat.le_of_lt ((Nat.log2_lt z).mpr h)
theorem wr_mul2 {i j : Int} (a c : Nat) (hi : i.natAbs < 2 ^ a) (hj : j.natAbs < 2 ^ c) (h : a + c < 1000000) (p : P (.d (.int (i * j))) own) : WR T b rMulA own (.d (.int i)) (.d (.int j)) P :=
  wr_mul (by have := log2_le hi; have := log2_le hj; unfold CMulW; omega) p
/-! the promise of the def that makes the hand -/
def SpHd (T : Tb) : Sp := fun vs H Q E => ∃ (G0 : Hp) (x : Addr) (ns : List Int), vs = [.ref x] ∧ Ex G0 H ∧ SqL T.K G0 x (ns.map V.int) ∧ ns.length ≤ 63 ∧ (∀ n ∈ ns, n.natAbs < 2 ^ bigN) ∧
  ∀ p G' H', Ex G0 G' → Ex G' H' → Ex H H' → (∀ y, H y ≠ none → G0 y = none → G' y = none) → H p = none → G' p = none → HandAt T.K G' H' p → Q (.ref p) H'
theorem spHd_len {vs : List V} {H : Hp} {Q : VK} {E : XK} (h : SpHd T vs H Q E) : vs.length = 1 := by
  obtain ⟨G, x, ns, rfl, _⟩ := h
  rfl
theorem runHd {N : List PySem.Str} {E : XK} {t : TS} {vs : List V} {H : Hp} {Q : VK} (h : SpHd T vs H Q E)
    (hb : ∀ b ns, ns.length ≤ 63 → (∀ n ∈ ns, n.natAbs < 2 ^ bigN) → WS T b t [] (slots N [.scr ns]) ⟨fun _ _ => False, fun s o => ∃ cells tt, s = .p 1 ∧ o = [.lst (List.map SV.d (List.map D.int cells)), .lst [.p 0, .d (.int 0), .d (.int 0), .d (.int tt)]] ∧ HandV cells 0 0 tt, fun _ _ => False, fun _ _ => False⟩) :
    t { nx := fun _ H' => Q .non H', rt := Q } (L2.start N vs) H := by
  obtain ⟨G0, x, ns, rfl, g, hs, hl, hn, hq⟩ := h
  have ha : HA T ⟨H, fun x => H x ≠ none ∧ G0 x = none⟩ ⟨G0, H, []⟩ [] := ⟨g, Ex.refl _, fun x n => ⟨n.2, n.1⟩, List.nodup_nil, rfl⟩
  refine hb _ ns hl hn ⟨G0, H, []⟩ _ ha (rpSL_slots (W := ⟨G0, H, []⟩) (xs := [.scr ns]) ⟨.ref x, [], rfl, ⟨x, rfl, hs⟩, rfl⟩) _ ⟨fun σ' o s W' h' l sl' p => p.elim, fun v s o W' h' l r ⟨cells, tt, e1, e2, hv⟩ => ?_, fun _ _ _ _ _ _ _ p => p.elim, fun _ _ _ _ _ _ _ p => p.elim⟩
  subst e1 e2
  obtain ⟨p, ep, rfl⟩ := r
  obtain ⟨c, ec, _, _, _, ws0, eh0, _⟩ := h'.ow.get (k := 0) rfl
  have np : p ≠ c := fun z => by
    subst z
    have h0 := (List.getElem?_eq_some_iff.mp ec)
    have h1 := (List.getElem?_eq_some_iff.mp ep)
    have := (List.getElem_inj h'.nd).mp (h0.2.trans h1.2.symm)
    cases this
  obtain ⟨ws, eh, h2, l2, rep⟩ := h'.freeze (k := 0) (ds := cells.map D.int) rfl ec
  obtain ⟨p', ep', gp, bp, _, vs, ev, rv⟩ := h'.ow.get (k := 1) rfl
  have z : p' = p := Option.some.inj (ep'.symm.trans ep)
  subst z
  obtain ⟨v0, w0, rfl, ⟨c', ec', rfl⟩, v1, w1, rfl, r1, v2, w2, rfl, r2, v3, w3, rfl, r3, rfl⟩ := rv
  have zc : c' = c := Option.some.inj (ec'.symm.trans ec)
  subst zc
  have e1 : v1 = .int 0 := r1
  have e2 : v2 = .int 0 := r2
  have e3 : v3 = .int tt := r3
  subst e1 e2 e3
  obtain ⟨cc, us, ecc, hsq, hrl⟩ := rep
  cases ecc
  have eu := RepL.ints hrl
  subst eu
  refine hq p' (upd W'.G c' (.lst ws)) W'.H (l.g.trans l2.g) h2.gh h'.bh (fun y n1 n2 => (h2.nn y ⟨n1, n2⟩).1) bp ((upd_ne np).trans gp) ⟨c', 0, 0, tt, cells, ev, sq_of hsq, hv.c, hv.i0, hv.i1, hv.l, hv.r0, hv.r1, hv.t0, hv.t1⟩
/-- the hand is made -/
theorem we_hand {E : XK} {i : Nat} (ho : own = []) (h : ∃ ns, ds[i]? = some (some (.scr ns)) ∧ ns.length ≤ 63 ∧ (∀ n ∈ ns, n.natAbs < 2 ^ bigN)) (p : P (.p 0) [.hand]) : WE T b (tCall (SpHd T) [] E (tCons (tVar i) tNil)) own ds P := fun W σ ha sl Q q => by
  subst ho
  obtain ⟨ns, hi, hl, hn⟩ := h
  obtain ⟨v, ev, x, rfl, hs⟩ := sl.get hi
  refine ⟨_, ev, W.G, x, ns, rfl, ha.gh, hs, hl, hn, fun p' G' H' g gh hh hg np gp hd => ?_⟩
  obtain ⟨ha2, l2⟩ := ha.call g gh hh hg
  have eas : W.as = [] := List.eq_nil_of_length_eq_zero (by rw [ha.ow.len]; rfl)
  have l3 : Le W ⟨G', H', [p']⟩ := ⟨g, by rw [eas]; exact List.nil_prefix⟩
  have h3 : HA T b ⟨G', H', [p']⟩ [.hand] := ⟨gh, ha2.bh, ha2.nn, by simp, ⟨.hand, [], rfl, ⟨gp, fresh_back ha.bh np, fun n => (ha.nn p' n).2 np, hd⟩, rfl⟩⟩
  exact q _ (.p 0) [.hand] ⟨G', H', [p']⟩ h3 l3 ⟨p', rfl, rfl⟩ p
end
section
variable {P : Program} {w : World} {K : PySem.W.Frag} {mg : PySem.Str → Option Value} {base : Heap} {x qual : PySem.Str} {st : Stmt} {dvs : List V} {f : Addr} {fd : FuncData} {N ps : List PySem.Str} {k : Nat} {T : Tb}
theorem okHd (ss : List Int → List (Option SV)) (F : DefAt K x qual st dvs f fd) (S : FnScope N ps (defScope st)) (hn : ps.length = 1)
    (hb : ∀ (cdv : Value) (A : Around) (outer : List Env) (s : Shared) (H : Hp) (E : XK), Room k (A.deeper (envOfC qual (defScope st) s.heap.objs.size f cdv)) →
      ∃ t, PSs (CxB P w K mg base N qual st f cdv A outer s H E) (defBody st) t ∧ ∀ b ns, ns.length ≤ 63 → (∀ n ∈ ns, n.natAbs < 2 ^ bigN) → WS T b t [] (ss ns) ⟨fun _ _ => False, fun s o => ∃ cells tt, s = .p 1 ∧ o = [.lst (List.map SV.d (List.map D.int cells)), .lst [.p 0, .d (.int 0), .d (.int 0), .d (.int tt)]] ∧ HandV cells 0 0 tt, fun _ _ => False, fun _ _ => False⟩)
    (hs : ∀ ns, slots N [.scr ns] = ss ns := by intro _; rfl) : FnOk P w K mg base (L2.CX P w) (k + 1) f fd ps (SpHd T) :=
  F.ok S (fun vs H Q E h => (spHd_len h).trans hn.symm) fun cdv A outer s H vs Q E hr h => by
    obtain ⟨t, ht, hw⟩ := hb cdv A outer s H E hr
    exact ⟨t, ht, runHd h fun b ns h1 h2 => hs ns ▸ hw b ns h1 h2⟩
end
end Lo
end
section
set_option Elab.async false
set_option linter.all false
set_option autoImplicit false
set_option maxRecDepth 100000
set_option maxHeartbeats 1000000
namespace Lo
open PySem PySem.Spec PyProof.Rows L2 Evl
section
variable {T : Tb} {b : Bd} {own : List OW} {ds : List (Option SV)} {P : PSv}
/-- an own list of data becomes a datum (it is own no more) -/
theorem we_frz {te : TE} (h : WE T b te own ds fun s o => ∃ k xs, s = .p k ∧ o[k]? = some (.lst (xs.map SV.d)) ∧ P (.d (.lst xs)) (o.set k .gone)) : WE T b te own ds P := fun W σ ha sl Q q => by
  refine h W σ ha sl _ fun v s o1 W1 ha1 l1 r1 ⟨k, xs, e, ho, p⟩ => ?_
  subst e
  obtain ⟨a, ea, rfl⟩ := r1
  obtain ⟨vs, eh, ha2, l2, r⟩ := ha1.freeze ho ea
  exact q _ (.d (.lst xs)) _ ⟨upd W1.G a (.lst vs), W1.H, W1.as⟩ ha2 (l1.trans l2) r p
/-- an own list that is handed back -/
theorem ws_frzR {ts : TS} {Φ : Po} (h : WS T b ts own ds { Φ with rt := fun s o => (∃ k xs, s = .p k ∧ o[k]? = some (.lst (xs.map SV.d)) ∧ Φ.rt (.d (.lst xs)) (o.set k .gone)) ∨ Φ.rt s o }) : WS T b ts own ds Φ := fun W σ ha sl D d => by
  refine h W σ ha sl D ⟨d.nx, fun v s o W' h' l r' p => ?_, d.bk, d.ct⟩
  rcases p with ⟨k, xs, rfl, ho, p⟩ | p
  · obtain ⟨a, ea, rfl⟩ := r'
    obtain ⟨vs, eh, ha2, l2, r⟩ := h'.freeze ho ea
    exact d.rt _ (.d (.lst xs)) _ ⟨upd W'.G a (.lst vs), W'.H, W'.as⟩ ha2 (l.trans l2) r p
  · exact d.rt v s o W' h' l r' p
end
section
variable {T : Tb} {b : Bd} {own : List OW} {ds : List (Option SV)} {P : PSv}
/-- [f for x in xs if p], both functions of the items -/
theorem we_lcff {wi : TI} {g : TG} {js : List Nat} {tt : TT} {te : TE} {vs : List Nat} (hj : ∀ j ∈ js, j ∈ vs) (p : D → Bool) (f : D → D)
    (h : WI T b wi own ds fun items o => own.length ≤ o.length ∧ OwP o.length o ∧ items.length ≤ 100000 ∧ (∀ x acc, x ∈ items →
        WG T b g js x (o ++ [.lst acc]) (wipeD ds vs) fun o2 s2 => WT T b tt o2 s2 fun k o3 => k = p x ∧ (k = true → WE T b te o3 s2 fun s o4 => s = .d (f x) ∧ o4 = o ++ [.lst acc]) ∧ (k = false → o3 = o ++ [.lst acc])) ∧ P (.d (.lst ((items.filter p).map f))) o) : WE T b (tLc wi g tt te vs) own ds P := by
  refine we_lc hj (fun items i acc => acc = ((items.take i).filter p).map f) ?_
  intro W σ ha sl R q
  refine h W σ ha sl R fun J items o' W' ha' l' it ⟨h1, h2, h3, h4, h5⟩ => q J items o' W' ha' l' it ⟨h1, h2, by simp, h3, fun i x acc hx ea hl => ?_, fun acc ea hl => by rw [ea]; simpa using h5⟩
  intro W2 σ2 v ha2 sl2 r2 Q2 q2
  refine h4 x (acc.map SV.d) (List.mem_of_getElem? hx) W2 σ2 v ha2 sl2 r2 Q2 fun σ' own' ds' W'' a1 a2 a3 a4 a5 hb => q2 σ' own' ds' W'' a1 a2 a3 a4 a5 ?_
  intro W3 σ3 ha3 sl3 Q3 q3
  refine hb W3 σ3 ha3 sl3 Q3 fun k o3 W4 ha4 l4 ⟨ek, ht, hf⟩ => q3 k o3 W4 ha4 l4 ⟨fun hk => (ht hk).imp fun s o ⟨e1, e2⟩ => ⟨f x, e1, e2, ?_⟩, fun hk => ⟨hf hk, ?_⟩⟩
  · rw [ea, List.take_add_one, hx, List.filter_append, List.map_append]
    have : p x = true := ek.symm.trans hk
    simp [this]
  · rw [ea, List.take_add_one, hx, List.filter_append, List.map_append]
    have : p x = false := ek.symm.trans hk
    simp [this]
end
/-- a draw of so many -/
theorem takeG {N : Int} {G : D → Prop} (h : 0 < N ∧ N < 2 ^ 30) (g : ∀ k : Int, 0 ≤ k → k < N → G (.int k)) : (0 < N ∧ N < 2 ^ 30) ∧ (∀ e : Er, ¬ noErr N e) ∧ ∀ d, (∃ k : Int, d = .int k ∧ 0 ≤ k ∧ k < N) → G d :=
  ⟨h, fun _ z => z, fun d ⟨k, e, h0, h1⟩ => e ▸ g k h0 h1⟩
theorem perm_map {α β : Type} {f : α → β} {ys : List β} {xs : List α} (h : ys.Perm (xs.map f)) : ∃ zs : List α, ys = zs.map f ∧ zs.Perm xs := by
  generalize e : xs.map f = l at h
  induction h generalizing xs with
  | nil => exact ⟨[], rfl, by cases xs <;> simp_all⟩
  | cons x h ih =>
    cases xs with
    | nil => cases e
    | cons y r =>
      simp only [List.map_cons, List.cons.injEq] at e
      obtain ⟨zs, e1, e2⟩ := ih e.2
      exact ⟨y :: zs, by rw [e1, ← e.1]; rfl, e2.cons y⟩
  | swap x y l =>
    match xs, e with
    | u :: v :: r, e =>
      simp only [List.map_cons, List.cons.injEq] at e
      obtain ⟨e1, e2, e3⟩ := e
      exact ⟨v :: u :: r, by rw [List.map_cons, List.map_cons, e1, e2, e3], .swap u v r⟩
    | [], e => cases e
    | [_], e => simp at e
  | trans h1 h2 ih1 ih2 =>
    obtain ⟨zs, e1, e2⟩ := ih2 e
    obtain ⟨us, e3, e4⟩ := ih1 e1.symm
    exact ⟨us, e3, e4.trans e2⟩
theorem ix_get {α : Type} {xs : List α} {k : Int} (h0 : 0 ≤ k) (h1 : k < (xs.length : Int)) : ∃ x ∈ xs, atI xs k = some x := by
  obtain ⟨j, rfl⟩ : ∃ j : Nat, k = (j : Int) := ⟨k.toNat, by omega⟩
  have hj : j < xs.length := by omega
  exact ⟨xs[j], List.getElem_mem hj, atI_nat (List.getElem?_eq_getElem hj)⟩
theorem atI_map {α β : Type} {f : α → β} {xs : List α} {k : Int} {x : α} (h : atI xs k = some x) : atI (xs.map f) k = some (f x) := by
  unfold atI at h ⊢
  rw [List.length_map]
  cases e : ixN xs.length k with
  | none => rw [e] at h; cases h
  | some j =>
    rw [e] at h
    show (xs.map f)[j]? = _
    have h' : xs[j]? = some x := h
    rw [List.getElem?_map, h']
    rfl
theorem sort_same : ∀ {xs ys : List Int}, xs.Pairwise (· ≤ ·) → ys.Pairwise (· ≤ ·) → xs.Perm ys → xs = ys
  | [], ys, _, _, h => (List.Perm.nil_eq h)
  | x :: xs, [], _, _, h => by have := h.length_eq; simp at this
  | x :: xs, y :: ys, h1, h2, h => by
    have e : x = y := by
      have m1 : x ∈ y :: ys := h.subset List.mem_cons_self
      have m2 : y ∈ x :: xs := h.symm.subset List.mem_cons_self
      rcases List.mem_cons.mp m1 with e | m1
      · exact e
      rcases List.mem_cons.mp m2 with e | m2
      · exact e.symm
      have a1 := (List.pairwise_cons.mp h2).1 x m1
      have a2 := (List.pairwise_cons.mp h1).1 y m2
      omega
    subst e
    rw [sort_same (List.pairwise_cons.mp h1).2 (List.pairwise_cons.mp h2).2 (List.Perm.cons_inv h)]
theorem erase_map {α β : Type} {f : α → β} : ∀ (xs : List α) (j : Nat), (xs.map f).eraseIdx j = (xs.eraseIdx j).map f
  | [], _ => rfl
  | _ :: _, 0 => rfl
  | x :: r, j + 1 => by
    show f x :: (r.map f).eraseIdx j = f x :: (r.eraseIdx j).map f
    rw [erase_map r j]
theorem erase_perm {α : Type} : ∀ (xs : List α) (j : Nat) (h : j < xs.length), (xs[j] :: xs.eraseIdx j).Perm xs
  | [], _, h => nomatch h
  | _ :: _, 0, _ => .refl _
  | x :: r, j + 1, h => by
    have hj : j < r.length := Nat.lt_of_succ_lt_succ h
    exact (List.Perm.swap x r[j] _).trans ((erase_perm r j hj).cons x)
theorem joinL_one : ∀ cs : List Nat, TL.joinL [] (cs.map fun c => [c]) = cs
  | [] => rfl
  | [c] => rfl
  | c :: d :: r => by
    have ih := joinL_one (d :: r)
    simp only [List.map_cons] at ih ⊢
    first
      | (show [c] ++ ([] ++ TL.joinL [] ([d] :: r.map fun c => [c])) = _; rw [ih]; rfl)
      | (show [c] ++ [] ++ TL.joinL [] ([d] :: r.map fun c => [c]) = _; rw [ih]; rfl)
      | (unfold TL.joinL; simp [ih])
end Lo
end
section
set_option Elab.async false
set_option linter.all false
set_option autoImplicit false
set_option maxRecDepth 100000
set_option maxHeartbeats 1000000
/-! the law's own def -/
namespace Lo
open PySem PySem.Spec PyProof.Rows L2 Evl
def SpLaw (K : PySem.W.Frag) : Sp := fun vs H Q E => ∃ (x : Addr) (ns : List Int), vs = [.ref x] ∧ SqL K H x (ns.map V.int) ∧ ns.length ≤ 63 ∧ (∀ n ∈ ns, n.natAbs < 2 ^ bigN) ∧ ∀ H', Q (.bl true) H'
theorem spLaw_len {K : PySem.W.Frag} {vs : List V} {H : Hp} {Q : VK} {E : XK} (h : SpLaw K vs H Q E) : vs.length = 1 := by
  obtain ⟨x, ns, rfl, _⟩ := h
  rfl
abbrev PvLaw : Po := ⟨fun _ _ => False, fun s _ => s = .d (.bl true), fun _ _ => False, fun _ _ => False⟩
section
variable {P : Program} {w : World} {K : PySem.W.Frag} {mg : PySem.Str → Option Value} {base : Heap} {x qual : PySem.Str} {st : Stmt} {dvs : List V} {f : Addr} {fd : FuncData} {N ps : List PySem.Str} {k : Nat} {T : Tb}
theorem okLaw (ss : List Int → List (Option SV)) (F : DefAt K x qual st dvs f fd) (S : FnScope N ps (defScope st)) (hn : ps.length = 1)
    (hb : ∀ (cdv : Value) (A : Around) (outer : List Env) (s : Shared) (H : Hp) (E : XK), Room k (A.deeper (envOfC qual (defScope st) s.heap.objs.size f cdv)) → (A.deeper (envOfC qual (defScope st) s.heap.objs.size f cdv)).guards = some [] →
      ∃ t, PSs (CxB P w K mg base N qual st f cdv A outer s H E) (defBody st) t ∧ ∀ b ns, ns.length ≤ 63 → (∀ n ∈ ns, n.natAbs < 2 ^ bigN) → WS T b t [] (ss ns) PvLaw)
    (hs : ∀ ns, slots N [.scr ns] = ss ns := by intro _; rfl) : LX.FnG P w K mg base (L2.CX P w) (k + 1) f fd ps (SpLaw T.K) := by
  obtain ⟨oc, od, dV, kV, doc, pm, an, cdv, ct, osl, rfl, lk, hcd, _, _⟩ := F.ex
  refine LX.fnG_of lk hcd S (fun vs H Q E h => (spLaw_len h).trans hn.symm) fun A hg outer s H vs Q E hr h => ?_
  obtain ⟨t, ht, hw⟩ := hb cdv A outer s H E hr hg
  obtain ⟨x, ns, rfl, hS, hl, hb, hq⟩ := h
  refine ⟨t, ht, ?_⟩
  have ha : HA T ⟨H, fun _ => False⟩ ⟨H, H, []⟩ [] := ⟨Ex.refl _, Ex.refl _, fun _ z => z.elim, List.nodup_nil, rfl⟩
  refine hw ⟨H, fun _ => False⟩ ns hl hb ⟨H, H, []⟩ _ ha (hs ns ▸ rpSL_slots (W := ⟨H, H, []⟩) (xs := [.scr ns]) ⟨.ref x, [], rfl, ⟨x, rfl, hS⟩, rfl⟩) _ ⟨fun σ' o s W' h' l sl' p => p.elim, fun v s o W' h' l r e => ?_, fun _ _ _ _ _ _ _ p => p.elim, fun _ _ _ _ _ _ _ p => p.elim⟩
  subst e
  have r' : v = .bl true := r
  subst r'
  exact hq _
end
theorem wr_neStr {T : Tb} {b : Bd} {own : List OW} {Q : PSv} {x y : PySem.Str} (q : Q (.d (.bl (!decide (x = y)))) own) : WR T b rNe own (.d (.str x)) (.d (.str y)) Q := fun W vx vy ha rx ry R k => by
  cases RpS.str rx
  cases RpS.str ry
  refine ⟨rfl, ?_⟩
  have e : decide (V.str x = V.str y) = decide (x = y) := by
    by_cases h : x = y
    · subst h
      simp
    · rw [decide_eq_false h, decide_eq_false fun z => h (by cases z; rfl)]
  rw [e]
  exact k _ (.d (.bl _)) own W ha (Le.refl W) rfl q
theorem eqv_bl (x y : Bool) : D.eqv (.bl x) (.bl y) = (x == y) := rfl
theorem AllD.ofEq {ss : List SV} {xs : List D} (e : ss = xs.map SV.d) : AllD ss xs := e ▸ AllD.map xs
open PySem.W PySem.Calls in
/-- the law's statement, from its def's promise -/
theorem walk_L {l : OpenLaw} {k : Nat} {q : Program} {loose : List PySem.Str} {XP : (PySem.Str → Option Value) → Heap → Prop} {YP : World → Heap → Prop} {d : DefRec} {K : Params → PySem.W.Frag} {x : PySem.Str}
    (hn : l.most = some 63) (hdf : d.params.defaults = []) (hr : Room k callerA) (hY : ∀ (w : World) (h : Heap), YP w h → (K w.params).In h)
    (F : ∀ (w : World) (mg : PySem.Str → Option Value) (fa : Addr) (h : Heap), (K w.params).In h → h.Ns mainGlobals mg → mg d.name = some (.ref fa) →
      ∃ fd : FuncData, (∀ (s : Shared) (u : Value), BindsTo s fd ⟨[u], []⟩ [(x, u)]) ∧ ∀ base : Heap, (K w.params).In base → base.Ns mainGlobals mg → LX.FnG l.prog w (K w.params) mg base (L2.CX l.prog w) k fa fd [x] (SpLaw (K w.params))) :
    WalkO q loose XP YP l.row.toRowW d [] (fun f vs => PySem.call f vs) := by
  refine LX.walk_G (n := 63) (CX := fun w => L2.CX l.prog w) (sp := fun w => SpLaw (K w.params)) hn (by decide) hdf hr hY F (fun w H a ns hl hb _ hS => ?_) fun w H s e s' h => ?_
  · refine ⟨a, ns, rfl, hS, hl, fun n m => ?_, fun _ => rfl⟩
    have h := hb n m
    unfold Builtin.Int.intBits at h
    by_cases z : n = 0
    · subst z
      exact Nat.pow_pos (by decide)
    · rw [if_neg (by simpa using z)] at h
      have h2 : n.natAbs.log2 < bigN := Nat.lt_of_lt_of_le (Nat.lt_of_succ_le h) (by decide)
      exact (Nat.log2_lt (by omega)).mp h2
  · obtain ⟨a, B, H', cls, d, _, _, _, _, _, _, _, z⟩ := h
    exact z
theorem SlF.drops (n : Nat) : ∀ xs : List (Option SV), SlF n xs (List.replicate xs.length none)
  | [] => .nil
  | _ :: r => .drop (SlF.drops n r)
end Lo
end
section
set_option Elab.async false
set_option linter.all false
set_option maxRecDepth 100000
set_option maxHeartbeats 1000000
namespace L3
open PySem PySem.Spec PyProof.Rows L2 PySem.W PySem.Calls Lo
def topS (i : Nat) : Stmt := PySem.Challenge.pw_looseorder_k03_frames_of_verbs.main.body.getD i (.Pass ⟨0, 0, 0, 0⟩)
abbrev s_BadStock___init__ : Stmt := inClass (topS 2) 0
theorem ss_BadStock___init__ : LX.SupS ["self", "what"] (defScope s_BadStock___init__) := ⟨by decide +kernel, rfl, rfl, rfl, by decide +kernel, by decide +kernel, by decide +kernel, rfl, rfl⟩
abbrev s_BadFrame___init__ : Stmt := inClass (topS 3) 0
theorem ss_BadFrame___init__ : LX.SupS ["self", "what"] (defScope s_BadFrame___init__) := ⟨by decide +kernel, rfl, rfl, rfl, by decide +kernel, by decide +kernel, by decide +kernel, rfl, rfl⟩
abbrev s_is_whole : Stmt := topS 6
abbrev N_is_whole : List PySem.Str := ["thing", "low", "high"]
theorem sc_is_whole : FnScope N_is_whole ["thing", "low", "high"] (defScope s_is_whole) := ⟨rfl, rfl, rfl, by decide +kernel, rfl, by decide +kernel, by decide +kernel⟩
abbrev s_is_among : Stmt := topS 7
abbrev N_is_among : List PySem.Str := ["thing", "wholes"]
theorem sc_is_among : FnScope N_is_among ["thing", "wholes"] (defScope s_is_among) := ⟨rfl, rfl, rfl, by decide +kernel, rfl, by decide +kernel, by decide +kernel⟩
abbrev s_is_row : Stmt := topS 8
abbrev N_is_row : List PySem.Str := ["thing", "low", "high"]
theorem sc_is_row : FnScope N_is_row ["thing", "low", "high"] (defScope s_is_row) := ⟨rfl, rfl, rfl, by decide +kernel, rfl, by decide +kernel, by decide +kernel⟩
abbrev s_are_letters : Stmt := topS 9
abbrev N_are_letters : List PySem.Str := ["text", "letter"]
theorem sc_are_letters : FnScope N_are_letters ["text"] (defScope s_are_letters) := ⟨rfl, rfl, rfl, by decide +kernel, rfl, by decide +kernel, by decide +kernel⟩
abbrev s_is_name : Stmt := topS 10
abbrev N_is_name : List PySem.Str := ["thing", "most"]
theorem sc_is_name : FnScope N_is_name ["thing", "most"] (defScope s_is_name) := ⟨rfl, rfl, rfl, by decide +kernel, rfl, by decide +kernel, by decide +kernel⟩
abbrev s__are_nouns : Stmt := topS 12
abbrev N__are_nouns : List PySem.Str := ["nouns", "last", "role"]
theorem sc__are_nouns : FnScope N__are_nouns ["nouns"] (defScope s__are_nouns) := ⟨rfl, rfl, rfl, by decide +kernel, rfl, by decide +kernel, by decide +kernel⟩
abbrev s_Frame___init__ : Stmt := inClass (topS 13) 0
abbrev N_Frame___init__ : List PySem.Str := ["self", "name", "nouns", "clause", "agreed"]
theorem sc_Frame___init__ : FnScope N_Frame___init__ ["self", "name", "nouns", "clause", "agreed"] (defScope s_Frame___init__) := ⟨rfl, rfl, rfl, by decide +kernel, rfl, by decide +kernel, by decide +kernel⟩
abbrev s_Frame___eq__ : Stmt := inClass (topS 13) 1
abbrev N_Frame___eq__ : List PySem.Str := ["self", "other"]
theorem sc_Frame___eq__ : FnScope N_Frame___eq__ ["self", "other"] (defScope s_Frame___eq__) := ⟨rfl, rfl, rfl, by decide +kernel, rfl, by decide +kernel, by decide +kernel⟩
abbrev s_Frame_slots : Stmt := inClass (topS 13) 2
abbrev N_Frame_slots : List PySem.Str := ["self"]
theorem sc_Frame_slots : FnScope N_Frame_slots ["self"] (defScope s_Frame_slots) := ⟨rfl, rfl, rfl, by decide +kernel, rfl, by decide +kernel, by decide +kernel⟩
abbrev s__law_hand : Stmt := topS 15
abbrev N__law_hand : List PySem.Str := ["_law_script", "_law_total", "_law_cells", "_law_cell"]
theorem sc__law_hand : FnScope N__law_hand ["_law_script"] (defScope s__law_hand) := ⟨rfl, rfl, rfl, by decide +kernel, rfl, by decide +kernel, by decide +kernel⟩
abbrev s__law_mixed : Stmt := topS 16
abbrev N__law_mixed : List PySem.Str := ["_law_number", "_law_turn", "_law_once", "_law_twice"]
theorem sc__law_mixed : FnScope N__law_mixed ["_law_number", "_law_turn"] (defScope s__law_mixed) := ⟨rfl, rfl, rfl, by decide +kernel, rfl, by decide +kernel, by decide +kernel⟩
abbrev s__law_take : Stmt := topS 17
abbrev N__law_take : List PySem.Str := ["_law_hand_here", "_law_many", "_law_cell", "_law_rest"]
theorem sc__law_take : FnScope N__law_take ["_law_hand_here", "_law_many"] (defScope s__law_take) := ⟨rfl, rfl, rfl, by decide +kernel, rfl, by decide +kernel, by decide +kernel⟩
abbrev s__law_shuffled : Stmt := topS 18
abbrev N__law_shuffled : List PySem.Str := ["_law_hand_here", "_law_row", "_law_left", "_law_found"]
theorem sc__law_shuffled : FnScope N__law_shuffled ["_law_hand_here", "_law_row"] (defScope s__law_shuffled) := ⟨rfl, rfl, rfl, by decide +kernel, rfl, by decide +kernel, by decide +kernel⟩
abbrev s__law_some : Stmt := topS 19
abbrev N__law_some : List PySem.Str := ["_law_hand_here", "_law_row", "_law_many"]
theorem sc__law_some : FnScope N__law_some ["_law_hand_here", "_law_row", "_law_many"] (defScope s__law_some) := ⟨rfl, rfl, rfl, by decide +kernel, rfl, by decide +kernel, by decide +kernel⟩
abbrev s__law_word : Stmt := topS 20
abbrev N__law_word : List PySem.Str := ["_law_hand_here", "_law_longest", "_law_k"]
theorem sc__law_word : FnScope N__law_word ["_law_hand_here", "_law_longest"] (defScope s__law_word) := ⟨rfl, rfl, rfl, by decide +kernel, rfl, by decide +kernel, by decide +kernel⟩
abbrev s__law_as_list : Stmt := topS 21
abbrev N__law_as_list : List PySem.Str := ["_law_hand_here", "_law_row"]
theorem sc__law_as_list : FnScope N__law_as_list ["_law_hand_here", "_law_row"] (defScope s__law_as_list) := ⟨rfl, rfl, rfl, by decide +kernel, rfl, by decide +kernel, by decide +kernel⟩
abbrev s__law_no_role : Stmt := topS 22
abbrev N__law_no_role : List PySem.Str := ["_law_hand_here", "_law_many", "_law_draw"]
theorem sc__law_no_role : FnScope N__law_no_role ["_law_hand_here", "_law_many"] (defScope s__law_no_role) := ⟨rfl, rfl, rfl, by decide +kernel, rfl, by decide +kernel, by decide +kernel⟩
abbrev s__law_told : Stmt := topS 23
abbrev N__law_told : List PySem.Str := ["_law_name", "_law_nouns", "_law_clause", "_law_agreed", "_law_told_here", "wrong"]
theorem sc__law_told : FnScope N__law_told ["_law_name", "_law_nouns", "_law_clause", "_law_agreed"] (defScope s__law_told) := ⟨rfl, rfl, rfl, by decide +kernel, rfl, by decide +kernel, by decide +kernel⟩
abbrev s__law_shows : Stmt := topS 24
abbrev N__law_shows : List PySem.Str := ["_law_frame", "_law_name", "_law_nouns", "_law_clause", "_law_agreed", "_law_slots", "_law_role"]
theorem sc__law_shows : FnScope N__law_shows ["_law_frame", "_law_name", "_law_nouns", "_law_clause", "_law_agreed"] (defScope s__law_shows) := ⟨rfl, rfl, rfl, by decide +kernel, rfl, by decide +kernel, by decide +kernel⟩
abbrev s__law_no_nouns : Stmt := topS 25
abbrev N__law_no_nouns : List PySem.Str := ["_law_hand_here", "_law_nouns", "_law_draw"]
theorem sc__law_no_nouns : FnScope N__law_no_nouns ["_law_hand_here", "_law_nouns"] (defScope s__law_no_nouns) := ⟨rfl, rfl, rfl, by decide +kernel, rfl, by decide +kernel, by decide +kernel⟩
abbrev s_law : Stmt := topS 26
abbrev N_law : List PySem.Str := ["_law_script", "_law_hand_here", "_law_turn", "_law_name", "_law_nouns", "_law_rest", "_law_role", "_law_clause", "_law_agreed", "_law_told_here", "_law_plain", "_law_words", "_law_parts", "_law_kept"]
theorem sc_law : FnScope N_law ["_law_script"] (defScope s_law) := ⟨rfl, rfl, rfl, by decide +kernel, rfl, by decide +kernel, by decide +kernel⟩
structure Ad where
  f_BadFrame___init__ : Addr
  f_is_whole : Addr
  f_is_among : Addr
  f_is_row : Addr
  f_are_letters : Addr
  f_is_name : Addr
  f__are_nouns : Addr
  f_Frame___init__ : Addr
  f_Frame___eq__ : Addr
  f_Frame_slots : Addr
  f__law_hand : Addr
  f__law_mixed : Addr
  f__law_take : Addr
  f__law_shuffled : Addr
  f__law_some : Addr
  f__law_word : Addr
  f__law_as_list : Addr
  f__law_no_role : Addr
  f__law_told : Addr
  f__law_shows : Addr
  f__law_no_nouns : Addr
  f_law : Addr
  C_TongueError : Addr
  C_BadStock : Addr
  C_BadFrame : Addr
  C_Frame : Addr
  p_Frame_slots : Addr
/-- what the top has written -/
structure Txt (P : Program) (K : PySem.W.Frag) (mg : PySem.Str → Option Value) (a : Ad) : Prop where
  F_is_whole : ∃ fd, DefAt K "is_whole" "is_whole" s_is_whole [.non, .non] a.f_is_whole fd
  A_is_whole : At K mg "is_whole" a.f_is_whole
  F_is_among : ∃ fd, DefAt K "is_among" "is_among" s_is_among [] a.f_is_among fd
  A_is_among : At K mg "is_among" a.f_is_among
  F_is_row : ∃ fd, DefAt K "is_row" "is_row" s_is_row [.int (0), .non] a.f_is_row fd
  A_is_row : At K mg "is_row" a.f_is_row
  F_are_letters : ∃ fd, DefAt K "are_letters" "are_letters" s_are_letters [] a.f_are_letters fd
  A_are_letters : At K mg "are_letters" a.f_are_letters
  F_is_name : ∃ fd, DefAt K "is_name" "is_name" s_is_name [] a.f_is_name fd
  A_is_name : At K mg "is_name" a.f_is_name
  F__are_nouns : ∃ fd, DefAt K "_are_nouns" "_are_nouns" s__are_nouns [] a.f__are_nouns fd
  A__are_nouns : At K mg "_are_nouns" a.f__are_nouns
  F_Frame___init__ : ∃ fd, DefAt K "__init__" "Frame.__init__" s_Frame___init__ [.non, .non] a.f_Frame___init__ fd
  F_Frame___eq__ : ∃ fd, DefAt K "__eq__" "Frame.__eq__" s_Frame___eq__ [] a.f_Frame___eq__ fd
  F_Frame_slots : ∃ fd, DefAt K "slots" "Frame.slots" s_Frame_slots [] a.f_Frame_slots fd
  F__law_hand : ∃ fd, DefAt K "_law_hand" "_law_hand" s__law_hand [] a.f__law_hand fd
  A__law_hand : At K mg "_law_hand" a.f__law_hand
  F__law_mixed : ∃ fd, DefAt K "_law_mixed" "_law_mixed" s__law_mixed [] a.f__law_mixed fd
  A__law_mixed : At K mg "_law_mixed" a.f__law_mixed
  F__law_take : ∃ fd, DefAt K "_law_take" "_law_take" s__law_take [] a.f__law_take fd
  A__law_take : At K mg "_law_take" a.f__law_take
  F__law_shuffled : ∃ fd, DefAt K "_law_shuffled" "_law_shuffled" s__law_shuffled [] a.f__law_shuffled fd
  A__law_shuffled : At K mg "_law_shuffled" a.f__law_shuffled
  F__law_some : ∃ fd, DefAt K "_law_some" "_law_some" s__law_some [] a.f__law_some fd
  A__law_some : At K mg "_law_some" a.f__law_some
  F__law_word : ∃ fd, DefAt K "_law_word" "_law_word" s__law_word [] a.f__law_word fd
  A__law_word : At K mg "_law_word" a.f__law_word
  F__law_as_list : ∃ fd, DefAt K "_law_as_list" "_law_as_list" s__law_as_list [] a.f__law_as_list fd
  A__law_as_list : At K mg "_law_as_list" a.f__law_as_list
  F__law_no_role : ∃ fd, DefAt K "_law_no_role" "_law_no_role" s__law_no_role [] a.f__law_no_role fd
  A__law_no_role : At K mg "_law_no_role" a.f__law_no_role
  F__law_told : ∃ fd, DefAt K "_law_told" "_law_told" s__law_told [] a.f__law_told fd
  A__law_told : At K mg "_law_told" a.f__law_told
  F__law_shows : ∃ fd, DefAt K "_law_shows" "_law_shows" s__law_shows [] a.f__law_shows fd
  A__law_shows : At K mg "_law_shows" a.f__law_shows
  F__law_no_nouns : ∃ fd, DefAt K "_law_no_nouns" "_law_no_nouns" s__law_no_nouns [] a.f__law_no_nouns fd
  A__law_no_nouns : At K mg "_law_no_nouns" a.f__law_no_nouns
  F_law : ∃ fd, DefAt K "law" "law" s_law [] a.f_law fd
  A_law : At K mg "law" a.f_law
  M_Frame : MkAt K mg "Frame" a.C_Frame a.f_Frame___init__
  cl_Frame : Cls K a.C_Frame
  no_Frame_name : NoAttr K a.C_Frame "name"
  no_Frame_nouns : NoAttr K a.C_Frame "nouns"
  no_Frame_clause : NoAttr K a.C_Frame "clause"
  no_Frame_agreed : NoAttr K a.C_Frame "agreed"
  eq_Frame : LX.EqC K a.C_Frame a.f_Frame___eq__
  pr_Frame_slots : PropOf K a.C_Frame "slots" a.p_Frame_slots a.f_Frame_slots
  ty_Frame : PySem.W.findIn K (.ref a.C_Frame) "__class__" = some (some (.builtin "object.__class__")) ∧ PySem.W.specialIn K (.builtin "object.__class__") "__get__" = some (some (.builtin "getset_descriptor.__get__")) ∧ PySem.W.takesIn K (.builtin "object.__class__") = some true ∧ PySem.W.mroIn K a.C_Frame (.type "object") = some true
  is_Frame_Frame : PySem.W.kitOne K (.ref a.C_Frame) (.ref a.C_Frame) = some true
  nf_Frame_NoneType : PySem.W.notFirst K a.C_Frame (.type "NoneType") = true
  it_Frame_NoneType : PySem.W.kitOne K (.type "NoneType") (.ref a.C_Frame) = some false
  nf_Frame_bool : PySem.W.notFirst K a.C_Frame (.type "bool") = true
  it_Frame_bool : PySem.W.kitOne K (.type "bool") (.ref a.C_Frame) = some false
  nf_Frame_int : PySem.W.notFirst K a.C_Frame (.type "int") = true
  it_Frame_int : PySem.W.kitOne K (.type "int") (.ref a.C_Frame) = some false
  nf_Frame_str : PySem.W.notFirst K a.C_Frame (.type "str") = true
  it_Frame_str : PySem.W.kitOne K (.type "str") (.ref a.C_Frame) = some false
  nf_Frame_list : PySem.W.notFirst K a.C_Frame (.type "list") = true
  it_Frame_list : PySem.W.kitOne K (.type "list") (.ref a.C_Frame) = some false
  nf_Frame_tuple : PySem.W.notFirst K a.C_Frame (.type "tuple") = true
  it_Frame_tuple : PySem.W.kitOne K (.type "tuple") (.ref a.C_Frame) = some false
  g_TongueError : mg "TongueError" = some (.ref a.C_TongueError)
  g_BadStock : mg "BadStock" = some (.ref a.C_BadStock)
  g_BadFrame : mg "BadFrame" = some (.ref a.C_BadFrame)
  g_Frame : mg "Frame" = some (.ref a.C_Frame)
  ox_BadFrame : OexC K a.C_BadFrame
  ec_BadFrame : ExcC K a.C_BadFrame
  xf_BadFrame : XfC K a.C_BadFrame
  xno_BadFrame_what : PySem.W.findIn K (.ref a.C_BadFrame) "what" = some none
  xi_BadFrame : PySem.W.findIn K (.ref a.C_BadFrame) "__init__" = some (some (.ref a.f_BadFrame___init__))
  xti_BadFrame : PySem.W.typeIn K (.ref a.f_BadFrame___init__) = some (.type "function")
  su_BadFrame : ∃ cc cda, LX.SupC P K mg a.C_BadFrame a.f_BadFrame___init__ cc cda "BadFrame.__init__" (defArgs s_BadFrame___init__) (defBody s_BadFrame___init__) (defScope s_BadFrame___init__)
  xl_BadFrame : ∃ (oc kV dc pm ct : Value) (od an : Option Addr) (sl : Array (Option Value)) (cda cc : Addr), K.lookup a.f_BadFrame___init__ = some ⟨oc, od, .func (ksFn "__init__" "BadFrame.__init__" (defArgs s_BadFrame___init__) (defBody s_BadFrame___init__) (defScope s_BadFrame___init__) .none kV dc pm an (.ref cda) ct cc), sl⟩
  xis_BadFrame_BadFrame : PySem.W.kitOne K (.ref a.C_BadFrame) (.ref a.C_BadFrame) = some true
  xis_BadFrame_BadStock : PySem.W.kitOne K (.ref a.C_BadFrame) (.ref a.C_BadStock) = some false
  xis_BadFrame_ValueError : PySem.W.kitOne K (.ref a.C_BadFrame) (.type "ValueError") = some true
  xex_BadFrame_TongueError : PySem.W.exmOne K (.ref a.C_BadFrame) (.ref a.C_TongueError) = some true
  c_NAME_MOST : ∃ t, mg "NAME_MOST" = some (.int 8 t)
  n_ValueError : mg "ValueError" = none
  n_all : mg "all" = none
  n_bool : mg "bool" = none
  n_int : mg "int" = none
  n_isinstance : mg "isinstance" = none
  n_len : mg "len" = none
  n_list : mg "list" = none
  n_property : mg "property" = none
  n_range : mg "range" = none
  n_repr : mg "repr" = none
  n_sorted : mg "sorted" = none
  n_str : mg "str" = none
  n_super : mg "super" = none
  n_tuple : mg "tuple" = none
abbrev TT (K : Frag) (a : Ad) : Tb := ⟨K, fun c => match c with | 0 => a.C_Frame | _ => a.C_BadFrame, fun c => match c with | 0 => ["name", "nouns", "clause", "agreed"] | _ => []⟩
end L3
end
section
set_option Elab.async false
set_option linter.all false
set_option maxRecDepth 100000
set_option maxHeartbeats 1000000
namespace L3
open PySem PySem.Spec PyProof.Rows L2 PySem.W PySem.Calls Lo
local macro_rules | `(tactic| walk_at "sd") => `(tactic| first | exact .d | rfl | assumption | (with_reducible decide) | omega | exact .nil | exact AllD.nil)
local macro_rules | `(tactic| walk_at "we") => `(tactic| first
  | ((with_reducible refine' we_var ?hv ?_); (case hv => rfl))
  | (with_reducible refine we_int ?_)
  | (with_reducible refine we_op ?_)
  | (with_reducible refine we_str ?_)
  | (with_reducible refine we_isi ?_)
  | (with_reducible refine we_isi2 ?_)
  | (with_reducible refine we_cb ?_)
  | (with_reducible refine we_andV ?_)
  | (with_reducible refine we_orV ?_)
  | (with_reducible refine we_notV ?_)
  | (with_reducible refine we_non ?_)
  | (with_reducible refine we_bl ?_)
  | (with_reducible refine we_if ?_)
  | (with_reducible refine we_un ?_)
  | (with_reducible refine we_cal0 ?_)
  | (with_reducible refine we_cal2 ?_)
  | (with_reducible refine we_calH ?_)
  | (with_reducible refine we_prp ?_)
  | (with_reducible refine we_tup ?_)
  | (with_reducible refine we_chain ?_))
local macro_rules | `(tactic| walk_at "ws") => `(tactic| first
  | (with_reducible refine ws_seq ?_)
  | (with_reducible refine ws_if ?_)
  | (with_reducible refine ws_set ?_)
  | (with_reducible refine ws_ret ?_)
  | (with_reducible refine ws_next ?_)
  | (with_reducible refine ws_drop ?_)
  | (with_reducible refine ws_retN ?_))
local macro_rules | `(tactic| walk_at "wt") => `(tactic| first
  | (with_reducible refine wt_test ?_)
  | (with_reducible refine wt_B ?_)
  | (with_reducible refine wt_and ?_)
  | (with_reducible refine wt_or ?_)
  | (with_reducible refine wt_not ?_))
local macro_rules | `(tactic| walk_at "wr") => `(tactic| first
  | (with_reducible refine wr_addI ?_)
  | (with_reducible refine wr_leI ?_)
  | (with_reducible refine wr_B0 ?_)
  | (with_reducible refine wr_I0 ?_)
  | (with_reducible refine wr_isN ?_)
  | (with_reducible refine wr_notN ?_)
  | (with_reducible refine wr_leS ?_)
  | ((with_reducible refine' wr_ixL ?hv ?_); (case hv => rfl))
  | ((with_reducible refine' wr_ixT ?hv ?_); (case hv => rfl))
  | ((with_reducible refine' wr_ixO ?hv ?hw ?_); (case hv => rfl); (case hw => rfl))
  | ((with_reducible refine' wr_eqD ?h1 ?h2 ?h3 ?h4 ?_); (case h1 => exact .d); (case h2 => exact .d); (case h3 => rfl); (case h4 => rfl))
  | ((with_reducible refine' wr_neD ?h1 ?h2 ?h3 ?h4 ?_); (case h1 => exact .d); (case h2 => exact .d); (case h3 => rfl); (case h4 => rfl)))
local macro_rules | `(tactic| walk_at "da") => `(tactic| first
  | (with_reducible refine ⟨_, rfl, ?_⟩)
  | (with_reducible refine ⟨fun _ => ?_, fun h => Bool.noConfusion h⟩)
  | (with_reducible refine ⟨fun h => Bool.noConfusion h, fun _ => ?_⟩)
  | (with_reducible refine ⟨_, rfl, ?_, ?_⟩)
  | ((with_reducible refine' ⟨_, _, .d, ?h1, ?h2, ?_⟩); (case h1 => walk_at "sd"); (case h2 => rfl))
  | ((with_reducible refine' ⟨_, _, _, .d, ?h1, ?h2, ?h3, ?_⟩); (case h1 => walk_at "sd"); (case h2 => rfl); (case h3 => rfl))
  | (with_reducible refine ⟨fun hk => ?_, fun hk => ?_⟩)
  | (show ∃ d, SV.d _ = SV.d d ∧ _; with_reducible refine ⟨_, rfl, ?_⟩))
local macro_rules | `(tactic| walk_at "lo") => `(tactic| first
  | ((with_reducible show Lo.WE _ _ _ _ _ _); walk_at "we")
  | ((with_reducible show Lo.WA _ _ _ _ _ _); first | (with_reducible refine wa_cons ?_) | (with_reducible refine wa_nil ?_))
  | ((with_reducible show Lo.WS _ _ _ _ _ _); walk_at "ws")
  | ((with_reducible show Lo.WT _ _ _ _ _ _); walk_at "wt")
  | ((with_reducible show Lo.WR _ _ _ _ _ _ _); walk_at "wr")
  | ((with_reducible show Lo.WU _ _ _ _ _ _); (with_reducible refine wu_neg ?_))
  | ((with_reducible show Lo.WC _ _ _ _ _ _); first | ((with_reducible refine' wc_len ?hv ?_); (case hv => rfl)) | (with_reducible refine wc_int ?_))
  | walk_at "da")
local macro_rules | `(tactic| walk_at "wq") => `(tactic| first
  | (with_reducible refine ws_seq (t := tAsg _ _) ?_)
  | (with_reducible refine ws_seq (t := tDrop _) ?_)
  | (with_reducible refine ws_set ?_)
  | (with_reducible refine ws_ret ?_)
  | (with_reducible refine ws_next ?_)
  | (with_reducible refine ws_drop ?_)
  | (with_reducible refine ws_retN ?_))
local macro_rules | `(tactic| walk_at "lq") => `(tactic| first
  | ((with_reducible show Lo.WE _ _ _ _ _ _); walk_at "we")
  | ((with_reducible show Lo.WA _ _ _ _ _ _); first | (with_reducible refine wa_cons ?_) | (with_reducible refine wa_nil ?_))
  | ((with_reducible show Lo.WS _ _ _ _ _ _); walk_at "wq")
  | ((with_reducible show Lo.WT _ _ _ _ _ _); walk_at "wt")
  | ((with_reducible show Lo.WR _ _ _ _ _ _ _); walk_at "wr")
  | ((with_reducible show Lo.WU _ _ _ _ _ _); (with_reducible refine wu_neg ?_))
  | ((with_reducible show Lo.WC _ _ _ _ _ _); first | ((with_reducible refine' wc_len ?hv ?_); (case hv => rfl)) | (with_reducible refine wc_int ?_))
  | walk_at "da")
local macro_rules | `(tactic| walk_at "ws") => `(tactic| (with_reducible refine ws_sub ?_))
local macro_rules | `(tactic| walk_at "wq") => `(tactic| (with_reducible refine ws_sub ?_))
local macro_rules | `(tactic| walk_at "da") => `(tactic| ((with_reducible show ∃ (i : Int) (j : Nat) (ss : List SV), SV.d (D.int _) = SV.d (D.int i) ∧ _); refine ⟨_, _, _, rfl, (rfl : _ = some (OW.lst _)), rfl, ?_⟩))

def oi : Option Int → D | none => .non | some i => .int i
def items : D → Option (List D) | .lst xs => some xs | .tup xs => some xs | _ => none
def isWhole (t : D) (lo hi : Option Int) : Bool := match t with
  | .int n => (match lo with | none => true | some l => decide (l ≤ n)) && (match hi with | none => true | some h => decide (n ≤ h))
  | _ => false
def isAmong (t w : D) : Bool := isWhole t none none && t.inF ((items w).getD [])
def isRow (t : D) (lo hi : Int) : Bool := match items t with | some xs => decide (lo ≤ (xs.length : Int)) && decide ((xs.length : Int) ≤ hi) | none => false
def lett (z : Str) : Bool := z.cps.toList.all fun c => decide (97 ≤ c) && decide (c ≤ 122)
def isName (t : D) (most : Int) : Bool := match t with | .str z => decide (1 ≤ (z.length : Int)) && (decide ((z.length : Int) ≤ most) && lett z) | _ => false
def chain (last : Int) : List D → Bool
  | [] => true
  | x :: r => match x with | .int n => isWhole (.int n) (some (last + 1)) (some 5) && chain n r | _ => false
def areNouns (t : D) : Bool := isRow t 1 5 && chain (-1) ((items t).getD [])
theorem lt_sign {x y : Nat} : decide ([x] < [y]) = decide (x < y) := by
  refine decide_eq_decide.mpr ⟨fun h => ?_, fun h => .rel h⟩
  cases h with
  | rel h => exact h
  | cons h => cases h
def letF (d : D) : Bool := match d with | .str y => (!decide (y.cps.toList < ("a" : Str).cps.toList)) && (!decide (("z" : Str).cps.toList < y.cps.toList)) | _ => false
theorem letF_one (c : Nat) : letF (.str ⟨#[c]⟩) = (decide (97 ≤ c) && decide (c ≤ 122)) := by
  have e1 : ("a" : Str).cps.toList = [97] := by decide +kernel
  have e2 : ("z" : Str).cps.toList = [122] := by decide +kernel
  show ((!decide ([c] < ("a" : Str).cps.toList)) && (!decide (("z" : Str).cps.toList < [c]))) = _
  rw [e1, e2, lt_sign, lt_sign]
  by_cases h1 : 97 ≤ c <;> by_cases h2 : c ≤ 122 <;> simp [h1, h2] <;> omega
theorem lett_all (z : Str) : (z.cps.toList.map fun c => letF (.str ⟨#[c]⟩)).all id = lett z := by
  unfold lett
  rw [List.all_map]
  exact congrArg (fun f => z.cps.toList.all f) (funext fun c => letF_one c)
theorem bl_post {b1 b2 : Bool} (h : b1 = b2) : D.bl b1 = D.bl b2 := by rw [h]
section
variable {P : Program} {w : World} {K : Frag} {mg : Str → Option Value} {base : Heap} {a : Ad}
abbrev F_is_whole : DF := Fv (ι := D × Option Int × Option Int) (fun i => [i.1, oi i.2.1, oi i.2.2]) (fun i => i.1.isO = false) (fun i d => d = .bl (isWhole i.1 i.2.1 i.2.2)) noErr
theorem ok_is_whole {fd} (X : Txt P K mg a) (F : DefAt K "is_whole" "is_whole" s_is_whole [.non, .non] a.f_is_whole fd) : FnOk P w K mg base (L2.CX P w) 1 a.f_is_whole fd ["thing", "low", "high"] (SpP (TT K a) F_is_whole) := by
  refine okP (fun i => [some (.d i.1), some (.d (oi i.2.1)), some (.d (oi i.2.2))]) F sc_is_whole (fun _ => rfl) fun cdv A outer s H E hr => ⟨_, 
   (pss_cons (ps_if (PW.pt (pw_or (pt_val (pe_callB call_isi (by rfl) X.n_isinstance (by decide +kernel) (pa_cons (pv 0) (pa_cons (pe_bltn (v := .ty "bool") rfl X.n_bool (by decide +kernel) rfl) pa_nil)))) (pw_or1 (pt_not (pt_val (pe_callB call_isi (by rfl) X.n_isinstance (by decide +kernel) (pa_cons (pv 0) (pa_cons (pe_bltn (v := .ty "int") rfl X.n_int (by decide +kernel) rfl) pa_nil))))))))
  (pss_one (ps_ret pe_bl))
  pss_nil)
  (pss_one (ps_ret (pe_and (pe_or (pe_cmpR op_isN1 (pv 1) pe_non (nomark _)) (pe_one (pe_cmpR op_ge (pv 0) (pv 1) (nomark _)))) (pe_one (pe_or (pe_cmpR op_isN1 (pv 2) pe_non (nomark _)) (pe_one (pe_cmpR op_leA (pv 0) (pv 2) (nomark _))))))))), fun b ⟨t, lo, hi⟩ hp hx => ?_⟩
  have hu := hu_of hr
  dsimp only [CxB, L2.cxOf] at hp ⊢
  cases t with
  | obj c fs => cases hp
  | int n =>
    cases lo <;> cases hi <;> dsimp only [oi] <;> (repeat' walk_at "lo")
    all_goals (refine bl_post ?_; dsimp only [isWhole]; first | (simp_all; done) | (simp_all; omega))
  | non => (repeat' walk_at "lo"); rfl
  | dct ks vs => (repeat' walk_at "lo"); rfl
  | bl k => (repeat' walk_at "lo"); rfl
  | str z => (repeat' walk_at "lo"); rfl
  | lst xs => (repeat' walk_at "lo"); rfl
  | tup xs => (repeat' walk_at "lo"); rfl
theorem cal_is_whole (X : Txt P K mg a) : Cal P w K mg base 1 a.f_is_whole ["thing", "low", "high"] (SpP (TT K a) F_is_whole) [] := by
  obtain ⟨fd, F⟩ := X.F_is_whole
  obtain ⟨ds, hd, hb⟩ := FunD.binds1 (ps := ["thing", "low", "high"]) F 3 2 (by simp) (by simp) (fun T kV doc pm an cdv ct us its hu hi => match us, its, hu, hi with | [_, _, _], [_, _], _, _ => ⟨_, rfl, rfl⟩)
  exact ⟨fd, ds, ok_is_whole X F, hd, hb⟩
theorem cal_is_whole1 (X : Txt P K mg a) : Cal P w K mg base 1 a.f_is_whole ["thing", "low", "high"] (SpP (TT K a) F_is_whole) [.non, .non] := by
  obtain ⟨fd, F⟩ := X.F_is_whole
  obtain ⟨ds, hd, hb⟩ := FunD.binds1 (ps := ["thing", "low", "high"]) F 1 0 (by simp) (by simp) (fun T kV doc pm an cdv ct us its hu hi => match us, its, hu, hi with | [_], [_, _], _, _ => ⟨_, rfl, rfl⟩)
  exact ⟨fd, ds, ok_is_whole X F, hd, hb⟩
abbrev F_is_row : DF := Fv (ι := D × Int × Int) (fun i => [i.1, .int i.2.1, .int i.2.2]) (fun i => i.1.isO = false) (fun i d => d = .bl (isRow i.1 i.2.1 i.2.2)) noErr
theorem ok_is_row {fd} (X : Txt P K mg a) (F : DefAt K "is_row" "is_row" s_is_row [.int 0, .non] a.f_is_row fd) : FnOk P w K mg base (L2.CX P w) 1 a.f_is_row fd ["thing", "low", "high"] (SpP (TT K a) F_is_row) := by
  refine okP (fun i => [some (.d i.1), some (.d (.int i.2.1)), some (.d (.int i.2.2))]) F sc_is_row (fun _ => rfl) fun cdv A outer s H E hr => ⟨_, 
   (pss_one (ps_ret (pe_and (pe_callB call_isiT (by rfl) X.n_isinstance (by decide +kernel) (pa_cons (pv 0) (pa_cons (pe_tup (pa_cons (pe_bltn (v := .ty "list") rfl X.n_list (by decide +kernel) rfl) (pa_cons (pe_bltn (v := .ty "tuple") rfl X.n_tuple (by decide +kernel) rfl) pa_nil))) pa_nil))) (pe_and (pe_cmpR op_ge (pe_callB call_lenA (by rfl) X.n_len PySem.boot_len (pa_cons (pv 0) pa_nil)) (pv 1) (nomark _)) (pe_one (pe_or (pe_cmpR op_isN1 (pv 2) pe_non (nomark _)) (pe_one (pe_cmpR op_leA (pe_callB call_lenA (by rfl) X.n_len PySem.boot_len (pa_cons (pv 0) pa_nil)) (pv 2) (nomark _))))))))), fun b ⟨t, lo, hi⟩ hp hx => ?_⟩
  have hu := hu_of hr
  dsimp only [CxB, L2.cxOf] at hp ⊢
  cases t with
  | obj c fs => cases hp
  | non => (repeat' walk_at "lo"); rfl
  | dct ks vs => (repeat' walk_at "lo"); rfl
  | bl k => (repeat' walk_at "lo"); rfl
  | str z => (repeat' walk_at "lo"); rfl
  | int n => (repeat' walk_at "lo"); rfl
  | lst xs => 
    repeat' walk_at "lo"
    all_goals (refine bl_post ?_; dsimp only [isRow, items]; first | (simp_all; done) | (simp_all; omega))
  | tup xs =>
    repeat' walk_at "lo"
    all_goals (refine bl_post ?_; dsimp only [isRow, items]; first | (simp_all; done) | (simp_all; omega))
theorem cal_is_row (X : Txt P K mg a) : Cal P w K mg base 1 a.f_is_row ["thing", "low", "high"] (SpP (TT K a) F_is_row) [] := by
  obtain ⟨fd, F⟩ := X.F_is_row
  obtain ⟨ds, hd, hb⟩ := FunD.binds1 (ps := ["thing", "low", "high"]) F 3 2 (by simp) (by simp) (fun T kV doc pm an cdv ct us its hu hi => match us, its, hu, hi with | [_, _, _], [_, _], _, _ => ⟨_, rfl, rfl⟩)
  exact ⟨fd, ds, ok_is_row X F, hd, hb⟩
abbrev F_are_letters : DF := Fv (ι := Str) (fun i => [.str i]) (fun i => i.length ≤ 100000) (fun i d => d = .bl (lett i)) noErr
theorem ok_are_letters {fd} (X : Txt P K mg a) (F : DefAt K "are_letters" "are_letters" s_are_letters [] a.f_are_letters fd) : FnOk P w K mg base (L2.CX P w) 1 a.f_are_letters fd ["text"] (SpP (TT K a) F_are_letters) := by
  refine okP (fun i => [some (.d (.str i)), none]) F sc_are_letters (fun _ => rfl) fun cdv A outer s H E hr => ⟨_, 
   (pss_one (ps_ret (pe_callB (cr_all rfl) (by rfl) X.n_all (by decide +kernel) (pa_cons (pe_lc (own := [("letter", 1)]) (by rfl) sc_are_letters.nd (pi_str (pv 0)) (blkOk_by (own := [("letter", 1)]) (N := N_are_letters) (sc := defScope s_are_letters) (by decide +kernel)) (fun _ _ _ _ _ => (pg_name (i := 1) sc_are_letters.nd rfl (Or.inl rfl))) (fun _ _ _ _ _ => pts_nil) (fun _ _ _ _ _ => (pe_chain op_leA op_leA pe_str (pv 1) pe_str))) pa_nil)))), fun b z hp hx => ?_⟩
  have hu := hu_of hr
  dsimp only [CxB, L2.cxOf] at hp ⊢
  repeat' walk_at "lo"
  refine we_lcf (js := [1]) (by decide) (fun d => .bl (letF d)) (wi_str ?_)
  repeat' walk_at "lo"
  refine ⟨Nat.zero_le _, OwP_nil, by unfold signsD; rw [List.length_map]; exact hp, fun x acc hm => ?_, ?_⟩
  · obtain ⟨c, _, rfl⟩ := List.mem_map.mp hm
    refine wg_name ?_
    repeat' walk_at "lo"
    all_goals (refine ⟨congrArg (fun k => SV.d (D.bl k)) ?_, rfl⟩; simp_all [letF])
  · repeat' walk_at "lo"
    have e : List.map (fun d => D.bl (letF d)) (signsD z) = (z.cps.toList.map fun c => letF (.str ⟨#[c]⟩)).map D.bl := by
      unfold signsD
      rw [List.map_map, List.map_map]
      rfl
    rw [e]
    refine wc_all ?_
    rw [lett_all]
    exact ⟨_, rfl, rfl⟩
theorem cal_are_letters (X : Txt P K mg a) : Cal P w K mg base 1 a.f_are_letters ["text"] (SpP (TT K a) F_are_letters) [] := by
  obtain ⟨fd, F⟩ := X.F_are_letters
  exact ⟨fd, [], ok_are_letters X F, .nil, F.bindsN fun _ _ _ _ _ _ us hl => match us, hl with | [_], _ => rfl⟩
end
end L3
end
section
set_option Elab.async false
set_option linter.all false
set_option maxRecDepth 100000
set_option maxHeartbeats 1000000
namespace L3
open PySem PySem.Spec PyProof.Rows L2 PySem.W PySem.Calls Lo
local macro_rules | `(tactic| walk_at "sd") => `(tactic| first | exact .d | rfl | assumption | (with_reducible decide) | omega | exact .nil | exact AllD.nil)
local macro_rules | `(tactic| walk_at "we") => `(tactic| first
  | ((with_reducible refine' we_var ?hv ?_); (case hv => rfl))
  | (with_reducible refine we_int ?_)
  | (with_reducible refine we_op ?_)
  | (with_reducible refine we_str ?_)
  | (with_reducible refine we_isi ?_)
  | (with_reducible refine we_isi2 ?_)
  | (with_reducible refine we_cb ?_)
  | (with_reducible refine we_andV ?_)
  | (with_reducible refine we_orV ?_)
  | (with_reducible refine we_notV ?_)
  | (with_reducible refine we_non ?_)
  | (with_reducible refine we_bl ?_)
  | (with_reducible refine we_if ?_)
  | (with_reducible refine we_un ?_)
  | (with_reducible refine we_cal0 ?_)
  | (with_reducible refine we_cal2 ?_)
  | (with_reducible refine we_calH ?_)
  | (with_reducible refine we_prp ?_)
  | (with_reducible refine we_tup ?_)
  | (with_reducible refine we_chain ?_))
local macro_rules | `(tactic| walk_at "ws") => `(tactic| first
  | (with_reducible refine ws_seq ?_)
  | (with_reducible refine ws_if ?_)
  | (with_reducible refine ws_set ?_)
  | (with_reducible refine ws_ret ?_)
  | (with_reducible refine ws_next ?_)
  | (with_reducible refine ws_drop ?_)
  | (with_reducible refine ws_retN ?_))
local macro_rules | `(tactic| walk_at "wt") => `(tactic| first
  | (with_reducible refine wt_test ?_)
  | (with_reducible refine wt_B ?_)
  | (with_reducible refine wt_and ?_)
  | (with_reducible refine wt_or ?_)
  | (with_reducible refine wt_not ?_))
local macro_rules | `(tactic| walk_at "wr") => `(tactic| first
  | (with_reducible refine wr_addI ?_)
  | (with_reducible refine wr_leI ?_)
  | (with_reducible refine wr_B0 ?_)
  | (with_reducible refine wr_I0 ?_)
  | (with_reducible refine wr_isN ?_)
  | (with_reducible refine wr_notN ?_)
  | (with_reducible refine wr_leS ?_)
  | ((with_reducible refine' wr_ixL ?hv ?_); (case hv => rfl))
  | ((with_reducible refine' wr_ixT ?hv ?_); (case hv => rfl))
  | ((with_reducible refine' wr_ixO ?hv ?hw ?_); (case hv => rfl); (case hw => rfl))
  | ((with_reducible refine' wr_eqD ?h1 ?h2 ?h3 ?h4 ?_); (case h1 => exact .d); (case h2 => exact .d); (case h3 => rfl); (case h4 => rfl))
  | ((with_reducible refine' wr_neD ?h1 ?h2 ?h3 ?h4 ?_); (case h1 => exact .d); (case h2 => exact .d); (case h3 => rfl); (case h4 => rfl)))
local macro_rules | `(tactic| walk_at "da") => `(tactic| first
  | (with_reducible refine ⟨_, rfl, ?_⟩)
  | (with_reducible refine ⟨fun _ => ?_, fun h => Bool.noConfusion h⟩)
  | (with_reducible refine ⟨fun h => Bool.noConfusion h, fun _ => ?_⟩)
  | (with_reducible refine ⟨_, rfl, ?_, ?_⟩)
  | ((with_reducible refine' ⟨_, _, .d, ?h1, ?h2, ?_⟩); (case h1 => walk_at "sd"); (case h2 => rfl))
  | ((with_reducible refine' ⟨_, _, _, .d, ?h1, ?h2, ?h3, ?_⟩); (case h1 => walk_at "sd"); (case h2 => rfl); (case h3 => rfl))
  | (with_reducible refine ⟨fun hk => ?_, fun hk => ?_⟩)
  | (show ∃ d, SV.d _ = SV.d d ∧ _; with_reducible refine ⟨_, rfl, ?_⟩))
local macro_rules | `(tactic| walk_at "lo") => `(tactic| first
  | ((with_reducible show Lo.WE _ _ _ _ _ _); walk_at "we")
  | ((with_reducible show Lo.WA _ _ _ _ _ _); first | (with_reducible refine wa_cons ?_) | (with_reducible refine wa_nil ?_))
  | ((with_reducible show Lo.WS _ _ _ _ _ _); walk_at "ws")
  | ((with_reducible show Lo.WT _ _ _ _ _ _); walk_at "wt")
  | ((with_reducible show Lo.WR _ _ _ _ _ _ _); walk_at "wr")
  | ((with_reducible show Lo.WU _ _ _ _ _ _); (with_reducible refine wu_neg ?_))
  | ((with_reducible show Lo.WC _ _ _ _ _ _); first | ((with_reducible refine' wc_len ?hv ?_); (case hv => rfl)) | (with_reducible refine wc_int ?_))
  | walk_at "da")
local macro_rules | `(tactic| walk_at "wq") => `(tactic| first
  | (with_reducible refine ws_seq (t := tAsg _ _) ?_)
  | (with_reducible refine ws_seq (t := tDrop _) ?_)
  | (with_reducible refine ws_set ?_)
  | (with_reducible refine ws_ret ?_)
  | (with_reducible refine ws_next ?_)
  | (with_reducible refine ws_drop ?_)
  | (with_reducible refine ws_retN ?_))
local macro_rules | `(tactic| walk_at "lq") => `(tactic| first
  | ((with_reducible show Lo.WE _ _ _ _ _ _); walk_at "we")
  | ((with_reducible show Lo.WA _ _ _ _ _ _); first | (with_reducible refine wa_cons ?_) | (with_reducible refine wa_nil ?_))
  | ((with_reducible show Lo.WS _ _ _ _ _ _); walk_at "wq")
  | ((with_reducible show Lo.WT _ _ _ _ _ _); walk_at "wt")
  | ((with_reducible show Lo.WR _ _ _ _ _ _ _); walk_at "wr")
  | ((with_reducible show Lo.WU _ _ _ _ _ _); (with_reducible refine wu_neg ?_))
  | ((with_reducible show Lo.WC _ _ _ _ _ _); first | ((with_reducible refine' wc_len ?hv ?_); (case hv => rfl)) | (with_reducible refine wc_int ?_))
  | walk_at "da")
local macro_rules | `(tactic| walk_at "ws") => `(tactic| (with_reducible refine ws_sub ?_))
local macro_rules | `(tactic| walk_at "wq") => `(tactic| (with_reducible refine ws_sub ?_))
local macro_rules | `(tactic| walk_at "da") => `(tactic| ((with_reducible show ∃ (i : Int) (j : Nat) (ss : List SV), SV.d (D.int _) = SV.d (D.int i) ∧ _); refine ⟨_, _, _, rfl, (rfl : _ = some (OW.lst _)), rfl, ?_⟩))

section
variable {P : Program} {w : World} {K : Frag} {mg : Str → Option Value} {base : Heap} {a : Ad}
def okStr (t : D) : Prop := t.isO = false ∧ ∀ z, t = .str z → z.length ≤ 100000
abbrev F_is_name : DF := Fv (ι := D × Int) (fun i => [i.1, .int i.2]) (fun i => okStr i.1) (fun i d => d = .bl (isName i.1 i.2)) noErr
theorem ok_is_name {fd} (X : Txt P K mg a) (F : DefAt K "is_name" "is_name" s_is_name [] a.f_is_name fd) : FnOk P w K mg base (L2.CX P w) 2 a.f_is_name fd ["thing", "most"] (SpP (TT K a) F_is_name) := by
  refine okP (fun i => [some (.d i.1), some (.d (.int i.2))]) F sc_is_name (fun _ => rfl) fun cdv A outer s H E hr => ⟨_, 
   (pss_one (ps_ret (pe_and (pe_callB call_isi (by rfl) X.n_isinstance (by decide +kernel) (pa_cons (pv 0) (pa_cons (pe_bltn (v := .ty "str") rfl X.n_str (by decide +kernel) rfl) pa_nil))) (pe_and (pe_chain op_leA op_leA pe_int (pe_callB call_lenA (by rfl) X.n_len PySem.boot_len (pa_cons (pv 0) pa_nil)) (pv 1)) (pe_one (pe_cal X.A_are_letters (cal_are_letters X) hr (by rfl) passL (pa_cons (pv 0) pa_nil))))))), fun b ⟨t, m⟩ hp hx => ?_⟩
  have hu := hu_of hr
  dsimp only [CxB, L2.cxOf] at hp ⊢
  obtain ⟨hp, hz⟩ := hp
  cases t with
  | obj c fs => cases hp
  | non => (repeat' walk_at "lo"); rfl
  | dct ks vs => (repeat' walk_at "lo"); rfl
  | bl k => (repeat' walk_at "lo"); rfl
  | int n => (repeat' walk_at "lo"); rfl
  | lst xs => (repeat' walk_at "lo"); rfl
  | tup xs => (repeat' walk_at "lo"); rfl
  | str z =>
    have hl := hz z rfl
    have el : D.lenN (.str z) = some z.length := if_pos hl
    repeat' walk_at "lo"
    refine wc_len el ?_
    repeat' walk_at "lo"
    · refine ⟨_, .cons .nil, ⟨z, rfl, hl, fun _ z => z, ?_⟩⟩
      rintro d rfl
      refine ⟨_, rfl, ?_⟩
      refine bl_post ?_
      dsimp only [isName]
      simp_all
    all_goals (refine bl_post ?_; dsimp only [isName]; first | (simp_all; done) | (simp_all; omega))
theorem cal_is_name (X : Txt P K mg a) : Cal P w K mg base 2 a.f_is_name ["thing", "most"] (SpP (TT K a) F_is_name) [] := by
  obtain ⟨fd, F⟩ := X.F_is_name
  exact ⟨fd, [], ok_is_name X F, .nil, F.bindsN fun _ _ _ _ _ _ us hl => match us, hl with | [_, _], _ => rfl⟩
def okSeq (w : D) : Prop := ∃ xs, items w = some xs ∧ xs.all D.flat = true
abbrev F_is_among : DF := Fv (ι := D × D) (fun i => [i.1, i.2]) (fun i => i.1.isO = false ∧ okSeq i.2) (fun i d => d = .bl (isAmong i.1 i.2)) noErr
theorem ok_is_among {fd} (X : Txt P K mg a) (F : DefAt K "is_among" "is_among" s_is_among [] a.f_is_among fd) : FnOk P w K mg base (L2.CX P w) 2 a.f_is_among fd ["thing", "wholes"] (SpP (TT K a) F_is_among) := by
  refine okP (fun i => [some (.d i.1), some (.d i.2)]) F sc_is_among (fun _ => rfl) fun cdv A outer s H E hr => ⟨_, 
   (pss_one (ps_ret (pe_and (pe_cal X.A_is_whole (cal_is_whole1 X) hr (by rfl) passL (pa_cons (pv 0) pa_nil)) (pe_one (pe_cmpR op_in_seq (pv 0) (pv 1) (by rfl)))))), fun b ⟨t, q⟩ hp hx => ?_⟩
  have hu := hu_of hr
  dsimp only [CxB, L2.cxOf] at hp ⊢
  obtain ⟨hp, xs, he, hf⟩ := hp
  repeat' walk_at "lo"
  refine ⟨_, .cons .nil, ⟨(t, none, none), rfl, hp, fun _ z => z, ?_⟩⟩
  rintro d rfl
  repeat' walk_at "lo"
  · rename_i hk
    have ft : t.flat = true := by
      cases t <;> first | rfl | (dsimp only [isWhole] at hk; cases hk)
    cases q with
    | lst ys =>
      cases he
      refine wr_inL (neg := false) ft hf ?_
      repeat' walk_at "lo"
      refine bl_post ?_
      dsimp only [isAmong, items]
      simp_all
    | tup ys =>
      cases he
      refine wr_inT (neg := false) ft hf ?_
      repeat' walk_at "lo"
      refine bl_post ?_
      dsimp only [isAmong, items]
      simp_all
    | _ => cases he
  · refine bl_post ?_
    dsimp only [isAmong]
    simp_all
theorem cal_is_among (X : Txt P K mg a) : Cal P w K mg base 2 a.f_is_among ["thing", "wholes"] (SpP (TT K a) F_is_among) [] := by
  obtain ⟨fd, F⟩ := X.F_is_among
  exact ⟨fd, [], ok_is_among X F, .nil, F.bindsN fun _ _ _ _ _ _ us hl => match us, hl with | [_, _], _ => rfl⟩
def okNouns (t : D) : Prop := t.isO = false ∧ ∀ xs, items t = some xs → ∀ x ∈ xs, x.isO = false
abbrev F__are_nouns : DF := Fv (ι := D) (fun i => [i]) (fun i => okNouns i) (fun i d => d = .bl (areNouns i)) noErr
theorem chain_drop {last : Int} {xs : List D} {i : Nat} {x : D} (h : xs[i]? = some x) : chain last (xs.drop i) = chain last (x :: xs.drop (i + 1)) := by
  have hi := (List.getElem?_eq_some_iff.mp h).1
  have e : xs.drop i = x :: xs.drop (i + 1) := by
    rw [List.drop_eq_getElem_cons hi]
    have := (List.getElem?_eq_some_iff.mp h).2
    rw [this]
  rw [e]
theorem ok__are_nouns {fd} (X : Txt P K mg a) (F : DefAt K "_are_nouns" "_are_nouns" s__are_nouns [] a.f__are_nouns fd) : FnOk P w K mg base (L2.CX P w) 2 a.f__are_nouns fd ["nouns"] (SpP (TT K a) F__are_nouns) := by
  refine okP (fun i => [some (.d i), none, none]) F sc__are_nouns (fun _ => rfl) fun cdv A outer s H E hr => ⟨_, 
   (pss_cons (ps_if (pt_not (pt_val (pe_cal X.A_is_row (cal_is_row X) hr (by rfl) passL (pa_cons (pv 0) (pa_cons pe_int (pa_cons pe_int pa_nil))))))
  (pss_one (ps_ret pe_bl))
  pss_nil)
  (pss_cons (ps_set (i := 1) sc__are_nouns.nd rfl (Or.inl rfl) (pe_un un_neg pe_int))
  (pss_cons (ps_for (passes_of rfl) rfl (pi_seq (pv 0)) (pg_name (i := 2) sc__are_nouns.nd rfl (Or.inl rfl))
  (pss_cons (ps_if (pt_not (pt_val (pe_cal X.A_is_whole (cal_is_whole X) hr (by rfl) passL (pa_cons (pv 2) (pa_cons (pe_op op_addA (pv 1) pe_int) (pa_cons pe_int pa_nil))))))
  (pss_one (ps_ret pe_bl))
  pss_nil)
  (pss_one (ps_set (i := 1) sc__are_nouns.nd rfl (Or.inl rfl) (pv 2)))))
  (pss_one (ps_ret pe_bl))))), fun b t hp hx => ?_⟩
  have hu := hu_of hr
  dsimp only [CxB, L2.cxOf] at hp ⊢
  obtain ⟨hp, hz⟩ := hp
  repeat' walk_at "lo"
  refine ⟨_, .cons (.cons (.cons .nil)), ⟨(t, 1, 5), rfl, hp, fun _ z => z, ?_⟩⟩
  rintro d rfl
  repeat' walk_at "lo"
  · refine bl_post ?_
    unfold areNouns
    simp_all
  · rename_i hk
    obtain ⟨xs, hxs⟩ : ∃ xs, items t = some xs := by
      cases h : items t with
      | none => simp [isRow, h] at hk
      | some xs => exact ⟨xs, rfl⟩
    have hlst : t = .lst xs ∨ t = .tup xs := by
      cases t <;> simp [items] at hxs <;> simp [hxs]
    refine ws_for (js := [2]) (fun its i o s => o = [] ∧ ∃ last x, s = [some (.d t), some (.d (.int last)), x] ∧ chain (-1) its = chain last (its.drop i)) (wi_seq ?_)
    repeat' walk_at "lo"
    refine ⟨xs, hlst.imp (fun e => by rw [e]) (fun e => by rw [e]), Nat.le_refl _, ⟨rfl, -1, none, rfl, rfl⟩, ?_, ?_⟩
    · rintro i x o' s' hi ⟨rfl, last, y, rfl, hc⟩
      refine ⟨OwP_nil, Nat.le_refl _, ?_⟩
      have hcd := chain_drop (last := last) hi
      refine wg_name ?_
      repeat' walk_at "lo"
      refine ⟨_, .cons (.cons (.cons .nil)), ⟨(x, some (last + 1), some 5), rfl, hz xs hxs x (List.mem_of_getElem? hi), fun _ z => z, ?_⟩⟩
      rintro d rfl
      repeat' walk_at "lo"
      · refine bl_post ?_
        cases x <;> simp_all [areNouns, isWhole, chain] <;> (intro h1 h2; omega)
      · obtain ⟨n, rfl⟩ : ∃ n, x = .int n := by cases x <;> simp_all [isWhole]
        refine ⟨[], _, ⟨List.prefix_refl _, .keepd (.keepd (.keepd .nil))⟩, OwP_nil, Nat.le_refl _, rfl, n, _, rfl, ?_⟩
        rw [hc, hcd]
        simp_all [chain]
    · rintro o' s' ⟨rfl, last, y, rfl, hc⟩
      repeat' walk_at "lo"
      refine bl_post ?_
      unfold areNouns
      rw [hxs]
      simp_all [chain]
theorem cal__are_nouns (X : Txt P K mg a) : Cal P w K mg base 2 a.f__are_nouns ["nouns"] (SpP (TT K a) F__are_nouns) [] := by
  obtain ⟨fd, F⟩ := X.F__are_nouns
  exact ⟨fd, [], ok__are_nouns X F, .nil, F.bindsN fun _ _ _ _ _ _ us hl => match us, hl with | [_], _ => rfl⟩
end
end L3
end
section
set_option Elab.async false
set_option linter.all false
set_option maxRecDepth 100000
set_option maxHeartbeats 1000000
namespace L3
open PySem PySem.Spec PyProof.Rows L2 PySem.W PySem.Calls Lo
local macro_rules | `(tactic| walk_at "sd") => `(tactic| first | exact .d | rfl | assumption | (with_reducible decide) | omega | exact .nil | exact AllD.nil)
local macro_rules | `(tactic| walk_at "we") => `(tactic| first
  | ((with_reducible refine' we_var ?hv ?_); (case hv => rfl))
  | (with_reducible refine we_int ?_)
  | (with_reducible refine we_op ?_)
  | (with_reducible refine we_str ?_)
  | (with_reducible refine we_isi ?_)
  | (with_reducible refine we_isi2 ?_)
  | (with_reducible refine we_cb ?_)
  | (with_reducible refine we_andV ?_)
  | (with_reducible refine we_orV ?_)
  | (with_reducible refine we_notV ?_)
  | (with_reducible refine we_non ?_)
  | (with_reducible refine we_bl ?_)
  | (with_reducible refine we_if ?_)
  | (with_reducible refine we_un ?_)
  | (with_reducible refine we_cal0 ?_)
  | (with_reducible refine we_cal2 ?_)
  | (with_reducible refine we_calH ?_)
  | (with_reducible refine we_prp ?_)
  | (with_reducible refine we_tup ?_)
  | (with_reducible refine we_chain ?_))
local macro_rules | `(tactic| walk_at "ws") => `(tactic| first
  | (with_reducible refine ws_seq ?_)
  | (with_reducible refine ws_if ?_)
  | (with_reducible refine ws_set ?_)
  | (with_reducible refine ws_ret ?_)
  | (with_reducible refine ws_next ?_)
  | (with_reducible refine ws_drop ?_)
  | (with_reducible refine ws_retN ?_))
local macro_rules | `(tactic| walk_at "wt") => `(tactic| first
  | (with_reducible refine wt_test ?_)
  | (with_reducible refine wt_B ?_)
  | (with_reducible refine wt_and ?_)
  | (with_reducible refine wt_or ?_)
  | (with_reducible refine wt_not ?_))
local macro_rules | `(tactic| walk_at "wr") => `(tactic| first
  | (with_reducible refine wr_addI ?_)
  | (with_reducible refine wr_leI ?_)
  | (with_reducible refine wr_B0 ?_)
  | (with_reducible refine wr_I0 ?_)
  | (with_reducible refine wr_isN ?_)
  | (with_reducible refine wr_notN ?_)
  | (with_reducible refine wr_leS ?_)
  | ((with_reducible refine' wr_ixL ?hv ?_); (case hv => rfl))
  | ((with_reducible refine' wr_ixT ?hv ?_); (case hv => rfl))
  | ((with_reducible refine' wr_ixO ?hv ?hw ?_); (case hv => rfl); (case hw => rfl))
  | ((with_reducible refine' wr_eqD ?h1 ?h2 ?h3 ?h4 ?_); (case h1 => exact .d); (case h2 => exact .d); (case h3 => rfl); (case h4 => rfl))
  | ((with_reducible refine' wr_neD ?h1 ?h2 ?h3 ?h4 ?_); (case h1 => exact .d); (case h2 => exact .d); (case h3 => rfl); (case h4 => rfl)))
local macro_rules | `(tactic| walk_at "da") => `(tactic| first
  | (with_reducible refine ⟨_, rfl, ?_⟩)
  | (with_reducible refine ⟨fun _ => ?_, fun h => Bool.noConfusion h⟩)
  | (with_reducible refine ⟨fun h => Bool.noConfusion h, fun _ => ?_⟩)
  | (with_reducible refine ⟨_, rfl, ?_, ?_⟩)
  | ((with_reducible refine' ⟨_, _, .d, ?h1, ?h2, ?_⟩); (case h1 => walk_at "sd"); (case h2 => rfl))
  | ((with_reducible refine' ⟨_, _, _, .d, ?h1, ?h2, ?h3, ?_⟩); (case h1 => walk_at "sd"); (case h2 => rfl); (case h3 => rfl))
  | (with_reducible refine ⟨fun hk => ?_, fun hk => ?_⟩)
  | (show ∃ d, SV.d _ = SV.d d ∧ _; with_reducible refine ⟨_, rfl, ?_⟩))
local macro_rules | `(tactic| walk_at "lo") => `(tactic| first
  | ((with_reducible show Lo.WE _ _ _ _ _ _); walk_at "we")
  | ((with_reducible show Lo.WA _ _ _ _ _ _); first | (with_reducible refine wa_cons ?_) | (with_reducible refine wa_nil ?_))
  | ((with_reducible show Lo.WS _ _ _ _ _ _); walk_at "ws")
  | ((with_reducible show Lo.WT _ _ _ _ _ _); walk_at "wt")
  | ((with_reducible show Lo.WR _ _ _ _ _ _ _); walk_at "wr")
  | ((with_reducible show Lo.WU _ _ _ _ _ _); (with_reducible refine wu_neg ?_))
  | ((with_reducible show Lo.WC _ _ _ _ _ _); first | ((with_reducible refine' wc_len ?hv ?_); (case hv => rfl)) | (with_reducible refine wc_int ?_))
  | walk_at "da")
local macro_rules | `(tactic| walk_at "wq") => `(tactic| first
  | (with_reducible refine ws_seq (t := tAsg _ _) ?_)
  | (with_reducible refine ws_seq (t := tDrop _) ?_)
  | (with_reducible refine ws_set ?_)
  | (with_reducible refine ws_ret ?_)
  | (with_reducible refine ws_next ?_)
  | (with_reducible refine ws_drop ?_)
  | (with_reducible refine ws_retN ?_))
local macro_rules | `(tactic| walk_at "lq") => `(tactic| first
  | ((with_reducible show Lo.WE _ _ _ _ _ _); walk_at "we")
  | ((with_reducible show Lo.WA _ _ _ _ _ _); first | (with_reducible refine wa_cons ?_) | (with_reducible refine wa_nil ?_))
  | ((with_reducible show Lo.WS _ _ _ _ _ _); walk_at "wq")
  | ((with_reducible show Lo.WT _ _ _ _ _ _); walk_at "wt")
  | ((with_reducible show Lo.WR _ _ _ _ _ _ _); walk_at "wr")
  | ((with_reducible show Lo.WU _ _ _ _ _ _); (with_reducible refine wu_neg ?_))
  | ((with_reducible show Lo.WC _ _ _ _ _ _); first | ((with_reducible refine' wc_len ?hv ?_); (case hv => rfl)) | (with_reducible refine wc_int ?_))
  | walk_at "da")
local macro_rules | `(tactic| walk_at "ws") => `(tactic| (with_reducible refine ws_sub ?_))
local macro_rules | `(tactic| walk_at "wq") => `(tactic| (with_reducible refine ws_sub ?_))
local macro_rules | `(tactic| walk_at "da") => `(tactic| ((with_reducible show ∃ (i : Int) (j : Nat) (ss : List SV), SV.d (D.int _) = SV.d (D.int i) ∧ _); refine ⟨_, _, _, rfl, (rfl : _ = some (OW.lst _)), rfl, ?_⟩))

section
variable {P : Program} {w : World} {K : Frag} {mg : Str → Option Value} {base : Heap} {a : Ad}
theorem fmt_le {x z : Str} (n : Nat) (h : x.length ≤ n) (hz : z.length ≤ 1000) : (x ++ z).length ≤ n + 1000 := by
  show (x.cps ++ z.cps).size ≤ n + 1000
  rw [Array.size_append]
  exact Nat.add_le_add h hz
def erF (ds : List D) : List (Str × V) := match ds with | [.str z] => [("what", .str z)] | _ => []
def erP (ds : List D) : Prop := ∃ z : Str, ds = [.str z] ∧ z.length ≤ 1000
theorem cal_BadFrame___init__ (X : Txt P K mg a) : Cal P w K mg base 2 a.f_BadFrame___init__ ["self", "what"] (SpX (TT K a) 1 erF erP) [] := by
  obtain ⟨cc, cda, S⟩ := X.su_BadFrame
  obtain ⟨fd, hlk, F⟩ := LX.fn_sup (k := 1) (w := w) (base := base) (CX := L2.CX P w) (sp := SpX (TT K a) 1 erF erP) ss_BadFrame___init__ rfl rfl S
    (fun vs H Q E h => by
      obtain ⟨x, ds, ws, rfl, _, r, ⟨z, rfl, _⟩, _⟩ := h
      rw [List.length_cons, r.len]
      rfl)
    (fun fd s us hl hfd => by
      obtain ⟨oc, od, osl, hfd⟩ := hfd
      obtain ⟨oc2, kV, dc, pm, ct, od2, an, sl2, cda2, cc2, l2⟩ := X.xl_BadFrame
      rw [l2] at hfd
      cases hfd
      exact match us, hl with | [_, _], _ => .of_eq rfl)
    (hbody := fun A outer s H vs Q E hr h => by
      obtain ⟨x, ds, ws, rfl, ha, r, ⟨z, rfl, hz⟩, k⟩ := h
      obtain ⟨v, ws', rfl, rv, rfl⟩ := r
      have rv' : v = .str z := rv
      subst rv'
      refine ⟨x, _, _, _, rfl, ha, pe_joined (.cons pe_str (.cons (pe_fmt (pv 1)) .nil)), pss_one (ps_ost (pv 0) (pv 1)), fun H' R ex hR => ?_, fun H' ex => ?_⟩
      · refine ⟨_, rfl, ?_, _, rfl, .inl ⟨z, rfl, ?_, _, rfl, ?_, hR _⟩⟩
        · exact Nat.le_trans (by decide +kernel : _ ≤ 1000) (by decide)
        · exact Nat.le_trans hz (by decide)
        · exact Nat.le_trans (fmt_le 7 (by decide +kernel) hz) (by decide)
      · refine ⟨_, rfl, _, rfl, x, a.C_BadFrame, rfl, X.ox_BadFrame, X.xno_BadFrame_what, .inl ⟨ex _ _ ha, fun dx nd ne => ?_⟩⟩
        refine k dx _ ?_ (fun y o ny hy => ?_) upd_same ((upd_ne ne).trans upd_same)
        · cases q : H dx with
          | none => rfl
          | some o =>
            rw [ex _ _ q] at nd
            cases nd
        · have q := ex _ _ hy
          rw [upd_ne ny, upd_ne (fun z => by rw [z, nd] at q; cases q)]
          exact q)
  refine ⟨fd, [], F, .nil, fun s us _ hl => ?_⟩
  obtain ⟨oc, od, osl, hlk⟩ := hlk
  obtain ⟨oc2, kV, dc, pm, ct, od2, an, sl2, cda2, cc2, l2⟩ := X.xl_BadFrame
  rw [l2] at hlk
  cases hlk
  rw [List.append_nil] at hl ⊢
  exact match us, hl with | [_, _], _ => .of_eq rfl
end
end L3
end
section
set_option Elab.async false
set_option linter.all false
set_option maxRecDepth 100000
set_option maxHeartbeats 1000000
namespace L3
open PySem PySem.Spec PyProof.Rows L2 PySem.W PySem.Calls Lo
local macro_rules | `(tactic| walk_at "sd") => `(tactic| first | exact .d | rfl | assumption | (with_reducible decide) | omega | exact .nil | exact AllD.nil)
local macro_rules | `(tactic| walk_at "we") => `(tactic| first
  | ((with_reducible refine' we_var ?hv ?_); (case hv => rfl))
  | (with_reducible refine we_int ?_)
  | (with_reducible refine we_op ?_)
  | (with_reducible refine we_str ?_)
  | (with_reducible refine we_isi ?_)
  | (with_reducible refine we_isi2 ?_)
  | (with_reducible refine we_cb ?_)
  | (with_reducible refine we_andV ?_)
  | (with_reducible refine we_orV ?_)
  | (with_reducible refine we_notV ?_)
  | (with_reducible refine we_non ?_)
  | (with_reducible refine we_bl ?_)
  | (with_reducible refine we_if ?_)
  | (with_reducible refine we_un ?_)
  | (with_reducible refine we_cal0 ?_)
  | (with_reducible refine we_cal2 ?_)
  | (with_reducible refine we_calH ?_)
  | (with_reducible refine we_prp ?_)
  | (with_reducible refine we_tup ?_)
  | (with_reducible refine we_chain ?_))
local macro_rules | `(tactic| walk_at "ws") => `(tactic| first
  | (with_reducible refine ws_seq ?_)
  | (with_reducible refine ws_if ?_)
  | (with_reducible refine ws_set ?_)
  | (with_reducible refine ws_ret ?_)
  | (with_reducible refine ws_next ?_)
  | (with_reducible refine ws_drop ?_)
  | (with_reducible refine ws_retN ?_))
local macro_rules | `(tactic| walk_at "wt") => `(tactic| first
  | (with_reducible refine wt_test ?_)
  | (with_reducible refine wt_B ?_)
  | (with_reducible refine wt_and ?_)
  | (with_reducible refine wt_or ?_)
  | (with_reducible refine wt_not ?_))
local macro_rules | `(tactic| walk_at "wr") => `(tactic| first
  | (with_reducible refine wr_addI ?_)
  | (with_reducible refine wr_leI ?_)
  | (with_reducible refine wr_B0 ?_)
  | (with_reducible refine wr_I0 ?_)
  | (with_reducible refine wr_isN ?_)
  | (with_reducible refine wr_notN ?_)
  | (with_reducible refine wr_leS ?_)
  | ((with_reducible refine' wr_ixL ?hv ?_); (case hv => rfl))
  | ((with_reducible refine' wr_ixT ?hv ?_); (case hv => rfl))
  | ((with_reducible refine' wr_ixO ?hv ?hw ?_); (case hv => rfl); (case hw => rfl))
  | ((with_reducible refine' wr_eqD ?h1 ?h2 ?h3 ?h4 ?_); (case h1 => exact .d); (case h2 => exact .d); (case h3 => rfl); (case h4 => rfl))
  | ((with_reducible refine' wr_neD ?h1 ?h2 ?h3 ?h4 ?_); (case h1 => exact .d); (case h2 => exact .d); (case h3 => rfl); (case h4 => rfl)))
local macro_rules | `(tactic| walk_at "da") => `(tactic| first
  | (with_reducible refine ⟨_, rfl, ?_⟩)
  | (with_reducible refine ⟨fun _ => ?_, fun h => Bool.noConfusion h⟩)
  | (with_reducible refine ⟨fun h => Bool.noConfusion h, fun _ => ?_⟩)
  | (with_reducible refine ⟨_, rfl, ?_, ?_⟩)
  | ((with_reducible refine' ⟨_, _, .d, ?h1, ?h2, ?_⟩); (case h1 => walk_at "sd"); (case h2 => rfl))
  | ((with_reducible refine' ⟨_, _, _, .d, ?h1, ?h2, ?h3, ?_⟩); (case h1 => walk_at "sd"); (case h2 => rfl); (case h3 => rfl))
  | (with_reducible refine ⟨fun hk => ?_, fun hk => ?_⟩)
  | (show ∃ d, SV.d _ = SV.d d ∧ _; with_reducible refine ⟨_, rfl, ?_⟩))
local macro_rules | `(tactic| walk_at "lo") => `(tactic| first
  | ((with_reducible show Lo.WE _ _ _ _ _ _); walk_at "we")
  | ((with_reducible show Lo.WA _ _ _ _ _ _); first | (with_reducible refine wa_cons ?_) | (with_reducible refine wa_nil ?_))
  | ((with_reducible show Lo.WS _ _ _ _ _ _); walk_at "ws")
  | ((with_reducible show Lo.WT _ _ _ _ _ _); walk_at "wt")
  | ((with_reducible show Lo.WR _ _ _ _ _ _ _); walk_at "wr")
  | ((with_reducible show Lo.WU _ _ _ _ _ _); (with_reducible refine wu_neg ?_))
  | ((with_reducible show Lo.WC _ _ _ _ _ _); first | ((with_reducible refine' wc_len ?hv ?_); (case hv => rfl)) | (with_reducible refine wc_int ?_))
  | walk_at "da")
local macro_rules | `(tactic| walk_at "wq") => `(tactic| first
  | (with_reducible refine ws_seq (t := tAsg _ _) ?_)
  | (with_reducible refine ws_seq (t := tDrop _) ?_)
  | (with_reducible refine ws_set ?_)
  | (with_reducible refine ws_ret ?_)
  | (with_reducible refine ws_next ?_)
  | (with_reducible refine ws_drop ?_)
  | (with_reducible refine ws_retN ?_))
local macro_rules | `(tactic| walk_at "lq") => `(tactic| first
  | ((with_reducible show Lo.WE _ _ _ _ _ _); walk_at "we")
  | ((with_reducible show Lo.WA _ _ _ _ _ _); first | (with_reducible refine wa_cons ?_) | (with_reducible refine wa_nil ?_))
  | ((with_reducible show Lo.WS _ _ _ _ _ _); walk_at "wq")
  | ((with_reducible show Lo.WT _ _ _ _ _ _); walk_at "wt")
  | ((with_reducible show Lo.WR _ _ _ _ _ _ _); walk_at "wr")
  | ((with_reducible show Lo.WU _ _ _ _ _ _); (with_reducible refine wu_neg ?_))
  | ((with_reducible show Lo.WC _ _ _ _ _ _); first | ((with_reducible refine' wc_len ?hv ?_); (case hv => rfl)) | (with_reducible refine wc_int ?_))
  | walk_at "da")
local macro_rules | `(tactic| walk_at "ws") => `(tactic| (with_reducible refine ws_sub ?_))
local macro_rules | `(tactic| walk_at "wq") => `(tactic| (with_reducible refine ws_sub ?_))
local macro_rules | `(tactic| walk_at "da") => `(tactic| ((with_reducible show ∃ (i : Int) (j : Nat) (ss : List SV), SV.d (D.int _) = SV.d (D.int i) ∧ _); refine ⟨_, _, _, rfl, (rfl : _ = some (OW.lst _)), rfl, ?_⟩))

section
variable {P : Program} {w : World} {K : Frag} {mg : Str → Option Value} {base : Heap} {a : Ad}
def badClause (ns cl : D) : Bool := !cl.isNon && (!isWhole cl (some 0) (some 5) || cl.inF ((items ns).getD []))
def badAgreed (ns ag : D) : Bool := !ag.isNon && !isAmong ag ns
/-- what is wrong with a frame -/
def frW (nm ns cl ag : D) : Option Str :=
  if isName nm 8 = false then some "name" else if areNouns ns = false then some "nouns" else if badClause ns cl = true then some "clause" else if badAgreed ns ag = true then some "agreed" else none
def frE (wd : Str) : Er := ⟨1, [("what", .str wd)]⟩
abbrev F_Frame___init__ : DF := Fv (ι := D × D × D × D) (fun i => [i.1, i.2.1, i.2.2.1, i.2.2.2]) (fun i => okStr i.1 ∧ okNouns i.2.1 ∧ i.2.2.1.isO = false ∧ i.2.2.2.isO = false)
  (fun i d => frW i.1 i.2.1 i.2.2.1 i.2.2.2 = none ∧ d = .obj 0 [i.1, .tup ((items i.2.1).getD []), i.2.2.1, i.2.2.2]) (fun i e => ∃ wd, frW i.1 i.2.1 i.2.2.1 i.2.2.2 = some wd ∧ e = frE wd)
theorem chain_ints : ∀ {xs : List D} {last : Int}, chain last xs = true → ∃ ns : List Int, xs = ns.map D.int ∧ ∀ n ∈ ns, last + 1 ≤ n ∧ n ≤ 5
  | [], _, _ => ⟨[], rfl, fun _ h => nomatch h⟩
  | x :: r, last, h => by
    cases x with
    | int n =>
      have h' : (isWhole (.int n) (some (last + 1)) (some 5) && chain n r) = true := h
      rw [Bool.and_eq_true] at h'
      obtain ⟨h1, h2⟩ := h'
      have h1' : (decide (last + 1 ≤ n) && decide (n ≤ 5)) = true := h1
      simp only [Bool.and_eq_true, decide_eq_true_eq] at h1'
      obtain ⟨ns, e, k⟩ := chain_ints h2
      refine ⟨n :: ns, by rw [e]; rfl, fun m hm => ?_⟩
      rcases List.mem_cons.mp hm with rfl | hm
      · exact h1'
      · have := k m hm
        omega
    | _ => cases h
theorem ints_flat : ∀ (ns : List Int), (ns.map D.int).all D.flat = true
  | [] => rfl
  | _ :: r => ints_flat r
theorem nouns_seq {t : D} (h : areNouns t = true) : ∃ ns : List Int, (t = .lst (ns.map .int) ∨ t = .tup (ns.map .int)) ∧ items t = some (ns.map .int) := by
  unfold areNouns at h
  rw [Bool.and_eq_true] at h
  obtain ⟨h1, h2⟩ := h
  cases t with
  | lst xs =>
    obtain ⟨ns, e, _⟩ := chain_ints h2
    have e' : xs = ns.map D.int := e
    exact ⟨ns, .inl (by rw [e']), by rw [← e']; rfl⟩
  | tup xs =>
    obtain ⟨ns, e, _⟩ := chain_ints h2
    have e' : xs = ns.map D.int := e
    exact ⟨ns, .inr (by rw [e']), by rw [← e']; rfl⟩
  | _ => cases h1
theorem wr_inSeq {T : Tb} {b : Bd} {own : List OW} {Q : PSv} {neg : Bool} {x y : D} {ns : List Int} (f : x.flat = true) (hy : y = .lst (ns.map .int) ∨ y = .tup (ns.map .int)) (p : Q (.d (.bl (if neg then !x.inF (ns.map .int) else x.inF (ns.map .int)))) own) : WR T b (rIn T.K neg) own (.d x) (.d y) Q := by
  rcases hy with rfl | rfl
  · exact wr_inL f (ints_flat ns) p
  · exact wr_inT f (ints_flat ns) p
theorem ok_Frame___init__ {fd} (X : Txt P K mg a) (F : DefAt K "__init__" "Frame.__init__" s_Frame___init__ [.non, .non] a.f_Frame___init__ fd) : FnOk P w K mg base (L2.CX P w) 4 a.f_Frame___init__ fd ["self", "name", "nouns", "clause", "agreed"] (SpI (TT K a) 0 F_Frame___init__) := by
  refine okI (fun i => [some (.p 0), some (.d i.1), some (.d i.2.1), some (.d i.2.2.1), some (.d i.2.2.2)]) F sc_Frame___init__ (fun _ => rfl) fun cdv A outer s H E hr => ⟨_, 
   (pss_cons (ps_if (pt_not (pt_val (pe_cal X.A_is_name (cal_is_name X) hr (by rfl) passL (pa_cons (pv 1) (pa_cons (pe_constI rfl X.c_NAME_MOST) pa_nil)))))
  (pss_one (ps_raise rfl (takes_of rfl rfl rfl rfl) (pmk_err X.ox_BadFrame X.xi_BadFrame X.xti_BadFrame X.g_BadFrame (cal_BadFrame___init__ X) hr (by rfl) (pa_cons pe_str pa_nil))))
  pss_nil)
  (pss_cons (ps_if (pt_not (pt_val (pe_cal X.A__are_nouns (cal__are_nouns X) hr (by rfl) passL (pa_cons (pv 2) pa_nil))))
  (pss_one (ps_raise rfl (takes_of rfl rfl rfl rfl) (pmk_err X.ox_BadFrame X.xi_BadFrame X.xti_BadFrame X.g_BadFrame (cal_BadFrame___init__ X) hr (by rfl) (pa_cons pe_str pa_nil))))
  pss_nil)
  (pss_cons (ps_if (PW.pt (pw_and (pt_cmpR op_notN1 (pv 3) pe_non (nomark _)) (pw_and1 (PW.pt (pw_or (pt_not (pt_val (pe_cal X.A_is_whole (cal_is_whole X) hr (by rfl) passL (pa_cons (pv 3) (pa_cons pe_int (pa_cons pe_int pa_nil)))))) (pw_or1 (pt_cmpR op_in_seq (pv 3) (pv 2) (by rfl))))))))
  (pss_one (ps_raise rfl (takes_of rfl rfl rfl rfl) (pmk_err X.ox_BadFrame X.xi_BadFrame X.xti_BadFrame X.g_BadFrame (cal_BadFrame___init__ X) hr (by rfl) (pa_cons pe_str pa_nil))))
  pss_nil)
  (pss_cons (ps_if (PW.pt (pw_and (pt_cmpR op_notN1 (pv 4) pe_non (nomark _)) (pw_and1 (pt_not (pt_val (pe_cal X.A_is_among (cal_is_among X) hr (by rfl) passL (pa_cons (pv 4) (pa_cons (pv 2) pa_nil))))))))
  (pss_one (ps_raise rfl (takes_of rfl rfl rfl rfl) (pmk_err X.ox_BadFrame X.xi_BadFrame X.xti_BadFrame X.g_BadFrame (cal_BadFrame___init__ X) hr (by rfl) (pa_cons pe_str pa_nil))))
  pss_nil)
  (pss_cons (ps_fld (pv 0) (pv 1) rfl)
  (pss_cons (ps_fld (pv 0) (pe_callTy call_tupA (by rfl) X.n_tuple (by decide +kernel) (pa_cons (pv 2) pa_nil)) rfl)
  (pss_cons (ps_fld (pv 0) (pv 3) rfl)
  (pss_one (ps_fld (pv 0) (pv 4) rfl))))))))), fun b ⟨nm, ns, cl, ag⟩ hp hx => ?_⟩
  have hu := hu_of hr
  dsimp only [CxB, L2.cxOf] at hp hx ⊢
  obtain ⟨hnm, hns, hcl, hag⟩ := hp
  refine ws_cut (fun o s => o = [.ins 0 []] ∧ s = [some (.p 0), some (.d nm), some (.d ns), some (.d cl), some (.d ag)] ∧ isName nm 8 = true) ?_ ?_
  · repeat' walk_at "lo"
    refine ⟨_, .cons (.cons .nil), ⟨(nm, 8), rfl, hnm, fun _ z => z, ?_⟩⟩
    rintro d rfl
    repeat' walk_at "lo"
    · rename_i hk
      refine ws_raise (c := 1) rfl hx ?_
      repeat' walk_at "lo"
      refine ⟨_, .cons .nil, by decide, ⟨_, rfl, by decide +kernel⟩, "name", ?_, rfl⟩
      unfold frW
      simp_all
    · simp_all
  rintro o s ⟨rfl, rfl, h1⟩
  refine ws_cut (fun o s => o = [.ins 0 []] ∧ s = [some (.p 0), some (.d nm), some (.d ns), some (.d cl), some (.d ag)] ∧ areNouns ns = true) ?_ ?_
  · repeat' walk_at "lo"
    refine ⟨_, .cons .nil, ⟨ns, rfl, hns, fun _ z => z, ?_⟩⟩
    rintro d rfl
    repeat' walk_at "lo"
    · rename_i hk
      refine ws_raise (c := 1) rfl hx ?_
      repeat' walk_at "lo"
      refine ⟨_, .cons .nil, by decide, ⟨_, rfl, by decide +kernel⟩, "nouns", ?_, rfl⟩
      unfold frW
      simp_all
    · simp_all
  rintro o s ⟨rfl, rfl, h2⟩
  obtain ⟨is, hseq, his⟩ := nouns_seq h2
  have okq : okSeq ns := ⟨_, his, ints_flat is⟩
  refine ws_cut (fun o s => o = [.ins 0 []] ∧ s = [some (.p 0), some (.d nm), some (.d ns), some (.d cl), some (.d ag)] ∧ badClause ns cl = false) ?_ ?_
  · have fin : badClause ns cl = true → ∃ wd, frW nm ns cl ag = some wd ∧ (⟨1, [("what", .str "clause")]⟩ : Er) = frE wd := fun h => ⟨"clause", by unfold frW; simp_all, rfl⟩
    repeat' walk_at "lo"
    · refine ⟨_, .cons (.cons (.cons .nil)), ⟨(cl, some 0, some 5), rfl, hcl, fun _ z => z, ?_⟩⟩
      rintro d rfl
      repeat' walk_at "lo"
      · refine ws_raise (c := 1) rfl hx ?_
        repeat' walk_at "lo"
        refine ⟨_, .cons .nil, by decide, ⟨_, rfl, by decide +kernel⟩, fin ?_⟩
        unfold badClause
        simp_all
      · rename_i hw
        have fcl : cl.flat = true := by cases cl <;> first | rfl | (simp [isWhole] at hw; done)
        refine wr_inSeq (neg := false) fcl hseq ?_
        repeat' walk_at "lo"
        · refine ws_raise (c := 1) rfl hx ?_
          repeat' walk_at "lo"
          refine ⟨_, .cons .nil, by decide, ⟨_, rfl, by decide +kernel⟩, fin ?_⟩
          unfold badClause
          simp_all
        · unfold badClause
          simp_all
    · unfold badClause
      simp_all
  rintro o s ⟨rfl, rfl, h3⟩
  refine ws_cut (fun o s => o = [.ins 0 []] ∧ s = [some (.p 0), some (.d nm), some (.d ns), some (.d cl), some (.d ag)] ∧ badAgreed ns ag = false) ?_ ?_
  · have fin : badAgreed ns ag = true → ∃ wd, frW nm ns cl ag = some wd ∧ (⟨1, [("what", .str "agreed")]⟩ : Er) = frE wd := fun h => ⟨"agreed", by unfold frW; simp_all, rfl⟩
    repeat' walk_at "lo"
    · refine ⟨_, .cons (.cons .nil), ⟨(ag, ns), rfl, ⟨hag, okq⟩, fun _ z => z, ?_⟩⟩
      rintro d rfl
      repeat' walk_at "lo"
      · refine ws_raise (c := 1) rfl hx ?_
        repeat' walk_at "lo"
        refine ⟨_, .cons .nil, by decide, ⟨_, rfl, by decide +kernel⟩, fin ?_⟩
        unfold badAgreed
        simp_all
      · unfold badAgreed
        simp_all
    · unfold badAgreed
      simp_all
  rintro o s ⟨rfl, rfl, h4⟩
  refine ws_seq (ws_fld ?_)
  repeat' walk_at "lo"
  refine ⟨0, 0, [], rfl, rfl, X.cl_Frame, X.no_Frame_name, by decide +kernel, by decide, ?_⟩
  refine ws_seq (ws_fld ?_)
  repeat' walk_at "lo"
  refine wc_tup hseq ?_
  repeat' walk_at "lo"
  refine ⟨0, 0, _, rfl, rfl, X.cl_Frame, X.no_Frame_nouns, (by show ¬ ("nouns" : Str) ∈ (["name"] : List Str); decide +kernel), (by show 1 < 900; decide), ?_⟩
  refine ws_seq (ws_fld ?_)
  repeat' walk_at "lo"
  refine ⟨0, 0, _, rfl, rfl, X.cl_Frame, X.no_Frame_clause, (by show ¬ ("clause" : Str) ∈ (["name", "nouns"] : List Str); decide +kernel), (by show 2 < 900; decide), ?_⟩
  refine ws_fld ?_
  repeat' walk_at "lo"
  refine ⟨0, 0, _, rfl, rfl, X.cl_Frame, X.no_Frame_agreed, (by show ¬ ("agreed" : Str) ∈ (["name", "nouns", "clause"] : List Str); decide +kernel), (by show 3 < 900; decide), ?_⟩
  refine ⟨_, _, rfl, rfl, .cons (.cons (.cons (.cons .nil))), ?_, ?_⟩
  · unfold frW
    simp_all
  · rw [his]
    rfl
theorem cal_Frame___init__ (X : Txt P K mg a) : Cal P w K mg base 4 a.f_Frame___init__ ["self", "name", "nouns", "clause", "agreed"] (SpI (TT K a) 0 F_Frame___init__) [] := by
  obtain ⟨fd, F⟩ := X.F_Frame___init__
  obtain ⟨ds, hd, hb⟩ := FunD.binds1 (ps := ["self", "name", "nouns", "clause", "agreed"]) F 5 2 (by simp) (by simp) (fun T kV doc pm an cdv ct us its hu hi => match us, its, hu, hi with | [_, _, _, _, _], [_, _], _, _ => ⟨_, rfl, rfl⟩)
  exact ⟨fd, ds, ok_Frame___init__ X F, hd, hb⟩
theorem cal_Frame___init__2 (X : Txt P K mg a) : Cal P w K mg base 4 a.f_Frame___init__ ["self", "name", "nouns", "clause", "agreed"] (SpI (TT K a) 0 F_Frame___init__) [.non, .non] := by
  obtain ⟨fd, F⟩ := X.F_Frame___init__
  obtain ⟨ds, hd, hb⟩ := FunD.binds1 (ps := ["self", "name", "nouns", "clause", "agreed"]) F 3 0 (by simp) (by simp) (fun T kV doc pm an cdv ct us its hu hi => match us, its, hu, hi with | [_, _, _], [_, _], _, _ => ⟨_, rfl, rfl⟩)
  exact ⟨fd, ds, ok_Frame___init__ X F, hd, hb⟩
end
end L3
end
section
set_option Elab.async false
set_option linter.all false
set_option maxRecDepth 100000
set_option maxHeartbeats 1000000
namespace L3
open PySem PySem.Spec PyProof.Rows L2 PySem.W PySem.Calls Lo
local macro_rules | `(tactic| walk_at "sd") => `(tactic| first | exact .d | rfl | assumption | (with_reducible decide) | omega | exact .nil | exact AllD.nil)
local macro_rules | `(tactic| walk_at "we") => `(tactic| first
  | ((with_reducible refine' we_var ?hv ?_); (case hv => rfl))
  | (with_reducible refine we_int ?_)
  | (with_reducible refine we_op ?_)
  | (with_reducible refine we_str ?_)
  | (with_reducible refine we_isi ?_)
  | (with_reducible refine we_isi2 ?_)
  | (with_reducible refine we_cb ?_)
  | (with_reducible refine we_andV ?_)
  | (with_reducible refine we_orV ?_)
  | (with_reducible refine we_notV ?_)
  | (with_reducible refine we_non ?_)
  | (with_reducible refine we_bl ?_)
  | (with_reducible refine we_if ?_)
  | (with_reducible refine we_un ?_)
  | (with_reducible refine we_cal0 ?_)
  | (with_reducible refine we_cal2 ?_)
  | (with_reducible refine we_calH ?_)
  | (with_reducible refine we_prp ?_)
  | (with_reducible refine we_tup ?_)
  | (with_reducible refine we_chain ?_))
local macro_rules | `(tactic| walk_at "ws") => `(tactic| first
  | (with_reducible refine ws_seq ?_)
  | (with_reducible refine ws_if ?_)
  | (with_reducible refine ws_set ?_)
  | (with_reducible refine ws_ret ?_)
  | (with_reducible refine ws_next ?_)
  | (with_reducible refine ws_drop ?_)
  | (with_reducible refine ws_retN ?_))
local macro_rules | `(tactic| walk_at "wt") => `(tactic| first
  | (with_reducible refine wt_test ?_)
  | (with_reducible refine wt_B ?_)
  | (with_reducible refine wt_and ?_)
  | (with_reducible refine wt_or ?_)
  | (with_reducible refine wt_not ?_))
local macro_rules | `(tactic| walk_at "wr") => `(tactic| first
  | (with_reducible refine wr_addI ?_)
  | (with_reducible refine wr_leI ?_)
  | (with_reducible refine wr_B0 ?_)
  | (with_reducible refine wr_I0 ?_)
  | (with_reducible refine wr_isN ?_)
  | (with_reducible refine wr_notN ?_)
  | (with_reducible refine wr_leS ?_)
  | ((with_reducible refine' wr_ixL ?hv ?_); (case hv => rfl))
  | ((with_reducible refine' wr_ixT ?hv ?_); (case hv => rfl))
  | ((with_reducible refine' wr_ixO ?hv ?hw ?_); (case hv => rfl); (case hw => rfl))
  | ((with_reducible refine' wr_eqD ?h1 ?h2 ?h3 ?h4 ?_); (case h1 => exact .d); (case h2 => exact .d); (case h3 => rfl); (case h4 => rfl))
  | ((with_reducible refine' wr_neD ?h1 ?h2 ?h3 ?h4 ?_); (case h1 => exact .d); (case h2 => exact .d); (case h3 => rfl); (case h4 => rfl)))
local macro_rules | `(tactic| walk_at "da") => `(tactic| first
  | (with_reducible refine ⟨_, rfl, ?_⟩)
  | (with_reducible refine ⟨fun _ => ?_, fun h => Bool.noConfusion h⟩)
  | (with_reducible refine ⟨fun h => Bool.noConfusion h, fun _ => ?_⟩)
  | (with_reducible refine ⟨_, rfl, ?_, ?_⟩)
  | ((with_reducible refine' ⟨_, _, .d, ?h1, ?h2, ?_⟩); (case h1 => walk_at "sd"); (case h2 => rfl))
  | ((with_reducible refine' ⟨_, _, _, .d, ?h1, ?h2, ?h3, ?_⟩); (case h1 => walk_at "sd"); (case h2 => rfl); (case h3 => rfl))
  | (with_reducible refine ⟨fun hk => ?_, fun hk => ?_⟩)
  | (show ∃ d, SV.d _ = SV.d d ∧ _; with_reducible refine ⟨_, rfl, ?_⟩))
local macro_rules | `(tactic| walk_at "lo") => `(tactic| first
  | ((with_reducible show Lo.WE _ _ _ _ _ _); walk_at "we")
  | ((with_reducible show Lo.WA _ _ _ _ _ _); first | (with_reducible refine wa_cons ?_) | (with_reducible refine wa_nil ?_))
  | ((with_reducible show Lo.WS _ _ _ _ _ _); walk_at "ws")
  | ((with_reducible show Lo.WT _ _ _ _ _ _); walk_at "wt")
  | ((with_reducible show Lo.WR _ _ _ _ _ _ _); walk_at "wr")
  | ((with_reducible show Lo.WU _ _ _ _ _ _); (with_reducible refine wu_neg ?_))
  | ((with_reducible show Lo.WC _ _ _ _ _ _); first | ((with_reducible refine' wc_len ?hv ?_); (case hv => rfl)) | (with_reducible refine wc_int ?_))
  | walk_at "da")
local macro_rules | `(tactic| walk_at "wq") => `(tactic| first
  | (with_reducible refine ws_seq (t := tAsg _ _) ?_)
  | (with_reducible refine ws_seq (t := tDrop _) ?_)
  | (with_reducible refine ws_set ?_)
  | (with_reducible refine ws_ret ?_)
  | (with_reducible refine ws_next ?_)
  | (with_reducible refine ws_drop ?_)
  | (with_reducible refine ws_retN ?_))
local macro_rules | `(tactic| walk_at "lq") => `(tactic| first
  | ((with_reducible show Lo.WE _ _ _ _ _ _); walk_at "we")
  | ((with_reducible show Lo.WA _ _ _ _ _ _); first | (with_reducible refine wa_cons ?_) | (with_reducible refine wa_nil ?_))
  | ((with_reducible show Lo.WS _ _ _ _ _ _); walk_at "wq")
  | ((with_reducible show Lo.WT _ _ _ _ _ _); walk_at "wt")
  | ((with_reducible show Lo.WR _ _ _ _ _ _ _); walk_at "wr")
  | ((with_reducible show Lo.WU _ _ _ _ _ _); (with_reducible refine wu_neg ?_))
  | ((with_reducible show Lo.WC _ _ _ _ _ _); first | ((with_reducible refine' wc_len ?hv ?_); (case hv => rfl)) | (with_reducible refine wc_int ?_))
  | walk_at "da")
local macro_rules | `(tactic| walk_at "ws") => `(tactic| (with_reducible refine ws_sub ?_))
local macro_rules | `(tactic| walk_at "wq") => `(tactic| (with_reducible refine ws_sub ?_))
local macro_rules | `(tactic| walk_at "da") => `(tactic| ((with_reducible show ∃ (i : Int) (j : Nat) (ss : List SV), SV.d (D.int _) = SV.d (D.int i) ∧ _); refine ⟨_, _, _, rfl, (rfl : _ = some (OW.lst _)), rfl, ?_⟩))

section
variable {P : Program} {w : World} {K : Frag} {mg : Str → Option Value} {base : Heap} {a : Ad}
structure Fr where
  z : Str
  ns : List Int
  cl : Option Int
  ag : Option Int
def Fr.d (f : Fr) : D := .obj 0 [.str f.z, .tup (f.ns.map .int), oi f.cl, oi f.ag]
def Fr.eq (f g : Fr) : Bool := decide (f.z = g.z) && (decide (f.ns = g.ns) && (decide (f.cl = g.cl) && decide (f.ag = g.ag)))
theorem oi_okd (x : Option Int) : (oi x).okd = true := by cases x <;> first | exact okd_non | exact okd_int _
theorem eqv_oi (x y : Option Int) : (oi x).eqv (oi y) = decide (x = y) := by
  cases x with
  | none => cases y with
    | none => rfl
    | some j => rfl
  | some i => cases y with
    | none => rfl
    | some j =>
      show (i == j) = _
      by_cases h : i = j
      · subst h; simp
      · have e : (i == j) = false := beq_eq_false_iff_ne.mpr h
        rw [e]
        simp [h]
theorem tyO (X : Txt P K mg a) {fs : List D} : TyO (TT K a) a.C_Frame (.obj 0 fs) := .inr ⟨0, fs, rfl, rfl, X.cl_Frame, X.ty_Frame.1, X.ty_Frame.2.1, X.ty_Frame.2.2.1, X.ty_Frame.2.2.2⟩
theorem tyN (X : Txt P K mg a) {y : D} (h : y.isO = false) : TyO (TT K a) a.C_Frame y := .inl ⟨h, by
  cases y <;> first
    | exact X.nf_Frame_NoneType
    | exact X.nf_Frame_bool
    | exact X.nf_Frame_int
    | exact X.nf_Frame_str
    | exact X.nf_Frame_list
    | exact X.nf_Frame_tuple
    | (cases h; done)⟩
theorem kitN (X : Txt P K mg a) {y : D} (h : y.isO = false) : PySem.W.kitOne K (.type y.tyN) (.ref a.C_Frame) = some false := by
  cases y <;> first
    | exact X.it_Frame_NoneType
    | exact X.it_Frame_bool
    | exact X.it_Frame_int
    | exact X.it_Frame_str
    | exact X.it_Frame_list
    | exact X.it_Frame_tuple
    | (cases h; done)
/-- a frame or another thing -/
def isFr (o : Fr ⊕ D) : D := match o with | .inl f => f.d | .inr y => y
def okFr (o : Fr ⊕ D) : Prop := match o with | .inl f => okSt f.z = true | .inr y => y.isO = false
def eqFr (f : Fr) (o : Fr ⊕ D) : Bool := match o with | .inl g => f.eq g | .inr _ => false
abbrev F_Frame___eq__ : DF := Fv (ι := Fr × (Fr ⊕ D)) (fun i => [i.1.d, isFr i.2]) (fun i => okSt i.1.z = true ∧ okFr i.2) (fun i d => d = .bl (eqFr i.1 i.2)) noErr
abbrev frN : List Str := ["name", "nouns", "clause", "agreed"]
theorem fl0 {x0 x1 x2 x3 : D} : fldAt frN [x0, x1, x2, x3] "name" = some x0 := if_pos rfl
theorem fl1 {x0 x1 x2 x3 : D} : fldAt frN [x0, x1, x2, x3] "nouns" = some x1 := (if_neg (by decide +kernel)).trans (if_pos rfl)
theorem fl2 {x0 x1 x2 x3 : D} : fldAt frN [x0, x1, x2, x3] "clause" = some x2 := (if_neg (by decide +kernel)).trans ((if_neg (by decide +kernel)).trans (if_pos rfl))
theorem fl3 {x0 x1 x2 x3 : D} : fldAt frN [x0, x1, x2, x3] "agreed" = some x3 := (if_neg (by decide +kernel)).trans ((if_neg (by decide +kernel)).trans ((if_neg (by decide +kernel)).trans (if_pos rfl)))
theorem we_fr0 (X : Txt P K mg a) {b : Bd} {own : List OW} {ds : List (Option SV)} {Q : PSv} {ta : TE} (h : Lo.WE (TT K a) b ta own ds fun s o => ∃ f : Fr, s = .d f.d ∧ Q (.d (.str f.z)) o) : Lo.WE (TT K a) b (tFld K ta "name") own ds Q :=
  we_fld (T := TT K a) (h.imp fun s o ⟨f, e, q⟩ => ⟨0, _, _, e, X.cl_Frame, X.no_Frame_name, fl0, q⟩)
theorem we_fr1 (X : Txt P K mg a) {b : Bd} {own : List OW} {ds : List (Option SV)} {Q : PSv} {ta : TE} (h : Lo.WE (TT K a) b ta own ds fun s o => ∃ f : Fr, s = .d f.d ∧ Q (.d (.tup (f.ns.map .int))) o) : Lo.WE (TT K a) b (tFld K ta "nouns") own ds Q :=
  we_fld (T := TT K a) (h.imp fun s o ⟨f, e, q⟩ => ⟨0, _, _, e, X.cl_Frame, X.no_Frame_nouns, fl1, q⟩)
theorem we_fr2 (X : Txt P K mg a) {b : Bd} {own : List OW} {ds : List (Option SV)} {Q : PSv} {ta : TE} (h : Lo.WE (TT K a) b ta own ds fun s o => ∃ f : Fr, s = .d f.d ∧ Q (.d (oi f.cl)) o) : Lo.WE (TT K a) b (tFld K ta "clause") own ds Q :=
  we_fld (T := TT K a) (h.imp fun s o ⟨f, e, q⟩ => ⟨0, _, _, e, X.cl_Frame, X.no_Frame_clause, fl2, q⟩)
theorem we_fr3 (X : Txt P K mg a) {b : Bd} {own : List OW} {ds : List (Option SV)} {Q : PSv} {ta : TE} (h : Lo.WE (TT K a) b ta own ds fun s o => ∃ f : Fr, s = .d f.d ∧ Q (.d (oi f.ag)) o) : Lo.WE (TT K a) b (tFld K ta "agreed") own ds Q :=
  we_fld (T := TT K a) (h.imp fun s o ⟨f, e, q⟩ => ⟨0, _, _, e, X.cl_Frame, X.no_Frame_agreed, fl3, q⟩)
local macro_rules | `(tactic| walk_at "we") => `(tactic| first
  | (with_reducible refine we_fr0 (by assumption) ?_)
  | (with_reducible refine we_fr1 (by assumption) ?_)
  | (with_reducible refine we_fr2 (by assumption) ?_)
  | (with_reducible refine we_fr3 (by assumption) ?_))
theorem ok_Frame___eq__ {fd} (X : Txt P K mg a) (F : DefAt K "__eq__" "Frame.__eq__" s_Frame___eq__ [] a.f_Frame___eq__ fd) : FnOk P w K mg base (L2.CX P w) 1 a.f_Frame___eq__ fd ["self", "other"] (SpP (TT K a) F_Frame___eq__) := by
  refine okP (fun i => [some (.d i.1.d), some (.d (isFr i.2))]) F sc_Frame___eq__ (fun _ => rfl) fun cdv A outer s H E hr => 
   have hu := hr.units
   ⟨_, 
   (pss_one (ps_ret (pe_and (pe_callB call_isi (by rfl) X.n_isinstance (by decide +kernel) (pa_cons (pv 1) (pa_cons (pe_glob (v := .ref a.C_Frame) rfl X.g_Frame rfl) pa_nil))) (pe_and (pe_cmpR (op_eqD hu) (pe_fld (pv 0) rfl) (pe_fld (pv 1) rfl) (nomark _)) (pe_and (pe_cmpR (op_eqD hu) (pe_fld (pv 0) rfl) (pe_fld (pv 1) rfl) (nomark _)) (pe_and (pe_cmpR (op_eqD hu) (pe_fld (pv 0) rfl) (pe_fld (pv 1) rfl) (nomark _)) (pe_one (pe_cmpR (op_eqD hu) (pe_fld (pv 0) rfl) (pe_fld (pv 1) rfl) (nomark _))))))))), fun b ⟨f, o⟩ hp hx => ?_⟩
  dsimp only [CxB, L2.cxOf] at hp hx ⊢
  obtain ⟨hz, ho⟩ := hp
  cases o with
  | inr y =>
    have hy : y.isO = false := ho
    refine ws_ret (we_andV (we_isiC (T := TT K a) ?_))
    repeat' walk_at "lq"
    refine ⟨y, false, .d, .inl ⟨hy, kitN X hy⟩, ?_⟩
    repeat' walk_at "lq"
    rfl
  | inl g =>
    have hz2 : okSt g.z = true := ho
    refine ws_ret (we_andV (we_isiC (T := TT K a) ?_))
    repeat' walk_at "lq"
    refine ⟨g.d, true, .d, .inr ⟨0, _, rfl, tyO X, X.is_Frame_Frame⟩, ?_⟩
    repeat' walk_at "lq"
    refine wr_eqD .d .d (okd_str hz) (okd_str hz2) ?_
    rw [eqv_str]
    repeat' walk_at "lq"
    · refine wr_eqD .d .d (okd_tup (ints_row _)) (okd_tup (ints_row _)) ?_
      rw [eqv_tup]
      repeat' walk_at "lq"
      · refine wr_eqD .d .d (oi_okd _) (oi_okd _) ?_
        rw [eqv_oi]
        repeat' walk_at "lq"
        · refine wr_eqD .d .d (oi_okd _) (oi_okd _) ?_
          rw [eqv_oi]
          repeat' walk_at "lq"
          refine bl_post ?_
          simp_all [eqFr, Fr.eq]
        · refine bl_post ?_
          simp_all [eqFr, Fr.eq]
      · refine bl_post ?_
        simp_all [eqFr, Fr.eq]
    · refine bl_post ?_
      simp_all [eqFr, Fr.eq]
theorem cal_Frame___eq__ (X : Txt P K mg a) : Cal P w K mg base 1 a.f_Frame___eq__ ["self", "other"] (SpP (TT K a) F_Frame___eq__) [] := by
  obtain ⟨fd, F⟩ := X.F_Frame___eq__
  exact ⟨fd, [], ok_Frame___eq__ X F, .nil, F.bindsN fun _ _ _ _ _ _ us hl => match us, hl with | [_, _], _ => rfl⟩
/-- the slots -/
def slotsOf (ns ps : List Int) (cl : Option Int) : Prop := match cl with | none => ps = ns | some c => ps.Perm (ns ++ [c]) ∧ ps.Pairwise (· ≤ ·)
abbrev F_Frame_slots : DF := Fv (ι := Fr) (fun i => [i.d]) (fun i => i.ns.length ≤ 1000) (fun i d => ∃ ps : List Int, slotsOf i.ns ps i.cl ∧ d = .tup (ps.map .int)) noErr
theorem ok_Frame_slots {fd} (X : Txt P K mg a) (F : DefAt K "slots" "Frame.slots" s_Frame_slots [] a.f_Frame_slots fd) : FnOk P w K mg base (L2.CX P w) 1 a.f_Frame_slots fd ["self"] (SpP (TT K a) F_Frame_slots) := by
  refine okP (fun i => [some (.d i.d)]) F sc_Frame_slots (fun _ => rfl) fun cdv A outer s H E hr => 
   have hu := hr.units
   ⟨_, 
   (pss_cons (ps_if (pt_cmpR op_isN1 (pe_fld (pv 0) rfl) pe_non (nomark _))
  (pss_one (ps_ret (pe_fld (pv 0) rfl)))
  pss_nil)
  (pss_one (ps_ret (pe_callTy call_tupA (by rfl) X.n_tuple (by decide +kernel) (pa_cons (pe_callB cr_sortedI (by rfl) X.n_sorted (by decide +kernel) (pa_cons (pe_lst (StX.pa_star (pe_fld (pv 0) rfl) (pa_cons (pe_fld (pv 0) rfl) pa_nil))) pa_nil)) pa_nil))))), fun b f hp hx => ?_⟩
  dsimp only [CxB, L2.cxOf] at hp hx ⊢
  obtain ⟨z, ns, cl, ag⟩ := f
  refine ws_seq (ws_if ?_)
  repeat' walk_at "lq"
  · rename_i hk
    refine ⟨ns, ?_, rfl⟩
    cases cl with
    | none => rfl
    | some c => cases hk
  · rename_i hk
    obtain ⟨c, rfl⟩ : ∃ c, cl = some c := by
      cases cl with
      | none => cases hk
      | some c => exact ⟨c, rfl⟩
    refine we_lst (wa_star ?_)
    repeat' walk_at "lq"
    refine ⟨_, .inr rfl, ?_⟩
    repeat' walk_at "lq"
    have e : (ns.map D.int).map SV.d ++ [SV.d (D.int c)] = ((ns ++ [c]).map D.int).map SV.d := by simp
    refine ⟨(ns ++ [c]).map D.int, ?_, ?_, ?_⟩
    · show AllD ((ns.map D.int).map SV.d ++ [SV.d (D.int c)]) _
      rw [e]
      exact AllD.map _
    · rw [List.length_map, List.length_append]
      have hp' : ns.length ≤ 1000 := hp
      show ns.length + 1 ≤ 100000
      omega
    repeat' walk_at "lq"
    refine wc_sorted fun ps hpe hpw => ?_
    repeat' walk_at "lq"
    refine wc_tup (.inl rfl) ?_
    repeat' walk_at "lq"
    exact ⟨ps, ⟨hpe, hpw⟩, rfl⟩
theorem cal_Frame_slots (X : Txt P K mg a) : Cal P w K mg base 1 a.f_Frame_slots ["self"] (SpP (TT K a) F_Frame_slots) [] := by
  obtain ⟨fd, F⟩ := X.F_Frame_slots
  exact ⟨fd, [], ok_Frame_slots X F, .nil, F.bindsN fun _ _ _ _ _ _ us hl => match us, hl with | [_], _ => rfl⟩
end
end L3
end
section
set_option Elab.async false
set_option linter.all false
set_option maxRecDepth 100000
set_option maxHeartbeats 1000000
namespace L3
open PySem PySem.Spec PyProof.Rows L2 PySem.W PySem.Calls Lo
local macro_rules | `(tactic| walk_at "sd") => `(tactic| first | exact .d | rfl | assumption | (with_reducible decide) | omega | exact .nil | exact AllD.nil)
local macro_rules | `(tactic| walk_at "we") => `(tactic| first
  | ((with_reducible refine' we_var ?hv ?_); (case hv => rfl))
  | (with_reducible refine we_int ?_)
  | (with_reducible refine we_op ?_)
  | (with_reducible refine we_str ?_)
  | (with_reducible refine we_isi ?_)
  | (with_reducible refine we_isi2 ?_)
  | (with_reducible refine we_cb ?_)
  | (with_reducible refine we_andV ?_)
  | (with_reducible refine we_orV ?_)
  | (with_reducible refine we_notV ?_)
  | (with_reducible refine we_non ?_)
  | (with_reducible refine we_bl ?_)
  | (with_reducible refine we_if ?_)
  | (with_reducible refine we_un ?_)
  | (with_reducible refine we_cal0 ?_)
  | (with_reducible refine we_cal2 ?_)
  | (with_reducible refine we_calH ?_)
  | (with_reducible refine we_prp ?_)
  | (with_reducible refine we_tup ?_)
  | (with_reducible refine we_chain ?_))
local macro_rules | `(tactic| walk_at "ws") => `(tactic| first
  | (with_reducible refine ws_seq ?_)
  | (with_reducible refine ws_if ?_)
  | (with_reducible refine ws_set ?_)
  | (with_reducible refine ws_ret ?_)
  | (with_reducible refine ws_next ?_)
  | (with_reducible refine ws_drop ?_)
  | (with_reducible refine ws_retN ?_))
local macro_rules | `(tactic| walk_at "wt") => `(tactic| first
  | (with_reducible refine wt_test ?_)
  | (with_reducible refine wt_B ?_)
  | (with_reducible refine wt_and ?_)
  | (with_reducible refine wt_or ?_)
  | (with_reducible refine wt_not ?_))
local macro_rules | `(tactic| walk_at "wr") => `(tactic| first
  | (with_reducible refine wr_addI ?_)
  | (with_reducible refine wr_leI ?_)
  | (with_reducible refine wr_B0 ?_)
  | (with_reducible refine wr_I0 ?_)
  | (with_reducible refine wr_isN ?_)
  | (with_reducible refine wr_notN ?_)
  | (with_reducible refine wr_leS ?_)
  | ((with_reducible refine' wr_ixL ?hv ?_); (case hv => rfl))
  | ((with_reducible refine' wr_ixT ?hv ?_); (case hv => rfl))
  | ((with_reducible refine' wr_ixO ?hv ?hw ?_); (case hv => rfl); (case hw => rfl))
  | ((with_reducible refine' wr_eqD ?h1 ?h2 ?h3 ?h4 ?_); (case h1 => exact .d); (case h2 => exact .d); (case h3 => rfl); (case h4 => rfl))
  | ((with_reducible refine' wr_neD ?h1 ?h2 ?h3 ?h4 ?_); (case h1 => exact .d); (case h2 => exact .d); (case h3 => rfl); (case h4 => rfl)))
local macro_rules | `(tactic| walk_at "da") => `(tactic| first
  | (with_reducible refine ⟨_, rfl, ?_⟩)
  | (with_reducible refine ⟨fun _ => ?_, fun h => Bool.noConfusion h⟩)
  | (with_reducible refine ⟨fun h => Bool.noConfusion h, fun _ => ?_⟩)
  | (with_reducible refine ⟨_, rfl, ?_, ?_⟩)
  | ((with_reducible refine' ⟨_, _, .d, ?h1, ?h2, ?_⟩); (case h1 => walk_at "sd"); (case h2 => rfl))
  | ((with_reducible refine' ⟨_, _, _, .d, ?h1, ?h2, ?h3, ?_⟩); (case h1 => walk_at "sd"); (case h2 => rfl); (case h3 => rfl))
  | (with_reducible refine ⟨fun hk => ?_, fun hk => ?_⟩)
  | (show ∃ d, SV.d _ = SV.d d ∧ _; with_reducible refine ⟨_, rfl, ?_⟩))
local macro_rules | `(tactic| walk_at "lo") => `(tactic| first
  | ((with_reducible show Lo.WE _ _ _ _ _ _); walk_at "we")
  | ((with_reducible show Lo.WA _ _ _ _ _ _); first | (with_reducible refine wa_cons ?_) | (with_reducible refine wa_nil ?_))
  | ((with_reducible show Lo.WS _ _ _ _ _ _); walk_at "ws")
  | ((with_reducible show Lo.WT _ _ _ _ _ _); walk_at "wt")
  | ((with_reducible show Lo.WR _ _ _ _ _ _ _); walk_at "wr")
  | ((with_reducible show Lo.WU _ _ _ _ _ _); (with_reducible refine wu_neg ?_))
  | ((with_reducible show Lo.WC _ _ _ _ _ _); first | ((with_reducible refine' wc_len ?hv ?_); (case hv => rfl)) | (with_reducible refine wc_int ?_))
  | walk_at "da")
local macro_rules | `(tactic| walk_at "wq") => `(tactic| first
  | (with_reducible refine ws_seq (t := tAsg _ _) ?_)
  | (with_reducible refine ws_seq (t := tDrop _) ?_)
  | (with_reducible refine ws_set ?_)
  | (with_reducible refine ws_ret ?_)
  | (with_reducible refine ws_next ?_)
  | (with_reducible refine ws_drop ?_)
  | (with_reducible refine ws_retN ?_))
local macro_rules | `(tactic| walk_at "lq") => `(tactic| first
  | ((with_reducible show Lo.WE _ _ _ _ _ _); walk_at "we")
  | ((with_reducible show Lo.WA _ _ _ _ _ _); first | (with_reducible refine wa_cons ?_) | (with_reducible refine wa_nil ?_))
  | ((with_reducible show Lo.WS _ _ _ _ _ _); walk_at "wq")
  | ((with_reducible show Lo.WT _ _ _ _ _ _); walk_at "wt")
  | ((with_reducible show Lo.WR _ _ _ _ _ _ _); walk_at "wr")
  | ((with_reducible show Lo.WU _ _ _ _ _ _); (with_reducible refine wu_neg ?_))
  | ((with_reducible show Lo.WC _ _ _ _ _ _); first | ((with_reducible refine' wc_len ?hv ?_); (case hv => rfl)) | (with_reducible refine wc_int ?_))
  | walk_at "da")
local macro_rules | `(tactic| walk_at "ws") => `(tactic| (with_reducible refine ws_sub ?_))
local macro_rules | `(tactic| walk_at "wq") => `(tactic| (with_reducible refine ws_sub ?_))
local macro_rules | `(tactic| walk_at "da") => `(tactic| ((with_reducible show ∃ (i : Int) (j : Nat) (ss : List SV), SV.d (D.int _) = SV.d (D.int i) ∧ _); refine ⟨_, _, _, rfl, (rfl : _ = some (OW.lst _)), rfl, ?_⟩))

theorem cpow1018 : CPow 10 18 := ⟨by decide, by decide, by decide⟩
local macro_rules | `(tactic| walk_at "wr") => `(tactic| first
  | (with_reducible refine wr_mod (by decide) ?_)
  | (with_reducible refine wr_fdiv (by decide) (by decide) ?_)
  | (with_reducible refine wr_mod (by assumption) ?_)
  | (with_reducible refine wr_mul2 64 64 (by omega) (by omega) (by decide) ?_)
  | (with_reducible refine wr_pow cpow1018 ?_)
  | ((with_reducible refine' wr_ixC ?hv ?_); (case hv => assumption)))
local macro_rules | `(tactic| walk_at "lo") => `(tactic| first
  | ((with_reducible show Lo.WC _ _ _ _ _ _); (with_reducible refine wc_lenScr ?_)))
section
variable {P : Program} {w : World} {K : Frag} {mg : Str → Option Value} {base : Heap} {a : Ad}
theorem ok__law_hand {fd} (X : Txt P K mg a) (F : DefAt K "_law_hand" "_law_hand" s__law_hand [] a.f__law_hand fd) : FnOk P w K mg base (L2.CX P w) 1 a.f__law_hand fd ["_law_script"] (SpHd (TT K a)) := by
  refine okHd (fun ns => [some (.scr ns), none, none, none]) F sc__law_hand rfl fun cdv A outer s H E hr => ⟨_, 
   (pss_cons (ps_set (i := 1) sc__law_hand.nd rfl (Or.inl rfl) (pe_op op_addA (pe_callB call_lenA (by rfl) X.n_len PySem.boot_len (pa_cons (pv 0) pa_nil)) pe_int))
  (pss_cons (ps_set (i := 2) sc__law_hand.nd rfl (Or.inl rfl) (pe_lst pa_nil))
  (pss_cons (ps_for (passes_of rfl) rfl (pi_seq (pv 0)) (pg_name (i := 3) sc__law_hand.nd rfl (Or.inl rfl))
  (pss_cons (ps_set (i := 1) sc__law_hand.nd rfl (Or.inl rfl) (pe_op op_mod (pe_callTy call_intA (by rfl) X.n_int (by decide +kernel) (pa_cons (pe_op op_addA (pe_op op_mulA (pv 1) pe_int) (pe_callTy call_intA (by rfl) X.n_int (by decide +kernel) (pa_cons (pv 3) pa_nil))) pa_nil)) pe_int))
  (pss_one (ps_expr (pe_bm PySem.F.plainAttrs_list PySem.F.slot_list_append PySem.F.type_list_append mt_append (pv 2) (pa_cons (pe_ifExp (pt_cmpR op_ge (pv 3) pe_int (nomark _)) (pe_callTy call_intA (by rfl) X.n_int (by decide +kernel) (pa_cons (pv 3) pa_nil)) (pe_un un_neg (pe_callTy call_intA (by rfl) X.n_int (by decide +kernel) (pa_cons (pv 3) pa_nil)))) pa_nil))))))
  (pss_one (ps_ret (pe_lst (pa_cons (pv 2) (pa_cons pe_int (pa_cons pe_int (pa_cons (pv 1) pa_nil)))))))))), fun b ns hl hn => ?_⟩
  dsimp only [CxB, L2.cxOf]
  repeat' walk_at "lq"
  refine wc_lenScr ?_
  repeat' walk_at "lq"
  refine we_lstO ?_
  repeat' walk_at "lq"
  refine ⟨by decide, ?_⟩
  refine ws_seq (ws_for (js := [3]) (fun its i o s => ∃ cells tt x0 x3, o = [.lst (List.map SV.d (List.map D.int cells))] ∧ s = [x0, some (.d (.int tt)), some (.p 0), x3] ∧ cells.length = i ∧ (∀ x ∈ cells, 0 ≤ x ∧ x.natAbs < 2 ^ bigN) ∧ 0 ≤ tt ∧ tt < 2147483629) (wi_scr ?_))
  repeat' walk_at "lq"
  refine ⟨Nat.le_refl _, ⟨[], (ns.length : Int) + 31, _, _, rfl, rfl, rfl, (fun _ h => nomatch h), by omega, by omega⟩, ?_, ?_⟩
  · rintro i x o' s' hi ⟨cells, tt, x0, x3, rfl, rfl, hlen, hc, h0, h1⟩
    obtain ⟨n, hnm, rfl⟩ := List.mem_map.mp (List.mem_of_getElem? hi)
    have hb := hn n hnm
    have hi2 := (List.getElem?_eq_some_iff.mp hi).1
    rw [List.length_map] at hi2
    refine ⟨OwP_lst OwP_nil, Nat.le_refl _, wg_name ?_⟩
    have fin : ∀ m : Int, 0 ≤ m → m.natAbs < 2 ^ bigN → ∃ o4 s4, Fg ([OW.lst (List.map SV.d (List.map D.int cells) ++ [SV.d (.int m)])] : List OW) [x0, some (.d (.int ((tt * 1019 + n) % 2147483629))), some (.p 0), some (.d (.int n))] o4 s4 ∧ OwP o4.length o4 ∧ 1 ≤ o4.length ∧
        ∃ cells tt x0 x3, o4 = [OW.lst (List.map SV.d (List.map D.int cells))] ∧ s4 = [x0, some (.d (.int tt)), some (.p 0), x3] ∧ cells.length = i + 1 ∧ (∀ x ∈ cells, 0 ≤ x ∧ x.natAbs < 2 ^ bigN) ∧ 0 ≤ tt ∧ tt < 2147483629 := fun m hm hb => by
      have e : List.map SV.d (List.map D.int cells) ++ [SV.d (.int m)] = List.map SV.d (List.map D.int (cells ++ [m])) := by simp
      rw [e]
      refine ⟨_, _, ⟨List.prefix_refl _, .drop (.keepd (.keepp Nat.one_pos (.drop .nil)))⟩, OwP_lst OwP_nil, Nat.le_refl _, cells ++ [m], _, _, _, rfl, rfl, by simp [hlen], fun x hx => ?_, Int.emod_nonneg _ (by decide), Int.emod_lt_of_pos _ (by decide)⟩
      rcases List.mem_append.mp hx with hx | hx
      · exact hc x hx
      · rw [List.mem_singleton.mp hx]
        exact ⟨hm, hb⟩
    repeat' walk_at "lq"
    refine we_bm ?_
    repeat' walk_at "lq"
    refine ⟨0, _, rfl, rfl, ?_⟩
    repeat' walk_at "lq"
    · rename_i hk
      refine wm_append rfl (by rw [List.length_map, List.length_map]; omega) ?_
      have h0 : 0 ≤ n := of_decide_eq_true hk
      exact fin n h0 hb
    · rename_i hk
      refine wm_append rfl (by rw [List.length_map, List.length_map]; omega) ?_
      have h0 : ¬ 0 ≤ n := of_decide_eq_false hk
      exact fin (-n) (by omega) (by rw [Int.natAbs_neg]; exact hb)
  · rintro o' s' ⟨cells, tt, x0, x3, rfl, rfl, hlen, hc, h0, h1⟩
    refine ws_ret (we_lstO ?_)
    repeat' walk_at "lq"
    refine ⟨by show 4 ≤ 100000; decide, cells, tt, rfl, rfl, hc, by decide, by omega, by rw [hlen, List.length_map]; exact hl, by decide, ?_, h0, h1⟩
    show 0 < 2 ^ bigN
    exact Nat.pow_pos (by decide)
theorem cal__law_hand (X : Txt P K mg a) : Cal P w K mg base 1 a.f__law_hand ["_law_script"] (SpHd (TT K a)) [] := by
  obtain ⟨fd, F⟩ := X.F__law_hand
  exact ⟨fd, [], ok__law_hand X F, .nil, F.bindsN fun _ _ _ _ _ _ us hl => match us, hl with | [_], _ => rfl⟩
abbrev F__law_mixed : DF := Fv (ι := Int × Int) (fun i => [.int i.1, .int i.2]) (fun i => 0 ≤ i.1 ∧ i.1 < 2147483648 ∧ 0 ≤ i.2 ∧ i.2 ≤ 1000) (fun i d => ∃ k : Int, d = .int k ∧ 0 ≤ k) noErr
theorem ok__law_mixed {fd} (X : Txt P K mg a) (F : DefAt K "_law_mixed" "_law_mixed" s__law_mixed [] a.f__law_mixed fd) : FnOk P w K mg base (L2.CX P w) 1 a.f__law_mixed fd ["_law_number", "_law_turn"] (SpP (TT K a) F__law_mixed) := by
  refine okP (fun i => [some (.d (.int i.1)), some (.d (.int i.2)), none, none]) F sc__law_mixed (fun _ => rfl) fun cdv A outer s H E hr => ⟨_, 
   (pss_cons (ps_set (i := 2) sc__law_mixed.nd rfl (Or.inl rfl) (pe_op op_mod (pe_callTy call_intA (by rfl) X.n_int (by decide +kernel) (pa_cons (pe_op op_addA (pe_op op_addA (pe_op op_mulA (pv 0) pe_int) (pe_op op_mulA (pv 1) pe_int)) pe_int) pa_nil)) pe_int))
  (pss_cons (ps_set (i := 3) sc__law_mixed.nd rfl (Or.inl rfl) (pe_op op_mod (pe_callTy call_intA (by rfl) X.n_int (by decide +kernel) (pa_cons (pe_op op_addA (pe_op op_addA (pe_op op_mulA (pv 2) (pv 2)) (pe_op op_mulA (pv 1) pe_int)) (pe_op op_fdivW (pv 2) pe_int)) pa_nil)) pe_int))
  (pss_one (ps_ret (pe_op op_fdivW (pe_callTy call_intA (by rfl) X.n_int (by decide +kernel) (pa_cons (pe_op op_mod (pe_callTy call_intA (by rfl) X.n_int (by decide +kernel) (pa_cons (pe_op op_addA (pe_op op_mulA (pv 3) pe_int) (pe_op op_fdivW (pv 2) pe_int)) pa_nil)) pe_int) pa_nil)) pe_int))))), fun b ⟨n, t⟩ hp hx => ?_⟩
  dsimp only [CxB, L2.cxOf] at hp ⊢
  obtain ⟨h1, h2, h3, h4⟩ := hp
  repeat' walk_at "lq"
  omega
theorem cal__law_mixed (X : Txt P K mg a) : Cal P w K mg base 1 a.f__law_mixed ["_law_number", "_law_turn"] (SpP (TT K a) F__law_mixed) [] := by
  obtain ⟨fd, F⟩ := X.F__law_mixed
  exact ⟨fd, [], ok__law_mixed X F, .nil, F.bindsN fun _ _ _ _ _ _ us hl => match us, hl with | [_, _], _ => rfl⟩
abbrev F__law_take : DF := Fv (ι := Int) (fun i => [.int i]) (fun i => 0 < i ∧ i < 2 ^ 30) (fun i d => ∃ k : Int, d = .int k ∧ 0 ≤ k ∧ k < i) noErr
theorem ok__law_take {fd} (X : Txt P K mg a) (F : DefAt K "_law_take" "_law_take" s__law_take [] a.f__law_take fd) : FnOk P w K mg base (L2.CX P w) 2 a.f__law_take fd ["_law_hand_here", "_law_many"] (SpH (TT K a) F__law_take) := by
  refine okH (fun i => [some (.p 0), some (.d (.int i)), none, none]) F sc__law_take (fun _ => rfl) fun cdv A outer s H E hr => 
   have hu := hr.units
   ⟨_, 
   (pss_cons (ps_if (PW.pt (pw_and (pt_cmpR (op_eqD hu) (pe_ix ix_any (pv 0) pe_int (fun _ _ => rfl)) pe_int (nomark _)) (pw_and1 (pt_cmpR op_lt (pe_ix ix_any (pv 0) pe_int (fun _ _ => rfl)) (pe_callB call_lenA (by rfl) X.n_len PySem.boot_len (pa_cons (pe_ix ix_any (pv 0) pe_int (fun _ _ => rfl)) pa_nil)) (nomark _)))))
  (pss_cons (ps_set (i := 2) sc__law_take.nd rfl (Or.inl rfl) (pe_ix ix_any (pe_ix ix_any (pv 0) pe_int (fun _ _ => rfl)) (pe_ix ix_any (pv 0) pe_int (fun _ _ => rfl)) (fun _ _ => rfl)))
  (pss_cons (ps_asg (pe_op op_addA (pe_ix ix_any (pv 0) pe_int (fun _ _ => rfl)) pe_int) (pg_sub (pv 0) pe_int set_list))
  (pss_cons (ps_if (pt_cmpR op_lt (pv 2) (pe_op op_pow pe_int pe_int) (nomark _))
  (pss_one (ps_ret (pe_op op_mod (pe_callTy call_intA (by rfl) X.n_int (by decide +kernel) (pa_cons (pe_cal X.A__law_mixed (cal__law_mixed X) hr (by rfl) passL (pa_cons (pe_op op_mod (pe_callTy call_intA (by rfl) X.n_int (by decide +kernel) (pa_cons (pv 2) pa_nil)) pe_int) (pa_cons (pe_ix ix_any (pv 0) pe_int (fun _ _ => rfl)) pa_nil))) pa_nil)) (pv 1))))
  pss_nil)
  (pss_one (ps_asg (pv 2) (pg_sub (pv 0) pe_int set_list))))))
  pss_nil)
  (pss_cons (ps_if (pt_cmpR op_gt (pe_ix ix_any (pv 0) pe_int (fun _ _ => rfl)) pe_int (nomark _))
  (pss_cons (ps_set (i := 3) sc__law_take.nd rfl (Or.inl rfl) (pe_ix ix_any (pv 0) pe_int (fun _ _ => rfl)))
  (pss_cons (ps_asg (pe_op op_fdivW (pe_callTy call_intA (by rfl) X.n_int (by decide +kernel) (pa_cons (pv 3) pa_nil)) (pv 1)) (pg_sub (pv 0) pe_int set_list))
  (pss_one (ps_ret (pe_op op_mod (pe_callTy call_intA (by rfl) X.n_int (by decide +kernel) (pa_cons (pv 3) pa_nil)) (pv 1))))))
  pss_nil)
  (pss_cons (ps_asg (pe_op op_mod (pe_callTy call_intA (by rfl) X.n_int (by decide +kernel) (pa_cons (pe_op op_addA (pe_ix ix_any (pv 0) pe_int (fun _ _ => rfl)) pe_int) pa_nil)) pe_int) (pg_sub (pv 0) pe_int set_list))
  (pss_one (ps_ret (pe_op op_mod (pe_callTy call_intA (by rfl) X.n_int (by decide +kernel) (pa_cons (pe_cal X.A__law_mixed (cal__law_mixed X) hr (by rfl) passL (pa_cons (pe_ix ix_any (pv 0) pe_int (fun _ _ => rfl)) (pa_cons (pe_ix ix_any (pv 0) pe_int (fun _ _ => rfl)) pa_nil))) pa_nil)) (pv 1))))))), fun b m hp => ?_⟩
  dsimp only [CxB, L2.cxOf] at hp ⊢
  obtain ⟨hm0, hm1⟩ := hp
  refine ws_openHand (k := 0) rfl fun cells i r t hv => ws_closeHand (k := 0) ?_
  show Lo.WS _ _ _ [OW.lst (handL cells i r t)] _ _
  obtain ⟨hc, i0, i1, hl, r0, r1, t0, t1⟩ := hv
  have md : ∀ k : Int, 0 ≤ k % m ∧ k % m < m := fun k => ⟨Int.emod_nonneg _ (by omega), Int.emod_lt_of_pos _ hm0⟩
  refine ws_cut (fun o s => ∃ i r x, o = [.lst (handL cells i r t)] ∧ s = [some (.p 0), some (.d (.int m)), x, none] ∧ 0 ≤ i ∧ i ≤ cells.length ∧ 0 ≤ r ∧ r.natAbs < 2 ^ bigN) ?_ ?_
  · repeat' walk_at "lo"
    · rename_i h2 h1
      have hr0 : r = 0 := of_decide_eq_true h2
      have hi : i < cells.length := of_decide_eq_true h1
      obtain ⟨x, hx⟩ : ∃ x, atI cells i = some x := by
        obtain ⟨j, rfl⟩ : ∃ j : Nat, i = (j : Int) := ⟨i.toNat, by omega⟩
        have hj : j < cells.length := by omega
        exact ⟨cells[j], atI_nat (List.getElem?_eq_getElem hj)⟩
      have hxm : x ∈ cells := by
        obtain ⟨j, _, h, _⟩ := atI_get hx
        exact List.mem_of_getElem? h
      have hxb := hc x hxm
      repeat' walk_at "lo"
      · refine ⟨_, .cons (.cons .nil), ⟨(x % 2147483647, i + 1), rfl, ⟨Int.emod_nonneg _ (by decide), by omega, by omega, by omega⟩, fun _ z => z, ?_⟩⟩
        rintro d ⟨k, rfl, hk⟩
        repeat' walk_at "lo"
        exact ⟨cells, i + 1, r, t, rfl, ⟨hc, by omega, by omega, hl, r0, r1, t0, t1⟩, rfl, _, rfl, _, rfl, md k⟩
      · exact ⟨i + 1, x, some (.d (.int x)), rfl, rfl, by omega, by omega, hxb.1, hxb.2⟩
    · exact ⟨i, r, none, rfl, rfl, i0, i1, r0, r1⟩
    · exact ⟨i, r, none, rfl, rfl, i0, i1, r0, r1⟩
  · rintro o s ⟨i, r, x, rfl, rfl, i0, i1, r0, r1⟩
    repeat' walk_at "lo"
    · rename_i hk
      have hr : 0 < r := of_decide_eq_true hk
      refine wr_fdiv hm0 (by omega) ?_
      repeat' walk_at "lo"
      refine ⟨cells, i, r / m, t, rfl, ⟨hc, i0, i1, hl, Int.ediv_nonneg r0 (by omega), ?_, t0, t1⟩, rfl, _, rfl, _, rfl, md r⟩
      refine Nat.lt_of_le_of_lt ?_ r1
      have h1 : r / m ≤ r := Int.ediv_le_self m r0
      have h2 : 0 ≤ r / m := Int.ediv_nonneg r0 (by omega)
      omega
    · rename_i hk
      refine ⟨_, .cons (.cons .nil), ⟨((t + 1) % 2147483629, i), rfl, ⟨Int.emod_nonneg _ (by decide), by omega, by omega, by omega⟩, fun _ z => z, ?_⟩⟩
      rintro d ⟨k, rfl, hk⟩
      repeat' walk_at "lo"
      exact ⟨cells, i, r, (t + 1) % 2147483629, rfl, ⟨hc, i0, i1, hl, r0, r1, Int.emod_nonneg _ (by decide), Int.emod_lt_of_pos _ (by decide)⟩, rfl, _, rfl, _, rfl, md k⟩
theorem cal__law_take (X : Txt P K mg a) : Cal P w K mg base 2 a.f__law_take ["_law_hand_here", "_law_many"] (SpH (TT K a) F__law_take) [] := by
  obtain ⟨fd, F⟩ := X.F__law_take
  exact ⟨fd, [], ok__law_take X F, .nil, F.bindsN fun _ _ _ _ _ _ us hl => match us, hl with | [_, _], _ => rfl⟩
end
end L3
end
section
set_option Elab.async false
set_option linter.all false
set_option maxRecDepth 100000
set_option maxHeartbeats 1000000
namespace L3
open PySem PySem.Spec PyProof.Rows L2 PySem.W PySem.Calls Lo
local macro_rules | `(tactic| walk_at "sd") => `(tactic| first | exact .d | rfl | assumption | (with_reducible decide) | omega | exact .nil | exact AllD.nil)
local macro_rules | `(tactic| walk_at "we") => `(tactic| first
  | ((with_reducible refine' we_var ?hv ?_); (case hv => rfl))
  | (with_reducible refine we_int ?_)
  | (with_reducible refine we_op ?_)
  | (with_reducible refine we_str ?_)
  | (with_reducible refine we_isi ?_)
  | (with_reducible refine we_isi2 ?_)
  | (with_reducible refine we_cb ?_)
  | (with_reducible refine we_andV ?_)
  | (with_reducible refine we_orV ?_)
  | (with_reducible refine we_notV ?_)
  | (with_reducible refine we_non ?_)
  | (with_reducible refine we_bl ?_)
  | (with_reducible refine we_if ?_)
  | (with_reducible refine we_un ?_)
  | (with_reducible refine we_cal0 ?_)
  | (with_reducible refine we_cal2 ?_)
  | (with_reducible refine we_calH ?_)
  | (with_reducible refine we_prp ?_)
  | (with_reducible refine we_tup ?_)
  | (with_reducible refine we_chain ?_))
local macro_rules | `(tactic| walk_at "ws") => `(tactic| first
  | (with_reducible refine ws_seq ?_)
  | (with_reducible refine ws_if ?_)
  | (with_reducible refine ws_set ?_)
  | (with_reducible refine ws_ret ?_)
  | (with_reducible refine ws_next ?_)
  | (with_reducible refine ws_drop ?_)
  | (with_reducible refine ws_retN ?_))
local macro_rules | `(tactic| walk_at "wt") => `(tactic| first
  | (with_reducible refine wt_test ?_)
  | (with_reducible refine wt_B ?_)
  | (with_reducible refine wt_and ?_)
  | (with_reducible refine wt_or ?_)
  | (with_reducible refine wt_not ?_))
local macro_rules | `(tactic| walk_at "wr") => `(tactic| first
  | (with_reducible refine wr_addI ?_)
  | (with_reducible refine wr_leI ?_)
  | (with_reducible refine wr_B0 ?_)
  | (with_reducible refine wr_I0 ?_)
  | (with_reducible refine wr_isN ?_)
  | (with_reducible refine wr_notN ?_)
  | (with_reducible refine wr_leS ?_)
  | ((with_reducible refine' wr_ixL ?hv ?_); (case hv => rfl))
  | ((with_reducible refine' wr_ixT ?hv ?_); (case hv => rfl))
  | ((with_reducible refine' wr_ixO ?hv ?hw ?_); (case hv => rfl); (case hw => rfl))
  | ((with_reducible refine' wr_eqD ?h1 ?h2 ?h3 ?h4 ?_); (case h1 => exact .d); (case h2 => exact .d); (case h3 => rfl); (case h4 => rfl))
  | ((with_reducible refine' wr_neD ?h1 ?h2 ?h3 ?h4 ?_); (case h1 => exact .d); (case h2 => exact .d); (case h3 => rfl); (case h4 => rfl)))
local macro_rules | `(tactic| walk_at "da") => `(tactic| first
  | (with_reducible refine ⟨_, rfl, ?_⟩)
  | (with_reducible refine ⟨fun _ => ?_, fun h => Bool.noConfusion h⟩)
  | (with_reducible refine ⟨fun h => Bool.noConfusion h, fun _ => ?_⟩)
  | (with_reducible refine ⟨_, rfl, ?_, ?_⟩)
  | ((with_reducible refine' ⟨_, _, .d, ?h1, ?h2, ?_⟩); (case h1 => walk_at "sd"); (case h2 => rfl))
  | ((with_reducible refine' ⟨_, _, _, .d, ?h1, ?h2, ?h3, ?_⟩); (case h1 => walk_at "sd"); (case h2 => rfl); (case h3 => rfl))
  | (with_reducible refine ⟨fun hk => ?_, fun hk => ?_⟩)
  | (show ∃ d, SV.d _ = SV.d d ∧ _; with_reducible refine ⟨_, rfl, ?_⟩))
local macro_rules | `(tactic| walk_at "lo") => `(tactic| first
  | ((with_reducible show Lo.WE _ _ _ _ _ _); walk_at "we")
  | ((with_reducible show Lo.WA _ _ _ _ _ _); first | (with_reducible refine wa_cons ?_) | (with_reducible refine wa_nil ?_))
  | ((with_reducible show Lo.WS _ _ _ _ _ _); walk_at "ws")
  | ((with_reducible show Lo.WT _ _ _ _ _ _); walk_at "wt")
  | ((with_reducible show Lo.WR _ _ _ _ _ _ _); walk_at "wr")
  | ((with_reducible show Lo.WU _ _ _ _ _ _); (with_reducible refine wu_neg ?_))
  | ((with_reducible show Lo.WC _ _ _ _ _ _); first | ((with_reducible refine' wc_len ?hv ?_); (case hv => rfl)) | (with_reducible refine wc_int ?_))
  | walk_at "da")
local macro_rules | `(tactic| walk_at "wq") => `(tactic| first
  | (with_reducible refine ws_seq (t := tAsg _ _) ?_)
  | (with_reducible refine ws_seq (t := tDrop _) ?_)
  | (with_reducible refine ws_set ?_)
  | (with_reducible refine ws_ret ?_)
  | (with_reducible refine ws_next ?_)
  | (with_reducible refine ws_drop ?_)
  | (with_reducible refine ws_retN ?_))
local macro_rules | `(tactic| walk_at "lq") => `(tactic| first
  | ((with_reducible show Lo.WE _ _ _ _ _ _); walk_at "we")
  | ((with_reducible show Lo.WA _ _ _ _ _ _); first | (with_reducible refine wa_cons ?_) | (with_reducible refine wa_nil ?_))
  | ((with_reducible show Lo.WS _ _ _ _ _ _); walk_at "wq")
  | ((with_reducible show Lo.WT _ _ _ _ _ _); walk_at "wt")
  | ((with_reducible show Lo.WR _ _ _ _ _ _ _); walk_at "wr")
  | ((with_reducible show Lo.WU _ _ _ _ _ _); (with_reducible refine wu_neg ?_))
  | ((with_reducible show Lo.WC _ _ _ _ _ _); first | ((with_reducible refine' wc_len ?hv ?_); (case hv => rfl)) | (with_reducible refine wc_int ?_))
  | walk_at "da")
local macro_rules | `(tactic| walk_at "ws") => `(tactic| (with_reducible refine ws_sub ?_))
local macro_rules | `(tactic| walk_at "wq") => `(tactic| (with_reducible refine ws_sub ?_))
local macro_rules | `(tactic| walk_at "da") => `(tactic| ((with_reducible show ∃ (i : Int) (j : Nat) (ss : List SV), SV.d (D.int _) = SV.d (D.int i) ∧ _); refine ⟨_, _, _, rfl, (rfl : _ = some (OW.lst _)), rfl, ?_⟩))
local macro_rules | `(tactic| walk_at "da") => `(tactic| ((with_reducible show ∃ (k : Nat) (ss : List SV), SV.p _ = SV.p k ∧ _); refine ⟨_, _, rfl, (rfl : _ = some (OW.lst _)), ?_⟩))
local macro_rules | `(tactic| walk_at "we") => `(tactic| (with_reducible refine we_bm ?_))
local macro_rules | `(tactic| walk_at "lo") => `(tactic| ((with_reducible show Lo.WC _ _ (Lo.rLen _) _ [SV.p _] _); refine wc_lenO (rfl : _ = some (OW.lst _)) ?_))
local macro_rules | `(tactic| walk_at "lq") => `(tactic| ((with_reducible show Lo.WC _ _ (Lo.rLen _) _ [SV.p _] _); refine wc_lenO (rfl : _ = some (OW.lst _)) ?_))
local macro_rules | `(tactic| walk_at "da") => `(tactic| ((with_reducible show ∃ (k : Nat) (sr : List SV) (xs : List D), [SV.p _] = SV.p k :: sr ∧ _); refine ⟨_, _, _, rfl, (rfl : _ = some OW.hand), .nil, ?_⟩))
local macro_rules | `(tactic| walk_at "da") => `(tactic| ((with_reducible show ∃ (k : Nat) (sr : List SV) (xs : List D), [SV.p _, SV.d _] = SV.p k :: sr ∧ _); refine ⟨_, _, _, rfl, (rfl : _ = some OW.hand), .cons .nil, ?_⟩))
local macro_rules | `(tactic| walk_at "da") => `(tactic| ((with_reducible show ∃ (k : Nat) (sr : List SV) (xs : List D), [SV.p _, SV.d _, SV.d _] = SV.p k :: sr ∧ _); refine ⟨_, _, _, rfl, (rfl : _ = some OW.hand), .cons (.cons .nil), ?_⟩))
local macro_rules | `(tactic| walk_at "da") => `(tactic| ((with_reducible show ∃ (xs : List D), AllD [] xs ∧ _); refine ⟨_, .nil, ?_⟩))
local macro_rules | `(tactic| walk_at "da") => `(tactic| ((with_reducible show ∃ (xs : List D), AllD [SV.d _] xs ∧ _); refine ⟨_, .cons .nil, ?_⟩))
local macro_rules | `(tactic| walk_at "da") => `(tactic| ((with_reducible show ∃ (xs : List D), AllD [SV.d _, SV.d _] xs ∧ _); refine ⟨_, .cons (.cons .nil), ?_⟩))
local macro_rules | `(tactic| walk_at "da") => `(tactic| ((with_reducible show ∃ (xs : List D), AllD [SV.d _, SV.d _, SV.d _] xs ∧ _); refine ⟨_, .cons (.cons (.cons .nil)), ?_⟩))
local macro_rules | `(tactic| walk_at "da") => `(tactic| ((with_reducible show ∃ (xs : List D), AllD [SV.d _, SV.d _, SV.d _, SV.d _] xs ∧ _); refine ⟨_, .cons (.cons (.cons (.cons .nil))), ?_⟩))
local macro_rules | `(tactic| walk_at "lo") => `(tactic| ((with_reducible show Lo.WO _ _ _ _ _ _); first | (with_reducible refine wo_none ?_) | (with_reducible refine wo_some ?_)))
local macro_rules | `(tactic| walk_at "lq") => `(tactic| ((with_reducible show Lo.WO _ _ _ _ _ _); first | (with_reducible refine wo_none ?_) | (with_reducible refine wo_some ?_)))
local macro_rules | `(tactic| walk_at "da") => `(tactic| first | ((with_reducible refine' takeG ?h ?_); (case h => (constructor <;> omega)); (intro k h0 h1)) | fail "no")
local macro_rules | `(tactic| walk_at "wr") => `(tactic| first | ((with_reducible refine' wr_pow ?h ?_); (case h => exact ⟨by decide, by decide, by decide⟩)) | fail "no")

section
variable {P : Program} {w : World} {K : Frag} {mg : Str → Option Value} {base : Heap} {a : Ad}
abbrev F__law_shuffled : DF := Fv (ι := D) (fun i => [i]) (fun i => ∃ xs, (i = .lst xs ∨ i = .tup xs) ∧ xs.length ≤ 100000) (fun i d => ∃ xs ys : List D, (i = .lst xs ∨ i = .tup xs) ∧ ys.Perm xs ∧ d = .lst ys) noErr
theorem ok__law_shuffled {fd} (X : Txt P K mg a) (F : DefAt K "_law_shuffled" "_law_shuffled" s__law_shuffled [] a.f__law_shuffled fd) : FnOk P w K mg base (L2.CX P w) 3 a.f__law_shuffled fd ["_law_hand_here", "_law_row"] (SpH (TT K a) F__law_shuffled) := by
  refine okH (fun i => [some (.p 0), some (.d (i)), none, none]) F sc__law_shuffled (fun _ => rfl) fun cdv A outer s H E hr => 
   have hu := hr.units
   ⟨_, 
   (pss_cons (ps_par (i := 2) (j := 3) rfl sc__law_shuffled.nd rfl rfl (by decide) rfl rfl (pa_cons (pe_callTy call_listA (by rfl) X.n_list (by decide +kernel) (pa_cons (pv 1) pa_nil)) (pa_cons (pe_lst pa_nil) pa_nil)) (by rfl))
  (pss_cons (ps_while (passes_of rfl) (pt_truth (pv 2) (by intro _; rfl))
  (pss_one (ps_expr (pe_bm PySem.F.plainAttrs_list PySem.F.slot_list_append PySem.F.type_list_append mt_append (pv 3) (pa_cons (pe_bm PySem.F.plainAttrs_list PySem.F.slot_list_pop PySem.F.type_list_pop mt_popAt (pv 2) (pa_cons (pe_cal X.A__law_take (cal__law_take X) hr (by rfl) passL (pa_cons (pv 0) (pa_cons (pe_callB call_lenA (by rfl) X.n_len PySem.boot_len (pa_cons (pv 2) pa_nil)) pa_nil))) pa_nil)) pa_nil)))))
  (pss_one (ps_ret (pv 3))))), fun b row hp => ?_⟩
  dsimp only [CxB, L2.cxOf] at hp ⊢
  obtain ⟨xs, hx, hl⟩ := hp
  refine ws_frzR ?_
  refine ws_seq (ws_par ?_)
  repeat' walk_at "lq"
  refine wc_listO hx ?_
  repeat' walk_at "lq"
  refine we_lstO ?_
  repeat' walk_at "lq"
  refine ⟨Nat.zero_le _, ?_⟩
  repeat' walk_at "lq"
  refine ⟨_, _, rfl, ?_⟩
  refine ws_seq (ws_while (fun m o s => ∃ left found : List D, m = left.length ∧ o = [.hand, .lst (left.map SV.d), .lst (found.map SV.d)] ∧ s = [some (.p 0), some (.d row), some (.p 1), some (.p 2)] ∧ (found ++ left).Perm xs) xs.length ⟨xs, [], rfl, rfl, rfl, List.Perm.refl _⟩ ?_)
  rintro m o s ⟨left, found, rfl, rfl, rfl, hpm⟩
  refine ⟨OwP_hand (OwP_lst (OwP_lst OwP_nil)), Nat.le_refl _, ?_⟩
  have hle : left.length ≤ xs.length := by
    have := hpm.length_eq
    rw [List.length_append] at this
    omega
  refine wt_truO ?_
  have hll : (left.map SV.d).length = left.length := List.length_map ..
  have hlf : (found.map SV.d).length = found.length := List.length_map ..
  have hsum : found.length + left.length = xs.length := by
    have := hpm.length_eq
    rw [List.length_append] at this
    exact this
  repeat' walk_at "lo"
  · rename_i hk
    have hpos : 0 < left.length := by
      cases left with
      | nil => cases hk
      | cons x r => exact Nat.succ_pos _
    repeat' walk_at "lo"
    rename_i k h0 h1
    obtain ⟨j, rfl⟩ : ∃ j : Nat, k = (j : Int) := ⟨k.toNat, by omega⟩
    have hj : j < left.length := by omega
    refine wm_popAt (rfl : _ = some (OW.lst _)) (x := .d left[j]) (by rw [List.getElem?_map, List.getElem?_eq_getElem hj]; rfl) (by omega) ?_
    repeat' walk_at "lo"
    refine wm_append (rfl : _ = some (OW.lst _)) (by omega) ?_
    have e1 : (left.map SV.d).eraseIdx j = (left.eraseIdx j).map SV.d := erase_map left j
    have e2 : found.map SV.d ++ [SV.d left[j]] = (found ++ [left[j]]).map SV.d := by simp
    show ∃ m' o4 s4, m' < left.length ∧ Fg [OW.hand, OW.lst ((left.map SV.d).eraseIdx j), OW.lst (found.map SV.d ++ [SV.d left[j]])] [some (SV.p 0), some (SV.d row), some (SV.p 1), some (SV.p 2)] o4 s4 ∧ _
    rw [e1, e2]
    refine ⟨_, _, _, ?_, ⟨List.prefix_refl _, .keepp (by show 0 < 3; decide) (.keepd (.keepp (by show 1 < 3; decide) (.keepp (by show 2 < 3; decide) .nil)))⟩, OwP_hand (OwP_lst (OwP_lst OwP_nil)), Nat.le_refl _, left.eraseIdx j, found ++ [left[j]], rfl, rfl, rfl, ?_⟩
    · rw [List.length_eraseIdx_of_lt hj]
      omega
    · refine List.Perm.trans ?_ hpm
      rw [List.append_assoc]
      exact List.Perm.append_left _ (erase_perm left j hj)
  · rename_i hk
    have hnil : left = [] := by
      cases left with
      | nil => rfl
      | cons x r => cases hk
    subst hnil
    rw [List.append_nil] at hpm
    exact .inl ⟨2, found, rfl, rfl, rfl, _, rfl, xs, found, hx, hpm, rfl⟩
theorem cal__law_shuffled (X : Txt P K mg a) : Cal P w K mg base 3 a.f__law_shuffled ["_law_hand_here", "_law_row"] (SpH (TT K a) F__law_shuffled) [] := by
  obtain ⟨fd, F⟩ := X.F__law_shuffled
  exact ⟨fd, [], ok__law_shuffled X F, .nil, F.bindsN fun _ _ _ _ _ _ us hl => match us, hl with | [_, _], _ => rfl⟩
abbrev F__law_some : DF := Fv (ι := List Int × D × Nat) (fun i => [i.2.1, .int i.2.2]) (fun i => (i.2.1 = .lst (i.1.map .int) ∨ i.2.1 = .tup (i.1.map .int)) ∧ i.1.length ≤ 100000 ∧ i.2.2 ≤ i.1.length) (fun i d => ∃ qs ps : List Int, qs.Perm i.1 ∧ ps.Perm (qs.take i.2.2) ∧ ps.Pairwise (· ≤ ·) ∧ d = .tup (ps.map .int)) noErr
theorem ok__law_some {fd} (X : Txt P K mg a) (F : DefAt K "_law_some" "_law_some" s__law_some [] a.f__law_some fd) : FnOk P w K mg base (L2.CX P w) 4 a.f__law_some fd ["_law_hand_here", "_law_row", "_law_many"] (SpH (TT K a) F__law_some) := by
  refine okH (fun i => [some (.p 0), some (.d (i.2.1)), some (.d (.int i.2.2))]) F sc__law_some (fun _ => rfl) fun cdv A outer s H E hr => 
   have hu := hr.units
   ⟨_, 
   (pss_one (ps_ret (pe_callTy call_tupA (by rfl) X.n_tuple (by decide +kernel) (pa_cons (pe_callB cr_sortedI (by rfl) X.n_sorted (by decide +kernel) (pa_cons (pe_slice sl_any (pe_cal X.A__law_shuffled (cal__law_shuffled X) hr (by rfl) passL (pa_cons (pv 0) (pa_cons (pv 1) pa_nil))) po_none (po_some (pv 2))) pa_nil)) pa_nil)))), fun b ⟨ns, row, m⟩ hp => ?_⟩
  dsimp only [CxB, L2.cxOf] at hp ⊢
  obtain ⟨hx, hl, hm⟩ := hp
  repeat' walk_at "lo"
  refine we_sl ?_
  repeat' walk_at "lo"
  have hx2 : ∀ xs, (row = .lst xs ∨ row = .tup xs) → xs = ns.map D.int := fun xs h => by
    rcases hx with rfl | rfl <;> rcases h with h | h <;> cases h <;> rfl
  refine ⟨⟨ns.map .int, hx, by rw [List.length_map]; exact hl⟩, fun _ z => z, ?_⟩
  rintro d ⟨xs, ys, hxs, hpm, rfl⟩
  have := hx2 xs hxs
  subst this
  obtain ⟨qs, rfl, hqs⟩ := perm_map hpm
  repeat' walk_at "lo"
  refine .inl ⟨_, rfl, ?_⟩
  have e : Lo.cutD (qs.map D.int) none (some (m : Int)) = (qs.take m).map D.int := by
    unfold Lo.cutD
    rw [HT.sIx_none, HT.sIx_nat, List.length_map, List.drop_zero, Nat.sub_zero, List.map_take, Nat.min_eq_left (by rw [hqs.length_eq]; exact hm)]
  repeat' walk_at "lo"
  rw [e]
  refine wc_sorted fun ps hpe hpw => ?_
  repeat' walk_at "lo"
  refine wc_tup (.inl rfl) ?_
  exact ⟨rfl, _, rfl, qs, ps, hqs, hpe, hpw, rfl⟩
theorem cal__law_some (X : Txt P K mg a) : Cal P w K mg base 4 a.f__law_some ["_law_hand_here", "_law_row", "_law_many"] (SpH (TT K a) F__law_some) [] := by
  obtain ⟨fd, F⟩ := X.F__law_some
  exact ⟨fd, [], ok__law_some X F, .nil, F.bindsN fun _ _ _ _ _ _ us hl => match us, hl with | [_, _, _], _ => rfl⟩
theorem abc_at {k : Int} (h0 : 0 ≤ k) (h1 : k < 26) : atI ("abcdefghijklmnopqrstuvwxyz" : Str).cps.toList k = some (97 + k.toNat) := by
  obtain ⟨j, rfl⟩ : ∃ j : Nat, k = (j : Int) := ⟨k.toNat, by omega⟩
  have e : ("abcdefghijklmnopqrstuvwxyz" : Str).cps.toList = (List.range 26).map (97 + ·) := by decide +kernel
  rw [e]
  refine atI_nat ?_
  rw [List.getElem?_map, List.getElem?_range (by omega)]
  rfl
abbrev F__law_word : DF := Fv (ι := Int) (fun i => [.int i]) (fun i => 0 < i ∧ i ≤ 1000) (fun i d => ∃ cs : List Nat, 1 ≤ cs.length ∧ cs.length ≤ i ∧ (∀ c ∈ cs, 97 ≤ c ∧ c ≤ 122) ∧ d = .str (SX.S cs)) noErr
theorem ok__law_word {fd} (X : Txt P K mg a) (F : DefAt K "_law_word" "_law_word" s__law_word [] a.f__law_word fd) : FnOk P w K mg base (L2.CX P w) 3 a.f__law_word fd ["_law_hand_here", "_law_longest"] (SpH (TT K a) F__law_word) := by
  refine okH (fun i => [some (.p 0), some (.d (.int i)), none]) F sc__law_word (fun _ => rfl) fun cdv A outer s H E hr => 
   have hu := hr.units
   ⟨_, 
   (pss_one (ps_ret (pe_joinA pe_str (pe_lc (own := [("_law_k", 2)]) (by rfl) sc__law_word.nd (pi_range1 rfl X.n_range (pa_cons (pe_op op_addA pe_int (pe_cal X.A__law_take (cal__law_take X) hr (by rfl) passL (pa_cons (pv 0) (pa_cons (pv 1) pa_nil)))) pa_nil)) (blkOk_by (own := [("_law_k", 2)]) (N := N__law_word) (sc := defScope s__law_word) (by decide +kernel)) (fun _ _ _ _ _ => (pg_name (i := 2) sc__law_word.nd rfl (Or.inl rfl))) (fun _ _ _ _ _ => pts_nil) (fun _ _ _ _ _ => (pe_ix (kIx K Lo.rIx rfl ix_any) pe_str (pe_cal X.A__law_take (cal__law_take X) hr (by rfl) passL (pa_cons (pv 0) (pa_cons pe_int pa_nil))) (fun _ _ => rfl))))))), fun b m hp => ?_⟩
  dsimp only [CxB, L2.cxOf] at hp ⊢
  obtain ⟨hm0, hm1⟩ := hp
  refine ws_ret (we_join ?_)
  repeat' walk_at "lo"
  refine we_lc (js := [2]) (by decide) (fun _ i acc => ∃ cs : List Nat, acc = cs.map (fun c => D.str ⟨#[c]⟩) ∧ cs.length = i ∧ ∀ c ∈ cs, 97 ≤ c ∧ c ≤ 122) (wi_rng1 ?_)
  repeat' walk_at "lo"
  rename_i k h0 h1
  refine ⟨by omega, by omega, Nat.le_refl _, OwP_hand OwP_nil, ⟨[], rfl, rfl, fun _ h => nomatch h⟩, by rw [rngD_len]; omega, ?_, ?_⟩
  · rintro i x acc hi ⟨cs, rfl, hlen, hc⟩ hacc
    refine wg_name (wt_yes ⟨fun _ => ?_, fun z => nomatch z⟩)
    repeat' walk_at "lo"
    rename_i k h0 h1
    refine wr_ixS (by decide +kernel) (c := 97 + k.toNat) (abc_at h0 h1) ?_
    refine ⟨_, rfl, rfl, cs ++ [97 + k.toNat], by simp, by simp [hlen], fun c hm => ?_⟩
    rcases List.mem_append.mp hm with hm | hm
    · exact hc c hm
    · rw [List.mem_singleton.mp hm]
      omega
  · rintro acc ⟨cs, rfl, hlen, hc⟩ hacc
    rw [rngD_len] at hlen
    have e1 : ((cs.map fun c => [c]).map SX.S).map D.str = cs.map (fun c => D.str ⟨#[c]⟩) := by
      rw [List.map_map, List.map_map]
      rfl
    have e2 : Txt.join "" ((cs.map fun c => [c]).map SX.S) = SX.S cs := by
      have h := SX.join_S [] (cs.map fun c => [c])
      rw [joinL_one] at h
      exact h
    have e3 : (((cs.map fun c => [c]).map SX.S).map (·.length)).sum = cs.length := by
      clear hlen hc hacc e1 e2
      induction cs with
      | nil => rfl
      | cons c r ih =>
        rw [List.map_cons, List.map_cons, List.map_cons, List.sum_cons, ih, List.length_cons]
        show 1 + r.length = _
        omega
    refine ⟨(cs.map fun c => [c]).map SX.S, .inl (by rw [e1]), ?_, rfl, _, rfl, cs, ?_, ?_, hc, by rw [e2]⟩
    · rw [e3, List.length_map, List.length_map]
      show cs.length + cs.length * 0 ≤ _
      omega
    · omega
    · omega
theorem cal__law_word (X : Txt P K mg a) : Cal P w K mg base 3 a.f__law_word ["_law_hand_here", "_law_longest"] (SpH (TT K a) F__law_word) [] := by
  obtain ⟨fd, F⟩ := X.F__law_word
  exact ⟨fd, [], ok__law_word X F, .nil, F.bindsN fun _ _ _ _ _ _ us hl => match us, hl with | [_, _], _ => rfl⟩
abbrev F__law_as_list : DF := Fv (ι := D) (fun i => [i]) (fun i => ∃ xs, i = .lst xs ∨ i = .tup xs) (fun i d => ∃ xs, (i = .lst xs ∨ i = .tup xs) ∧ (d = .lst xs ∨ d = .tup xs)) noErr
theorem ok__law_as_list {fd} (X : Txt P K mg a) (F : DefAt K "_law_as_list" "_law_as_list" s__law_as_list [] a.f__law_as_list fd) : FnOk P w K mg base (L2.CX P w) 3 a.f__law_as_list fd ["_law_hand_here", "_law_row"] (SpH (TT K a) F__law_as_list) := by
  refine okH (fun i => [some (.p 0), some (.d (i))]) F sc__law_as_list (fun _ => rfl) fun cdv A outer s H E hr => 
   have hu := hr.units
   ⟨_, 
   (pss_one (ps_ret (pe_ifExp (pt_cmpR (op_eqD hu) (pe_cal X.A__law_take (cal__law_take X) hr (by rfl) passL (pa_cons (pv 0) (pa_cons pe_int pa_nil))) pe_int (nomark _)) (pe_callTy call_listA (by rfl) X.n_list (by decide +kernel) (pa_cons (pv 1) pa_nil)) (pe_callTy call_tupA (by rfl) X.n_tuple (by decide +kernel) (pa_cons (pv 1) pa_nil))))), fun b row hp => ?_⟩
  dsimp only [CxB, L2.cxOf] at hp ⊢
  obtain ⟨xs, hx⟩ := hp
  repeat' walk_at "lo"
  rename_i k h0 h1
  · exact wc_list hx ⟨rfl, _, rfl, xs, hx, .inl rfl⟩
  · exact wc_tup hx ⟨rfl, _, rfl, xs, hx, .inr rfl⟩
theorem cal__law_as_list (X : Txt P K mg a) : Cal P w K mg base 3 a.f__law_as_list ["_law_hand_here", "_law_row"] (SpH (TT K a) F__law_as_list) [] := by
  obtain ⟨fd, F⟩ := X.F__law_as_list
  exact ⟨fd, [], ok__law_as_list X F, .nil, F.bindsN fun _ _ _ _ _ _ us hl => match us, hl with | [_, _], _ => rfl⟩
/-- no role of six -/
def noRole (d : D) : Prop := d.flat = true ∧ d.okd = true ∧ d.isO = false ∧ d.shw = true ∧ d.rb ≤ 1922 ∧ (∀ z : Str, d = .str z → z.length ≤ 100000) ∧ isWhole d (some 0) (some 5) = false
abbrev F__law_no_role : DF := Fv (ι := Unit) (fun i => [.int 6]) (fun i => True) (fun i d => d = .non ∨ noRole d) noErr
theorem ok__law_no_role {fd} (X : Txt P K mg a) (F : DefAt K "_law_no_role" "_law_no_role" s__law_no_role [] a.f__law_no_role fd) : FnOk P w K mg base (L2.CX P w) 3 a.f__law_no_role fd ["_law_hand_here", "_law_many"] (SpH (TT K a) F__law_no_role) := by
  refine okH (fun i => [some (.p 0), some (.d (.int 6)), none]) F sc__law_no_role (fun _ => rfl) fun cdv A outer s H E hr => 
   have hu := hr.units
   ⟨_, 
   (pss_cons (ps_set (i := 2) sc__law_no_role.nd rfl (Or.inl rfl) (pe_cal X.A__law_take (cal__law_take X) hr (by rfl) passL (pa_cons (pv 0) (pa_cons pe_int pa_nil))))
  (pss_cons (ps_if (pt_cmpR (op_eqD hu) (pv 2) pe_int (nomark _))
  (pss_one (ps_ret pe_non))
  pss_nil)
  (pss_cons (ps_if (pt_cmpR (op_eqD hu) (pv 2) pe_int (nomark _))
  (pss_one (ps_ret pe_bl))
  pss_nil)
  (pss_cons (ps_if (pt_cmpR (op_eqD hu) (pv 2) pe_int (nomark _))
  (pss_one (ps_ret (pe_op op_sub (pe_un un_neg pe_int) (pe_cal X.A__law_take (cal__law_take X) hr (by rfl) passL (pa_cons (pv 0) (pa_cons pe_int pa_nil))))))
  pss_nil)
  (pss_cons (ps_if (pt_cmpR (op_eqD hu) (pv 2) pe_int (nomark _))
  (pss_one (ps_ret (pe_op op_addA (pe_op op_addA (pv 1) (pe_op op_pow pe_int pe_int)) (pe_cal X.A__law_take (cal__law_take X) hr (by rfl) passL (pa_cons (pv 0) (pa_cons pe_int pa_nil))))))
  pss_nil)
  (pss_cons (ps_if (pt_cmpR (op_eqD hu) (pv 2) pe_int (nomark _))
  (pss_one (ps_ret pe_str))
  pss_nil)
  (pss_cons (ps_if (pt_cmpR (op_eqD hu) (pv 2) pe_int (nomark _))
  (pss_one (ps_ret pe_bl))
  pss_nil)
  (pss_one (ps_ret (pe_op op_addA (pv 1) (pe_cal X.A__law_take (cal__law_take X) hr (by rfl) passL (pa_cons (pv 0) (pa_cons pe_int pa_nil))))))))))))), fun b _ hp => ?_⟩
  dsimp only [CxB, L2.cxOf] at hp ⊢
  have bi : ∀ i : Int, (i < 0 ∨ 5 < i) → i.natAbs < 2 ^ 100 → noRole (.int i) := fun i h hb => by
    refine ⟨rfl, rfl, rfl, ?_, Nat.le_refl _, (fun z e => nomatch e), ?_⟩
    · refine decide_eq_true ?_
      have := log2_le hb
      omega
    · show (decide (0 ≤ i) && decide (i ≤ 5)) = false
      by_cases h0 : 0 ≤ i
      · have : ¬ i ≤ 5 := by omega
        simp [this]
      · simp [h0]
  repeat' walk_at "lo"
  rename_i k h0 h1
  · exact ⟨rfl, _, rfl, .inl rfl⟩
  · exact ⟨rfl, _, rfl, .inr ⟨rfl, by decide +kernel, rfl, by decide +kernel, by decide +kernel, (fun z e => nomatch e), rfl⟩⟩
  · exact ⟨rfl, _, rfl, .inr (bi _ (.inl (by omega)) (by omega))⟩
  · have e : (10 : Int) ^ Int.toNat 21 = 1000000000000000000000 := by decide +kernel
    exact ⟨rfl, _, rfl, .inr (bi _ (.inr (by omega)) (by omega))⟩
  · exact ⟨rfl, _, rfl, .inr ⟨rfl, by decide +kernel, rfl, by decide +kernel, by decide +kernel, (fun z e => by cases e; decide +kernel), rfl⟩⟩
  · exact ⟨rfl, _, rfl, .inr ⟨rfl, by decide +kernel, rfl, by decide +kernel, by decide +kernel, (fun z e => nomatch e), rfl⟩⟩
  · exact ⟨rfl, _, rfl, .inr (bi _ (.inr (by omega)) (by omega))⟩
theorem cal__law_no_role (X : Txt P K mg a) : Cal P w K mg base 3 a.f__law_no_role ["_law_hand_here", "_law_many"] (SpH (TT K a) F__law_no_role) [] := by
  obtain ⟨fd, F⟩ := X.F__law_no_role
  exact ⟨fd, [], ok__law_no_role X F, .nil, F.bindsN fun _ _ _ _ _ _ us hl => match us, hl with | [_, _], _ => rfl⟩
end
end L3
end
section
set_option Elab.async false
set_option linter.all false
set_option maxRecDepth 100000
set_option maxHeartbeats 1000000
namespace L3
open PySem PySem.Spec PyProof.Rows L2 PySem.W PySem.Calls Lo
local macro_rules | `(tactic| walk_at "sd") => `(tactic| first | exact .d | rfl | assumption | (with_reducible decide) | omega | exact .nil | exact AllD.nil)
local macro_rules | `(tactic| walk_at "we") => `(tactic| first
  | ((with_reducible refine' we_var ?hv ?_); (case hv => rfl))
  | (with_reducible refine we_int ?_)
  | (with_reducible refine we_op ?_)
  | (with_reducible refine we_str ?_)
  | (with_reducible refine we_isi ?_)
  | (with_reducible refine we_isi2 ?_)
  | (with_reducible refine we_cb ?_)
  | (with_reducible refine we_andV ?_)
  | (with_reducible refine we_orV ?_)
  | (with_reducible refine we_notV ?_)
  | (with_reducible refine we_non ?_)
  | (with_reducible refine we_bl ?_)
  | (with_reducible refine we_if ?_)
  | (with_reducible refine we_un ?_)
  | (with_reducible refine we_cal0 ?_)
  | (with_reducible refine we_cal2 ?_)
  | (with_reducible refine we_calH ?_)
  | (with_reducible refine we_prp ?_)
  | (with_reducible refine we_tup ?_)
  | (with_reducible refine we_chain ?_))
local macro_rules | `(tactic| walk_at "ws") => `(tactic| first
  | (with_reducible refine ws_seq ?_)
  | (with_reducible refine ws_if ?_)
  | (with_reducible refine ws_set ?_)
  | (with_reducible refine ws_ret ?_)
  | (with_reducible refine ws_next ?_)
  | (with_reducible refine ws_drop ?_)
  | (with_reducible refine ws_retN ?_))
local macro_rules | `(tactic| walk_at "wt") => `(tactic| first
  | (with_reducible refine wt_test ?_)
  | (with_reducible refine wt_B ?_)
  | (with_reducible refine wt_and ?_)
  | (with_reducible refine wt_or ?_)
  | (with_reducible refine wt_not ?_))
local macro_rules | `(tactic| walk_at "wr") => `(tactic| first
  | (with_reducible refine wr_addI ?_)
  | (with_reducible refine wr_leI ?_)
  | (with_reducible refine wr_B0 ?_)
  | (with_reducible refine wr_I0 ?_)
  | (with_reducible refine wr_isN ?_)
  | (with_reducible refine wr_notN ?_)
  | (with_reducible refine wr_leS ?_)
  | ((with_reducible refine' wr_ixL ?hv ?_); (case hv => rfl))
  | ((with_reducible refine' wr_ixT ?hv ?_); (case hv => rfl))
  | ((with_reducible refine' wr_ixO ?hv ?hw ?_); (case hv => rfl); (case hw => rfl))
  | ((with_reducible refine' wr_eqD ?h1 ?h2 ?h3 ?h4 ?_); (case h1 => exact .d); (case h2 => exact .d); (case h3 => rfl); (case h4 => rfl))
  | ((with_reducible refine' wr_neD ?h1 ?h2 ?h3 ?h4 ?_); (case h1 => exact .d); (case h2 => exact .d); (case h3 => rfl); (case h4 => rfl)))
local macro_rules | `(tactic| walk_at "da") => `(tactic| first
  | (with_reducible refine ⟨_, rfl, ?_⟩)
  | (with_reducible refine ⟨fun _ => ?_, fun h => Bool.noConfusion h⟩)
  | (with_reducible refine ⟨fun h => Bool.noConfusion h, fun _ => ?_⟩)
  | (with_reducible refine ⟨_, rfl, ?_, ?_⟩)
  | ((with_reducible refine' ⟨_, _, .d, ?h1, ?h2, ?_⟩); (case h1 => walk_at "sd"); (case h2 => rfl))
  | ((with_reducible refine' ⟨_, _, _, .d, ?h1, ?h2, ?h3, ?_⟩); (case h1 => walk_at "sd"); (case h2 => rfl); (case h3 => rfl))
  | (with_reducible refine ⟨fun hk => ?_, fun hk => ?_⟩)
  | (show ∃ d, SV.d _ = SV.d d ∧ _; with_reducible refine ⟨_, rfl, ?_⟩))
local macro_rules | `(tactic| walk_at "lo") => `(tactic| first
  | ((with_reducible show Lo.WE _ _ _ _ _ _); walk_at "we")
  | ((with_reducible show Lo.WA _ _ _ _ _ _); first | (with_reducible refine wa_cons ?_) | (with_reducible refine wa_nil ?_))
  | ((with_reducible show Lo.WS _ _ _ _ _ _); walk_at "ws")
  | ((with_reducible show Lo.WT _ _ _ _ _ _); walk_at "wt")
  | ((with_reducible show Lo.WR _ _ _ _ _ _ _); walk_at "wr")
  | ((with_reducible show Lo.WU _ _ _ _ _ _); (with_reducible refine wu_neg ?_))
  | ((with_reducible show Lo.WC _ _ _ _ _ _); first | ((with_reducible refine' wc_len ?hv ?_); (case hv => rfl)) | (with_reducible refine wc_int ?_))
  | walk_at "da")
local macro_rules | `(tactic| walk_at "wq") => `(tactic| first
  | (with_reducible refine ws_seq (t := tAsg _ _) ?_)
  | (with_reducible refine ws_seq (t := tDrop _) ?_)
  | (with_reducible refine ws_set ?_)
  | (with_reducible refine ws_ret ?_)
  | (with_reducible refine ws_next ?_)
  | (with_reducible refine ws_drop ?_)
  | (with_reducible refine ws_retN ?_))
local macro_rules | `(tactic| walk_at "lq") => `(tactic| first
  | ((with_reducible show Lo.WE _ _ _ _ _ _); walk_at "we")
  | ((with_reducible show Lo.WA _ _ _ _ _ _); first | (with_reducible refine wa_cons ?_) | (with_reducible refine wa_nil ?_))
  | ((with_reducible show Lo.WS _ _ _ _ _ _); walk_at "wq")
  | ((with_reducible show Lo.WT _ _ _ _ _ _); walk_at "wt")
  | ((with_reducible show Lo.WR _ _ _ _ _ _ _); walk_at "wr")
  | ((with_reducible show Lo.WU _ _ _ _ _ _); (with_reducible refine wu_neg ?_))
  | ((with_reducible show Lo.WC _ _ _ _ _ _); first | ((with_reducible refine' wc_len ?hv ?_); (case hv => rfl)) | (with_reducible refine wc_int ?_))
  | walk_at "da")
local macro_rules | `(tactic| walk_at "ws") => `(tactic| (with_reducible refine ws_sub ?_))
local macro_rules | `(tactic| walk_at "wq") => `(tactic| (with_reducible refine ws_sub ?_))
local macro_rules | `(tactic| walk_at "da") => `(tactic| ((with_reducible show ∃ (i : Int) (j : Nat) (ss : List SV), SV.d (D.int _) = SV.d (D.int i) ∧ _); refine ⟨_, _, _, rfl, (rfl : _ = some (OW.lst _)), rfl, ?_⟩))
local macro_rules | `(tactic| walk_at "da") => `(tactic| ((with_reducible show ∃ (k : Nat) (ss : List SV), SV.p _ = SV.p k ∧ _); refine ⟨_, _, rfl, (rfl : _ = some (OW.lst _)), ?_⟩))
local macro_rules | `(tactic| walk_at "we") => `(tactic| (with_reducible refine we_bm ?_))
local macro_rules | `(tactic| walk_at "lo") => `(tactic| ((with_reducible show Lo.WC _ _ (Lo.rLen _) _ [SV.p _] _); refine wc_lenO (rfl : _ = some (OW.lst _)) ?_))
local macro_rules | `(tactic| walk_at "lq") => `(tactic| ((with_reducible show Lo.WC _ _ (Lo.rLen _) _ [SV.p _] _); refine wc_lenO (rfl : _ = some (OW.lst _)) ?_))
local macro_rules | `(tactic| walk_at "da") => `(tactic| ((with_reducible show ∃ (k : Nat) (sr : List SV) (xs : List D), [SV.p _] = SV.p k :: sr ∧ _); refine ⟨_, _, _, rfl, (rfl : _ = some OW.hand), .nil, ?_⟩))
local macro_rules | `(tactic| walk_at "da") => `(tactic| ((with_reducible show ∃ (k : Nat) (sr : List SV) (xs : List D), [SV.p _, SV.d _] = SV.p k :: sr ∧ _); refine ⟨_, _, _, rfl, (rfl : _ = some OW.hand), .cons .nil, ?_⟩))
local macro_rules | `(tactic| walk_at "da") => `(tactic| ((with_reducible show ∃ (k : Nat) (sr : List SV) (xs : List D), [SV.p _, SV.d _, SV.d _] = SV.p k :: sr ∧ _); refine ⟨_, _, _, rfl, (rfl : _ = some OW.hand), .cons (.cons .nil), ?_⟩))
local macro_rules | `(tactic| walk_at "da") => `(tactic| ((with_reducible show ∃ (xs : List D), AllD [] xs ∧ _); refine ⟨_, .nil, ?_⟩))
local macro_rules | `(tactic| walk_at "da") => `(tactic| ((with_reducible show ∃ (xs : List D), AllD [SV.d _] xs ∧ _); refine ⟨_, .cons .nil, ?_⟩))
local macro_rules | `(tactic| walk_at "da") => `(tactic| ((with_reducible show ∃ (xs : List D), AllD [SV.d _, SV.d _] xs ∧ _); refine ⟨_, .cons (.cons .nil), ?_⟩))
local macro_rules | `(tactic| walk_at "da") => `(tactic| ((with_reducible show ∃ (xs : List D), AllD [SV.d _, SV.d _, SV.d _] xs ∧ _); refine ⟨_, .cons (.cons (.cons .nil)), ?_⟩))
local macro_rules | `(tactic| walk_at "da") => `(tactic| ((with_reducible show ∃ (xs : List D), AllD [SV.d _, SV.d _, SV.d _, SV.d _] xs ∧ _); refine ⟨_, .cons (.cons (.cons (.cons .nil))), ?_⟩))
local macro_rules | `(tactic| walk_at "lo") => `(tactic| ((with_reducible show Lo.WO _ _ _ _ _ _); first | (with_reducible refine wo_none ?_) | (with_reducible refine wo_some ?_)))
local macro_rules | `(tactic| walk_at "lq") => `(tactic| ((with_reducible show Lo.WO _ _ _ _ _ _); first | (with_reducible refine wo_none ?_) | (with_reducible refine wo_some ?_)))
local macro_rules | `(tactic| walk_at "da") => `(tactic| first | ((with_reducible refine' takeG ?h ?_); (case h => (constructor <;> omega)); (intro k h0 h1)) | fail "no")
local macro_rules | `(tactic| walk_at "wr") => `(tactic| first | ((with_reducible refine' wr_pow ?h ?_); (case h => exact ⟨by decide, by decide, by decide⟩)) | fail "no")

section
variable {P : Program} {w : World} {K : Frag} {mg : Str → Option Value} {base : Heap} {a : Ad}
abbrev F__law_told : DF := Fv (ι := D × D × D × D) (fun i => [i.1, i.2.1, i.2.2.1, i.2.2.2]) (fun i => okStr i.1 ∧ okNouns i.2.1 ∧ i.2.2.1.isO = false ∧ i.2.2.2.isO = false) (fun i d => (frW i.1 i.2.1 i.2.2.1 i.2.2.2 = none ∧ d = .tup [.str "good", .obj 0 [i.1, .tup ((items i.2.1).getD []), i.2.2.1, i.2.2.2]]) ∨ ∃ wd, frW i.1 i.2.1 i.2.2.1 i.2.2.2 = some wd ∧ d = .tup [.str "bad", .str wd]) noErr
theorem ok__law_told {fd} (X : Txt P K mg a) (F : DefAt K "_law_told" "_law_told" s__law_told [] a.f__law_told fd) : FnOk P w K mg base (L2.CX P w) 6 a.f__law_told fd ["_law_name", "_law_nouns", "_law_clause", "_law_agreed"] (SpP (TT K a) F__law_told) := by
  refine okP (fun i => [some (.d (i.1)), some (.d (i.2.1)), some (.d (i.2.2.1)), some (.d (i.2.2.2)), none, none]) F sc__law_told (fun _ => rfl) fun cdv A outer s H E hr => 
   have hu := hr.units
   ⟨_, 
   (pss_cons (ps_try_as (i := 5) rfl rfl sc__law_told.nd rfl rfl ⟨by rfl, by decide, .inl X.g_TongueError⟩ takes0 (fun W pn xe tk _ => (pss_one (ps_set (i := 4) sc__law_told.nd rfl (Or.inl rfl) (pe_makS X.M_Frame (cal_Frame___init__ X) hr (by rfl) (fun σ => passAt tk σ) (pa_cons (pv 0) (pa_cons (pv 1) (pa_cons (pv 2) (pa_cons (pv 3) pa_nil))))))))
  (fun ea oe cls d pn hz hf => (pss_cons (ps_if (PW.pt (pw_or (pt_not (pt_val (pe_callB (LX.call_isD hz hf) (by rfl) X.n_isinstance (by decide +kernel) (pa_cons (pv 5) (pa_cons (pe_glob (v := .ref a.C_BadFrame) rfl X.g_BadFrame rfl) pa_nil))))) (pw_or (pt_val (pe_callB (LX.call_isD hz hf) (by rfl) X.n_isinstance (by decide +kernel) (pa_cons (pv 5) (pa_cons (pe_glob (v := .ref a.C_BadStock) rfl X.g_BadStock rfl) pa_nil)))) (pw_or1 (pt_not (pt_val (pe_callB (LX.call_isD hz hf) (by rfl) X.n_isinstance (by decide +kernel) (pa_cons (pv 5) (pa_cons (pe_bltn (v := .ty "ValueError") rfl X.n_ValueError (by decide +kernel) rfl) pa_nil)))))))))
  (pss_one (ps_ret (pe_tup (pa_cons pe_str (pa_cons pe_str pa_nil)))))
  pss_nil)
  (pss_one (ps_ret (pe_tup (pa_cons pe_str (pa_cons (LX.pe_xd hz hf (pv 5)) pa_nil))))))))
  (pss_one (ps_ret (pe_tup (pa_cons pe_str (pa_cons (pv 4) pa_nil)))))), fun b ⟨nm, ns, cl, ag⟩ hp hx => ?_⟩
  dsimp only [CxB, L2.cxOf] at hp ⊢
  obtain ⟨h1, h2, h3, h4⟩ := hp
  refine ws_seq (ws_tryMake (dd := []) rfl Fv.mon (fun _ => rfl) ?_)
  repeat' walk_at "lq"
  refine ⟨(nm, ns, cl, ag), rfl, ⟨h1, h2, h3, h4⟩, ?_, ?_⟩
  · rintro d ⟨he, rfl⟩
    refine ⟨⟨_, rfl⟩, ?_⟩
    refine ws_ret (we_tup ?_)
    repeat' walk_at "lo"
    refine ⟨by show 2 ≤ 100000; decide, _, rfl, .inl ⟨he, rfl⟩⟩
  · rintro e ⟨wd, he, rfl⟩
    refine ⟨X.xex_BadFrame_TongueError, fun ea dx => ?_⟩
    have xb : ∀ {cv : V} {c : Value} {k : Bool} (hv : ∀ u, RelV cv u → u = c), PySem.W.kitOne K (.ref a.C_BadFrame) c = some k → ∀ {own : List OW} {Q : PSv}, Q (.d (.bl k)) own → Lo.WE (TT K a) b (tCB (LX.rIsD K (.ref a.C_BadFrame) (some dx) ea) (tCons (tVar 5) (tCons (tC cv) tNil))) own [some (SV.d nm), some (SV.d ns), some (SV.d cl), some (SV.d ag), none, some (.x ea dx [("what", .str wd)])] Q :=
      fun {cv c k} hv hk {own Q} q => we_isD (T := TT K a) rfl hv (we_var rfl ⟨dx, _, a.C_BadFrame, k, rfl, rfl, rfl, X.ec_BadFrame, hk, q⟩)
    refine ws_seq (ws_if ?_)
    refine wt_or (wt_not (wt_B (xb (cv := .ref a.C_BadFrame) (c := .ref a.C_BadFrame) (fun _ h => h) X.xis_BadFrame_BadFrame ⟨_, rfl, ?_⟩)))
    refine ⟨(fun z => nomatch z), fun _ => ?_⟩
    refine wt_or (wt_B (xb (cv := .ref a.C_BadStock) (c := .ref a.C_BadStock) (fun _ h => h) X.xis_BadFrame_BadStock ⟨_, rfl, ?_⟩))
    refine ⟨(fun z => nomatch z), fun _ => ?_⟩
    refine wt_not (wt_B (xb (cv := .ty "ValueError") (c := .type "ValueError") (fun _ h => h) X.xis_BadFrame_ValueError ⟨_, rfl, ?_⟩))
    refine ⟨(fun z => nomatch z), fun _ => ?_⟩
    refine ws_next (ws_ret (we_tup ?_))
    repeat' walk_at "lo"
    refine we_xd (T := TT K a) rfl ?_
    repeat' walk_at "lo"
    refine ⟨dx, _, a.C_BadFrame, .str wd, .str wd, rfl, rfl, rfl, X.xf_BadFrame, X.xno_BadFrame_what, rfl, fun _ => rfl, ?_⟩
    repeat' walk_at "lo"
    refine ⟨by show 2 ≤ 100000; decide, _, rfl, .inr ⟨wd, he, rfl⟩⟩
theorem cal__law_told (X : Txt P K mg a) : Cal P w K mg base 6 a.f__law_told ["_law_name", "_law_nouns", "_law_clause", "_law_agreed"] (SpP (TT K a) F__law_told) [] := by
  obtain ⟨fd, F⟩ := X.F__law_told
  exact ⟨fd, [], ok__law_told X F, .nil, F.bindsN fun _ _ _ _ _ _ us hl => match us, hl with | [_, _, _, _], _ => rfl⟩
end
end L3
end
section
set_option Elab.async false
set_option linter.all false
set_option maxRecDepth 100000
set_option maxHeartbeats 1000000
namespace L3
open PySem PySem.Spec PyProof.Rows L2 PySem.W PySem.Calls Lo
local macro_rules | `(tactic| walk_at "sd") => `(tactic| first | exact .d | rfl | assumption | (with_reducible decide) | omega | exact .nil | exact AllD.nil)
local macro_rules | `(tactic| walk_at "we") => `(tactic| first
  | ((with_reducible refine' we_var ?hv ?_); (case hv => rfl))
  | (with_reducible refine we_int ?_)
  | (with_reducible refine we_op ?_)
  | (with_reducible refine we_str ?_)
  | (with_reducible refine we_isi ?_)
  | (with_reducible refine we_isi2 ?_)
  | (with_reducible refine we_cb ?_)
  | (with_reducible refine we_andV ?_)
  | (with_reducible refine we_orV ?_)
  | (with_reducible refine we_notV ?_)
  | (with_reducible refine we_non ?_)
  | (with_reducible refine we_bl ?_)
  | (with_reducible refine we_if ?_)
  | (with_reducible refine we_un ?_)
  | (with_reducible refine we_cal0 ?_)
  | (with_reducible refine we_cal2 ?_)
  | (with_reducible refine we_calH ?_)
  | (with_reducible refine we_prp ?_)
  | (with_reducible refine we_tup ?_)
  | (with_reducible refine we_chain ?_))
local macro_rules | `(tactic| walk_at "ws") => `(tactic| first
  | (with_reducible refine ws_seq ?_)
  | (with_reducible refine ws_if ?_)
  | (with_reducible refine ws_set ?_)
  | (with_reducible refine ws_ret ?_)
  | (with_reducible refine ws_next ?_)
  | (with_reducible refine ws_drop ?_)
  | (with_reducible refine ws_retN ?_))
local macro_rules | `(tactic| walk_at "wt") => `(tactic| first
  | (with_reducible refine wt_test ?_)
  | (with_reducible refine wt_B ?_)
  | (with_reducible refine wt_and ?_)
  | (with_reducible refine wt_or ?_)
  | (with_reducible refine wt_not ?_))
local macro_rules | `(tactic| walk_at "wr") => `(tactic| first
  | (with_reducible refine wr_addI ?_)
  | (with_reducible refine wr_leI ?_)
  | (with_reducible refine wr_B0 ?_)
  | (with_reducible refine wr_I0 ?_)
  | (with_reducible refine wr_isN ?_)
  | (with_reducible refine wr_notN ?_)
  | (with_reducible refine wr_leS ?_)
  | ((with_reducible refine' wr_ixL ?hv ?_); (case hv => rfl))
  | ((with_reducible refine' wr_ixT ?hv ?_); (case hv => rfl))
  | ((with_reducible refine' wr_ixO ?hv ?hw ?_); (case hv => rfl); (case hw => rfl))
  | ((with_reducible refine' wr_eqD ?h1 ?h2 ?h3 ?h4 ?_); (case h1 => exact .d); (case h2 => exact .d); (case h3 => rfl); (case h4 => rfl))
  | ((with_reducible refine' wr_neD ?h1 ?h2 ?h3 ?h4 ?_); (case h1 => exact .d); (case h2 => exact .d); (case h3 => rfl); (case h4 => rfl)))
local macro_rules | `(tactic| walk_at "da") => `(tactic| first
  | (with_reducible refine ⟨_, rfl, ?_⟩)
  | (with_reducible refine ⟨fun _ => ?_, fun h => Bool.noConfusion h⟩)
  | (with_reducible refine ⟨fun h => Bool.noConfusion h, fun _ => ?_⟩)
  | (with_reducible refine ⟨_, rfl, ?_, ?_⟩)
  | ((with_reducible refine' ⟨_, _, .d, ?h1, ?h2, ?_⟩); (case h1 => walk_at "sd"); (case h2 => rfl))
  | ((with_reducible refine' ⟨_, _, _, .d, ?h1, ?h2, ?h3, ?_⟩); (case h1 => walk_at "sd"); (case h2 => rfl); (case h3 => rfl))
  | (with_reducible refine ⟨fun hk => ?_, fun hk => ?_⟩)
  | (show ∃ d, SV.d _ = SV.d d ∧ _; with_reducible refine ⟨_, rfl, ?_⟩))
local macro_rules | `(tactic| walk_at "lo") => `(tactic| first
  | ((with_reducible show Lo.WE _ _ _ _ _ _); walk_at "we")
  | ((with_reducible show Lo.WA _ _ _ _ _ _); first | (with_reducible refine wa_cons ?_) | (with_reducible refine wa_nil ?_))
  | ((with_reducible show Lo.WS _ _ _ _ _ _); walk_at "ws")
  | ((with_reducible show Lo.WT _ _ _ _ _ _); walk_at "wt")
  | ((with_reducible show Lo.WR _ _ _ _ _ _ _); walk_at "wr")
  | ((with_reducible show Lo.WU _ _ _ _ _ _); (with_reducible refine wu_neg ?_))
  | ((with_reducible show Lo.WC _ _ _ _ _ _); first | ((with_reducible refine' wc_len ?hv ?_); (case hv => rfl)) | (with_reducible refine wc_int ?_))
  | walk_at "da")
local macro_rules | `(tactic| walk_at "wq") => `(tactic| first
  | (with_reducible refine ws_seq (t := tAsg _ _) ?_)
  | (with_reducible refine ws_seq (t := tDrop _) ?_)
  | (with_reducible refine ws_set ?_)
  | (with_reducible refine ws_ret ?_)
  | (with_reducible refine ws_next ?_)
  | (with_reducible refine ws_drop ?_)
  | (with_reducible refine ws_retN ?_))
local macro_rules | `(tactic| walk_at "lq") => `(tactic| first
  | ((with_reducible show Lo.WE _ _ _ _ _ _); walk_at "we")
  | ((with_reducible show Lo.WA _ _ _ _ _ _); first | (with_reducible refine wa_cons ?_) | (with_reducible refine wa_nil ?_))
  | ((with_reducible show Lo.WS _ _ _ _ _ _); walk_at "wq")
  | ((with_reducible show Lo.WT _ _ _ _ _ _); walk_at "wt")
  | ((with_reducible show Lo.WR _ _ _ _ _ _ _); walk_at "wr")
  | ((with_reducible show Lo.WU _ _ _ _ _ _); (with_reducible refine wu_neg ?_))
  | ((with_reducible show Lo.WC _ _ _ _ _ _); first | ((with_reducible refine' wc_len ?hv ?_); (case hv => rfl)) | (with_reducible refine wc_int ?_))
  | walk_at "da")
local macro_rules | `(tactic| walk_at "ws") => `(tactic| (with_reducible refine ws_sub ?_))
local macro_rules | `(tactic| walk_at "wq") => `(tactic| (with_reducible refine ws_sub ?_))
local macro_rules | `(tactic| walk_at "da") => `(tactic| ((with_reducible show ∃ (i : Int) (j : Nat) (ss : List SV), SV.d (D.int _) = SV.d (D.int i) ∧ _); refine ⟨_, _, _, rfl, (rfl : _ = some (OW.lst _)), rfl, ?_⟩))
local macro_rules | `(tactic| walk_at "da") => `(tactic| ((with_reducible show ∃ (k : Nat) (ss : List SV), SV.p _ = SV.p k ∧ _); refine ⟨_, _, rfl, (rfl : _ = some (OW.lst _)), ?_⟩))
local macro_rules | `(tactic| walk_at "we") => `(tactic| (with_reducible refine we_bm ?_))
local macro_rules | `(tactic| walk_at "lo") => `(tactic| ((with_reducible show Lo.WC _ _ (Lo.rLen _) _ [SV.p _] _); refine wc_lenO (rfl : _ = some (OW.lst _)) ?_))
local macro_rules | `(tactic| walk_at "lq") => `(tactic| ((with_reducible show Lo.WC _ _ (Lo.rLen _) _ [SV.p _] _); refine wc_lenO (rfl : _ = some (OW.lst _)) ?_))
local macro_rules | `(tactic| walk_at "da") => `(tactic| ((with_reducible show ∃ (k : Nat) (sr : List SV) (xs : List D), [SV.p _] = SV.p k :: sr ∧ _); refine ⟨_, _, _, rfl, (rfl : _ = some OW.hand), .nil, ?_⟩))
local macro_rules | `(tactic| walk_at "da") => `(tactic| ((with_reducible show ∃ (k : Nat) (sr : List SV) (xs : List D), [SV.p _, SV.d _] = SV.p k :: sr ∧ _); refine ⟨_, _, _, rfl, (rfl : _ = some OW.hand), .cons .nil, ?_⟩))
local macro_rules | `(tactic| walk_at "da") => `(tactic| ((with_reducible show ∃ (k : Nat) (sr : List SV) (xs : List D), [SV.p _, SV.d _, SV.d _] = SV.p k :: sr ∧ _); refine ⟨_, _, _, rfl, (rfl : _ = some OW.hand), .cons (.cons .nil), ?_⟩))
local macro_rules | `(tactic| walk_at "da") => `(tactic| ((with_reducible show ∃ (xs : List D), AllD [] xs ∧ _); refine ⟨_, .nil, ?_⟩))
local macro_rules | `(tactic| walk_at "da") => `(tactic| ((with_reducible show ∃ (xs : List D), AllD [SV.d _] xs ∧ _); refine ⟨_, .cons .nil, ?_⟩))
local macro_rules | `(tactic| walk_at "da") => `(tactic| ((with_reducible show ∃ (xs : List D), AllD [SV.d _, SV.d _] xs ∧ _); refine ⟨_, .cons (.cons .nil), ?_⟩))
local macro_rules | `(tactic| walk_at "da") => `(tactic| ((with_reducible show ∃ (xs : List D), AllD [SV.d _, SV.d _, SV.d _] xs ∧ _); refine ⟨_, .cons (.cons (.cons .nil)), ?_⟩))
local macro_rules | `(tactic| walk_at "da") => `(tactic| ((with_reducible show ∃ (xs : List D), AllD [SV.d _, SV.d _, SV.d _, SV.d _] xs ∧ _); refine ⟨_, .cons (.cons (.cons (.cons .nil))), ?_⟩))
local macro_rules | `(tactic| walk_at "lo") => `(tactic| ((with_reducible show Lo.WO _ _ _ _ _ _); first | (with_reducible refine wo_none ?_) | (with_reducible refine wo_some ?_)))
local macro_rules | `(tactic| walk_at "lq") => `(tactic| ((with_reducible show Lo.WO _ _ _ _ _ _); first | (with_reducible refine wo_none ?_) | (with_reducible refine wo_some ?_)))
local macro_rules | `(tactic| walk_at "da") => `(tactic| first | ((with_reducible refine' takeG ?h ?_); (case h => (constructor <;> omega)); (intro k h0 h1)) | fail "no")
local macro_rules | `(tactic| walk_at "wr") => `(tactic| first | ((with_reducible refine' wr_pow ?h ?_); (case h => exact ⟨by decide, by decide, by decide⟩)) | fail "no")

section
variable {P : Program} {w : World} {K : Frag} {mg : Str → Option Value} {base : Heap} {a : Ad}
local macro_rules | `(tactic| walk_at "we") => `(tactic| first
  | (with_reducible refine we_fr0 (by assumption) ?_)
  | (with_reducible refine we_fr1 (by assumption) ?_)
  | (with_reducible refine we_fr2 (by assumption) ?_)
  | (with_reducible refine we_fr3 (by assumption) ?_))

abbrev F__law_shows : DF := Fv (ι := Fr) (fun i => [i.d, .str i.z, .tup (i.ns.map .int), oi i.cl, oi i.ag]) (fun i => okSt i.z = true ∧ i.ns.length ≤ 1000 ∧ i.ns.Pairwise (· ≤ ·)) (fun i d => d = .bl true) noErr
theorem ok__law_shows {fd} (X : Txt P K mg a) (F : DefAt K "_law_shows" "_law_shows" s__law_shows [] a.f__law_shows fd) : FnOk P w K mg base (L2.CX P w) 3 a.f__law_shows fd ["_law_frame", "_law_name", "_law_nouns", "_law_clause", "_law_agreed"] (SpP (TT K a) F__law_shows) := by
  refine okP (fun i => [some (.d (i.d)), some (.d (.str i.z)), some (.d (.tup (i.ns.map .int))), some (.d (oi i.cl)), some (.d (oi i.ag)), none, none]) F sc__law_shows (fun _ => rfl) fun cdv A outer s H E hr => 
   have hu := hr.units
   ⟨_, 
   (pss_cons (ps_if (PW.pt (pw_or (pt_not (pt_val (pe_callB call_isi (by rfl) X.n_isinstance (by decide +kernel) (pa_cons (pv 0) (pa_cons (pe_glob (v := .ref a.C_Frame) rfl X.g_Frame rfl) pa_nil))))) (pw_or (pt_cmpR (op_neD hu) (pe_fld (pv 0) rfl) (pv 1) (nomark _)) (pw_or (pt_cmpR (op_neD hu) (pe_fld (pv 0) rfl) (pv 2) (nomark _)) (pw_or1 (pt_not (pt_val (pe_callB call_isi (by rfl) X.n_isinstance (by decide +kernel) (pa_cons (pe_fld (pv 0) rfl) (pa_cons (pe_bltn (v := .ty "tuple") rfl X.n_tuple (by decide +kernel) rfl) pa_nil))))))))))
  (pss_one (ps_ret pe_bl))
  pss_nil)
  (pss_cons (ps_if (PW.pt (pw_or (pt_cmpR (op_neD hu) (pe_fld (pv 0) rfl) (pv 3) (nomark _)) (pw_or (pt_cmpR (op_neD hu) (pe_fld (pv 0) rfl) (pv 4) (nomark _)) (pw_or1 (pt_val (pe_callB call_isi (by rfl) X.n_isinstance (by decide +kernel) (pa_cons (pe_fld (pv 0) rfl) (pa_cons (pe_bltn (v := .ty "bool") rfl X.n_bool (by decide +kernel) rfl) pa_nil))))))))
  (pss_one (ps_ret pe_bl))
  pss_nil)
  (pss_cons (ps_set (i := 5) sc__law_shows.nd rfl (Or.inl rfl) (pe_callB cr_sortedI (by rfl) X.n_sorted (by decide +kernel) (pa_cons (pe_op op_addA (pe_callTy call_listA (by rfl) X.n_list (by decide +kernel) (pa_cons (pv 2) pa_nil)) (pe_lc (own := [("_law_role", 6)]) (by rfl) sc__law_shows.nd (pi_seq (pe_tup (pa_cons (pv 3) pa_nil))) (blkOk_by (own := [("_law_role", 6)]) (N := N__law_shows) (sc := defScope s__law_shows) (by decide +kernel)) (fun _ _ _ _ _ => (pg_name (i := 6) sc__law_shows.nd rfl (Or.inl rfl))) (fun _ _ _ _ _ => (pts_one (pt_cmpR op_notN1 (pv 6) pe_non (nomark _)))) (fun _ _ _ _ _ => (pv 6)))) pa_nil)))
  (pss_one (ps_ret (pe_cmpR (op_eqD hu) (pe_prp (pv 0) X.cl_Frame X.pr_Frame_slots (cal_Frame_slots X) hr passL (by rfl)) (pe_callTy call_tupA (by rfl) X.n_tuple (by decide +kernel) (pa_cons (pv 5) pa_nil)) (nomark _))))))), fun b f hp hx => ?_⟩
  dsimp only [CxB, L2.cxOf] at hp ⊢
  obtain ⟨hz, hl, hs⟩ := hp
  refine ws_seq (ws_if ?_)
  refine wt_or (wt_not (wt_B (we_isiC (T := TT K a) ?_)))
  repeat' walk_at "lq"
  refine ⟨f.d, true, .d, .inr ⟨0, _, rfl, tyO X, X.is_Frame_Frame⟩, ?_⟩
  repeat' walk_at "lq"
  refine wr_neD .d .d (okd_str hz) (okd_str hz) ?_
  rw [eqv_str, decide_eq_true rfl]
  repeat' walk_at "lq"
  refine wr_neD .d .d (okd_tup (ints_row _)) (okd_tup (ints_row _)) ?_
  rw [eqv_tup, decide_eq_true rfl]
  repeat' walk_at "lq"
  refine ws_seq (ws_if ?_)
  repeat' walk_at "lq"
  refine wr_neD .d .d (oi_okd _) (oi_okd _) ?_
  rw [eqv_oi, decide_eq_true rfl]
  repeat' walk_at "lq"
  refine wr_neD .d .d (oi_okd _) (oi_okd _) ?_
  rw [eqv_oi, decide_eq_true rfl]
  repeat' walk_at "lq"
  refine ⟨oi f.cl, false, .d, by cases f.cl <;> rfl, by cases f.cl <;> rfl, ?_⟩
  repeat' walk_at "lq"
  refine wc_list (.inr rfl) ?_
  repeat' walk_at "lq"
  refine we_lcff (js := [6]) (by decide) (fun d => !d.isNon) id (wi_seq ?_)
  repeat' walk_at "lo"
  refine ⟨by simp, _, .inr rfl, ?_⟩
  refine ⟨Nat.le_refl _, OwP_nil, (by simp), fun x acc hm => wg_name ?_, ?_⟩
  · repeat' walk_at "lo"
    exact ⟨rfl, fun _ => we_var rfl ⟨rfl, rfl⟩, fun _ => rfl⟩
  have ef : ([oi f.cl].filter fun d => !d.isNon).map id = (match f.cl with | none => [] | some c => [c]).map D.int := by cases f.cl <;> rfl
  rw [ef]
  refine wr_addL .d .d (fun k e => nomatch e) (fun k e => nomatch e) (by rw [List.length_map, List.length_map]; cases f.cl <;> simp <;> omega) ?_
  rw [← List.map_append]
  repeat' walk_at "lo"
  refine wc_sorted fun qs hq hqs => ?_
  repeat' walk_at "lo"
  refine ⟨0, _, rfl, rfl, ⟨f, rfl, hl, fun _ z => z, ?_⟩⟩
  rintro d ⟨ps, hps, rfl⟩
  repeat' walk_at "lo"
  refine wc_tup (.inl rfl) ?_
  refine wr_eqD .d .d (okd_tup (ints_row _)) (okd_tup (ints_row _)) ?_
  rw [eqv_tup]
  refine ⟨_, rfl, bl_post (decide_eq_true ?_)⟩
  cases hc : f.cl with
  | none =>
    rw [hc] at hps hq
    have e : ps = f.ns := hps
    rw [e]
    exact sort_same hs hqs (by simpa using hq.symm)
  | some c =>
    rw [hc] at hps hq
    obtain ⟨h1, h2⟩ : ps.Perm (f.ns ++ [c]) ∧ ps.Pairwise (· ≤ ·) := hps
    exact sort_same h2 hqs (h1.trans hq.symm)
theorem cal__law_shows (X : Txt P K mg a) : Cal P w K mg base 3 a.f__law_shows ["_law_frame", "_law_name", "_law_nouns", "_law_clause", "_law_agreed"] (SpP (TT K a) F__law_shows) [] := by
  obtain ⟨fd, F⟩ := X.F__law_shows
  exact ⟨fd, [], ok__law_shows X F, .nil, F.bindsN fun _ _ _ _ _ _ us hl => match us, hl with | [_, _, _, _, _], _ => rfl⟩
end
end L3
end
section
set_option Elab.async false
set_option linter.all false
set_option maxRecDepth 100000
set_option maxHeartbeats 1000000
namespace L3
open PySem PySem.Spec PyProof.Rows L2 PySem.W PySem.Calls Lo
local macro_rules | `(tactic| walk_at "sd") => `(tactic| first | exact .d | rfl | assumption | (with_reducible decide) | omega | exact .nil | exact AllD.nil)
local macro_rules | `(tactic| walk_at "we") => `(tactic| first
  | ((with_reducible refine' we_var ?hv ?_); (case hv => rfl))
  | (with_reducible refine we_int ?_)
  | (with_reducible refine we_op ?_)
  | (with_reducible refine we_str ?_)
  | (with_reducible refine we_isi ?_)
  | (with_reducible refine we_isi2 ?_)
  | (with_reducible refine we_cb ?_)
  | (with_reducible refine we_andV ?_)
  | (with_reducible refine we_orV ?_)
  | (with_reducible refine we_notV ?_)
  | (with_reducible refine we_non ?_)
  | (with_reducible refine we_bl ?_)
  | (with_reducible refine we_if ?_)
  | (with_reducible refine we_un ?_)
  | (with_reducible refine we_cal0 ?_)
  | (with_reducible refine we_cal2 ?_)
  | (with_reducible refine we_calH ?_)
  | (with_reducible refine we_prp ?_)
  | (with_reducible refine we_tup ?_)
  | (with_reducible refine we_chain ?_))
local macro_rules | `(tactic| walk_at "ws") => `(tactic| first
  | (with_reducible refine ws_seq ?_)
  | (with_reducible refine ws_if ?_)
  | (with_reducible refine ws_set ?_)
  | (with_reducible refine ws_ret ?_)
  | (with_reducible refine ws_next ?_)
  | (with_reducible refine ws_drop ?_)
  | (with_reducible refine ws_retN ?_))
local macro_rules | `(tactic| walk_at "wt") => `(tactic| first
  | (with_reducible refine wt_test ?_)
  | (with_reducible refine wt_B ?_)
  | (with_reducible refine wt_and ?_)
  | (with_reducible refine wt_or ?_)
  | (with_reducible refine wt_not ?_))
local macro_rules | `(tactic| walk_at "wr") => `(tactic| first
  | (with_reducible refine wr_addI ?_)
  | (with_reducible refine wr_leI ?_)
  | (with_reducible refine wr_B0 ?_)
  | (with_reducible refine wr_I0 ?_)
  | (with_reducible refine wr_isN ?_)
  | (with_reducible refine wr_notN ?_)
  | (with_reducible refine wr_leS ?_)
  | ((with_reducible refine' wr_ixL ?hv ?_); (case hv => rfl))
  | ((with_reducible refine' wr_ixT ?hv ?_); (case hv => rfl))
  | ((with_reducible refine' wr_ixO ?hv ?hw ?_); (case hv => rfl); (case hw => rfl))
  | ((with_reducible refine' wr_eqD ?h1 ?h2 ?h3 ?h4 ?_); (case h1 => exact .d); (case h2 => exact .d); (case h3 => rfl); (case h4 => rfl))
  | ((with_reducible refine' wr_neD ?h1 ?h2 ?h3 ?h4 ?_); (case h1 => exact .d); (case h2 => exact .d); (case h3 => rfl); (case h4 => rfl)))
local macro_rules | `(tactic| walk_at "da") => `(tactic| first
  | (with_reducible refine ⟨_, rfl, ?_⟩)
  | (with_reducible refine ⟨fun _ => ?_, fun h => Bool.noConfusion h⟩)
  | (with_reducible refine ⟨fun h => Bool.noConfusion h, fun _ => ?_⟩)
  | (with_reducible refine ⟨_, rfl, ?_, ?_⟩)
  | ((with_reducible refine' ⟨_, _, .d, ?h1, ?h2, ?_⟩); (case h1 => walk_at "sd"); (case h2 => rfl))
  | ((with_reducible refine' ⟨_, _, _, .d, ?h1, ?h2, ?h3, ?_⟩); (case h1 => walk_at "sd"); (case h2 => rfl); (case h3 => rfl))
  | (with_reducible refine ⟨fun hk => ?_, fun hk => ?_⟩)
  | (show ∃ d, SV.d _ = SV.d d ∧ _; with_reducible refine ⟨_, rfl, ?_⟩))
local macro_rules | `(tactic| walk_at "lo") => `(tactic| first
  | ((with_reducible show Lo.WE _ _ _ _ _ _); walk_at "we")
  | ((with_reducible show Lo.WA _ _ _ _ _ _); first | (with_reducible refine wa_cons ?_) | (with_reducible refine wa_nil ?_))
  | ((with_reducible show Lo.WS _ _ _ _ _ _); walk_at "ws")
  | ((with_reducible show Lo.WT _ _ _ _ _ _); walk_at "wt")
  | ((with_reducible show Lo.WR _ _ _ _ _ _ _); walk_at "wr")
  | ((with_reducible show Lo.WU _ _ _ _ _ _); (with_reducible refine wu_neg ?_))
  | ((with_reducible show Lo.WC _ _ _ _ _ _); first | ((with_reducible refine' wc_len ?hv ?_); (case hv => rfl)) | (with_reducible refine wc_int ?_))
  | walk_at "da")
local macro_rules | `(tactic| walk_at "wq") => `(tactic| first
  | (with_reducible refine ws_seq (t := tAsg _ _) ?_)
  | (with_reducible refine ws_seq (t := tDrop _) ?_)
  | (with_reducible refine ws_set ?_)
  | (with_reducible refine ws_ret ?_)
  | (with_reducible refine ws_next ?_)
  | (with_reducible refine ws_drop ?_)
  | (with_reducible refine ws_retN ?_))
local macro_rules | `(tactic| walk_at "lq") => `(tactic| first
  | ((with_reducible show Lo.WE _ _ _ _ _ _); walk_at "we")
  | ((with_reducible show Lo.WA _ _ _ _ _ _); first | (with_reducible refine wa_cons ?_) | (with_reducible refine wa_nil ?_))
  | ((with_reducible show Lo.WS _ _ _ _ _ _); walk_at "wq")
  | ((with_reducible show Lo.WT _ _ _ _ _ _); walk_at "wt")
  | ((with_reducible show Lo.WR _ _ _ _ _ _ _); walk_at "wr")
  | ((with_reducible show Lo.WU _ _ _ _ _ _); (with_reducible refine wu_neg ?_))
  | ((with_reducible show Lo.WC _ _ _ _ _ _); first | ((with_reducible refine' wc_len ?hv ?_); (case hv => rfl)) | (with_reducible refine wc_int ?_))
  | walk_at "da")
local macro_rules | `(tactic| walk_at "ws") => `(tactic| (with_reducible refine ws_sub ?_))
local macro_rules | `(tactic| walk_at "wq") => `(tactic| (with_reducible refine ws_sub ?_))
local macro_rules | `(tactic| walk_at "da") => `(tactic| ((with_reducible show ∃ (i : Int) (j : Nat) (ss : List SV), SV.d (D.int _) = SV.d (D.int i) ∧ _); refine ⟨_, _, _, rfl, (rfl : _ = some (OW.lst _)), rfl, ?_⟩))
local macro_rules | `(tactic| walk_at "da") => `(tactic| ((with_reducible show ∃ (k : Nat) (ss : List SV), SV.p _ = SV.p k ∧ _); refine ⟨_, _, rfl, (rfl : _ = some (OW.lst _)), ?_⟩))
local macro_rules | `(tactic| walk_at "we") => `(tactic| (with_reducible refine we_bm ?_))
local macro_rules | `(tactic| walk_at "lo") => `(tactic| ((with_reducible show Lo.WC _ _ (Lo.rLen _) _ [SV.p _] _); refine wc_lenO (rfl : _ = some (OW.lst _)) ?_))
local macro_rules | `(tactic| walk_at "lq") => `(tactic| ((with_reducible show Lo.WC _ _ (Lo.rLen _) _ [SV.p _] _); refine wc_lenO (rfl : _ = some (OW.lst _)) ?_))
local macro_rules | `(tactic| walk_at "da") => `(tactic| ((with_reducible show ∃ (k : Nat) (sr : List SV) (xs : List D), [SV.p _] = SV.p k :: sr ∧ _); refine ⟨_, _, _, rfl, (rfl : _ = some OW.hand), .nil, ?_⟩))
local macro_rules | `(tactic| walk_at "da") => `(tactic| ((with_reducible show ∃ (k : Nat) (sr : List SV) (xs : List D), [SV.p _, SV.d _] = SV.p k :: sr ∧ _); refine ⟨_, _, _, rfl, (rfl : _ = some OW.hand), .cons .nil, ?_⟩))
local macro_rules | `(tactic| walk_at "da") => `(tactic| ((with_reducible show ∃ (k : Nat) (sr : List SV) (xs : List D), [SV.p _, SV.d _, SV.d _] = SV.p k :: sr ∧ _); refine ⟨_, _, _, rfl, (rfl : _ = some OW.hand), .cons (.cons .nil), ?_⟩))
local macro_rules | `(tactic| walk_at "da") => `(tactic| ((with_reducible show ∃ (xs : List D), AllD [] xs ∧ _); refine ⟨_, .nil, ?_⟩))
local macro_rules | `(tactic| walk_at "da") => `(tactic| ((with_reducible show ∃ (xs : List D), AllD [SV.d _] xs ∧ _); refine ⟨_, .cons .nil, ?_⟩))
local macro_rules | `(tactic| walk_at "da") => `(tactic| ((with_reducible show ∃ (xs : List D), AllD [SV.d _, SV.d _] xs ∧ _); refine ⟨_, .cons (.cons .nil), ?_⟩))
local macro_rules | `(tactic| walk_at "da") => `(tactic| ((with_reducible show ∃ (xs : List D), AllD [SV.d _, SV.d _, SV.d _] xs ∧ _); refine ⟨_, .cons (.cons (.cons .nil)), ?_⟩))
local macro_rules | `(tactic| walk_at "da") => `(tactic| ((with_reducible show ∃ (xs : List D), AllD [SV.d _, SV.d _, SV.d _, SV.d _] xs ∧ _); refine ⟨_, .cons (.cons (.cons (.cons .nil))), ?_⟩))
local macro_rules | `(tactic| walk_at "lo") => `(tactic| ((with_reducible show Lo.WO _ _ _ _ _ _); first | (with_reducible refine wo_none ?_) | (with_reducible refine wo_some ?_)))
local macro_rules | `(tactic| walk_at "lq") => `(tactic| ((with_reducible show Lo.WO _ _ _ _ _ _); first | (with_reducible refine wo_none ?_) | (with_reducible refine wo_some ?_)))
local macro_rules | `(tactic| walk_at "da") => `(tactic| first | ((with_reducible refine' takeG ?h ?_); (case h => (constructor <;> omega)); (intro k h0 h1)) | fail "no")
local macro_rules | `(tactic| walk_at "wr") => `(tactic| first | ((with_reducible refine' wr_pow ?h ?_); (case h => exact ⟨by decide, by decide, by decide⟩)) | fail "no")

/-- small data without parts -/
def sm (d : D) : Prop := d.flat = true ∧ d.shw = true ∧ d.rb ≤ 1922 ∧ d.isO = false
theorem sm_row : ∀ {xs : List D}, (∀ x ∈ xs, sm x) → D.shwL xs = true ∧ D.rbL xs ≤ 1924 * xs.length ∧ PyData.depthAll (D.pyL xs) = 0
  | [], _ => ⟨rfl, Nat.le_refl _, rfl⟩
  | x :: xs, h => by
    obtain ⟨h1, h2, h3, _⟩ := h x (by simp)
    obtain ⟨k1, k2, k3⟩ := sm_row (xs := xs) fun y m => h y (by simp [m])
    refine ⟨?_, ?_, ?_⟩
    · show (x.shw && D.shwL xs) = true
      rw [h2, k1]; rfl
    · show x.rb + 2 + D.rbL xs ≤ 1924 * (xs.length + 1)
      omega
    · show max x.py.depth (PyData.depthAll (D.pyL xs)) = 0
      rw [k3]
      cases x <;> first | rfl | (cases h1; done)
/-- a row of such, or one of such -/
def sm2 (d : D) : Prop := d.isO = false ∧ d.shw = true ∧ d.rb ≤ 20000 ∧ d.py.depth ≤ 1
theorem sm2_of {d : D} (h : sm d) : sm2 d := by
  obtain ⟨h1, h2, h3, h4⟩ := h
  refine ⟨h4, h2, by omega, ?_⟩
  cases d <;> first | exact Nat.zero_le _ | (cases h1; done)
theorem sm2_lst {xs : List D} (h : ∀ x ∈ xs, sm x) (l : xs.length ≤ 10) : sm2 (.lst xs) := by
  obtain ⟨k1, k2, k3⟩ := sm_row h
  refine ⟨rfl, k1, ?_, ?_⟩
  · show D.rbL xs + 4 ≤ 20000
    omega
  · show PyData.depthAll (D.pyL xs) + 1 ≤ 1
    omega
theorem sm2_tup {xs : List D} (h : ∀ x ∈ xs, sm x) (l : xs.length ≤ 10) : sm2 (.tup xs) := by
  obtain ⟨k1, k2, k3⟩ := sm_row h
  refine ⟨rfl, k1, ?_, ?_⟩
  · show D.rbL xs + 4 ≤ 20000
    omega
  · show PyData.depthAll (D.pyL xs) + 1 ≤ 1
    omega
theorem sm_int {n : Int} (h : n.natAbs < 2 ^ 100) : sm (.int n) := ⟨rfl, decide_eq_true (by have := log2_le h; omega), Nat.le_refl _, rfl⟩
theorem sm_non : sm .non := ⟨rfl, rfl, by decide, rfl⟩
theorem sm_role {d : D} (h : d = .non ∨ noRole d) : sm d := by
  rcases h with rfl | ⟨h1, h2, h3, h4, h5, _⟩
  · exact sm_non
  · exact ⟨h1, h4, h5, h3⟩
theorem sm_ints {ns : List Int} (h : ∀ n ∈ ns, 0 ≤ n ∧ n ≤ 5) : ∀ x ∈ ns.map D.int, sm x := fun x m => by
  obtain ⟨n, hn, rfl⟩ := List.mem_map.mp m
  have := h n hn
  exact sm_int (by omega)
theorem okn_flat {d : D} (ho : d.isO = false) (h : ∀ xs, items d = some xs → ∀ x ∈ xs, sm x) : okNouns d := ⟨ho, fun xs e x m => (h xs e x m).2.2.2⟩
theorem chain_pw : ∀ {xs : List Int} {last : Int}, chain last (xs.map .int) = true → xs.Pairwise (· < ·) ∧ ∀ x ∈ xs, last < x ∧ x ≤ 5
  | [], _, _ => ⟨.nil, fun _ h => nomatch h⟩
  | x :: r, last, h => by
    have h' : ((decide (last + 1 ≤ x) && decide (x ≤ 5)) && chain x (r.map .int)) = true := h
    simp only [Bool.and_eq_true, decide_eq_true_eq] at h'
    obtain ⟨⟨h1, h2⟩, h3⟩ := h'
    obtain ⟨k1, k2⟩ := chain_pw h3
    refine ⟨List.pairwise_cons.mpr ⟨fun y hy => (k2 y hy).1, k1⟩, fun y hy => ?_⟩
    rcases List.mem_cons.mp hy with rfl | hy
    · omega
    · have := k2 y hy
      omega
theorem chain_of : ∀ {xs : List Int} {last : Int}, xs.Pairwise (· < ·) → (∀ x ∈ xs, last < x ∧ x ≤ 5) → chain last (xs.map .int) = true
  | [], _, _, _ => rfl
  | x :: r, last, h, k => by
    show ((decide (last + 1 ≤ x) && decide (x ≤ 5)) && chain x (r.map .int)) = true
    have h1 := k x (by simp)
    have h2 := List.pairwise_cons.mp h
    rw [chain_of h2.2 fun y hy => ⟨h2.1 y hy, (k y (by simp [hy])).2⟩, decide_eq_true (by omega), decide_eq_true h1.2]
    rfl
theorem nouns_no {t : D} (h : chain (-1) ((items t).getD []) = false) : areNouns t = false := by
  unfold areNouns
  rw [h, Bool.and_false]
theorem chain_role {d : D} {xs : List D} (h : d = .non ∨ noRole d) : chain (-1) (d :: xs) = false := by
  rcases h with rfl | ⟨h1, h2, h3, h4, h5, h6, h7⟩
  · rfl
  · cases d with
    | int n =>
      show (isWhole (.int n) (some 0) (some 5) && chain n xs) = false
      rw [h7]; rfl
    | _ => rfl
local macro_rules | `(tactic| walk_at "lo") => `(tactic| ((with_reducible show Lo.WC _ _ (rListA _) _ [SV.d (D.lst _)] _); refine wc_list (.inl rfl) ?_))
local macro_rules | `(tactic| walk_at "lo") => `(tactic| ((with_reducible show Lo.WC _ _ (rListA _) _ [SV.d (D.tup _)] _); refine wc_list (.inr rfl) ?_))
local macro_rules | `(tactic| walk_at "lo") => `(tactic| ((with_reducible show Lo.WC _ _ (rTupA _) _ [SV.d (D.lst _)] _); refine wc_tup (.inl rfl) ?_))
local macro_rules | `(tactic| walk_at "lo") => `(tactic| ((with_reducible show Lo.WC _ _ (rTupA _) _ [SV.d (D.tup _)] _); refine wc_tup (.inr rfl) ?_))
local macro_rules | `(tactic| walk_at "lo") => `(tactic| ((with_reducible show Lo.WE _ _ (tLst (tCons _ _)) _ _ _); refine we_lst ?_))
local macro_rules | `(tactic| walk_at "lo") => `(tactic| ((with_reducible show List.length _ ≤ 100000 ∧ _); first | (refine ⟨(by simp), ?_⟩) | fail "no"))
local macro_rules | `(tactic| walk_at "lo") => `(tactic| ((with_reducible show ∃ (xs : List D), AllD [SV.d _, SV.d _, SV.d _, SV.d _, SV.d _, SV.d _] xs ∧ _); refine ⟨_, .cons (.cons (.cons (.cons (.cons (.cons .nil))))), ?_⟩))
local macro_rules | `(tactic| walk_at "lo") => `(tactic| ((with_reducible show ∃ (xs : List D), AllD [SV.d _, SV.d _, SV.d _, SV.d _, SV.d _] xs ∧ _); refine ⟨_, .cons (.cons (.cons (.cons (.cons .nil)))), ?_⟩))

section
variable {P : Program} {w : World} {K : Frag} {mg : Str → Option Value} {base : Heap} {a : Ad}
abbrev F__law_no_nouns : DF := Fv (ι := List Int) (fun i => [.tup (i.map .int)]) (fun i => 1 ≤ i.length ∧ i.length ≤ 5 ∧ ∀ n ∈ i, 0 ≤ n ∧ n ≤ 5) (fun i d => areNouns d = false ∧ okNouns d ∧ sm2 d) noErr
theorem ok__law_no_nouns {fd} (X : Txt P K mg a) (F : DefAt K "_law_no_nouns" "_law_no_nouns" s__law_no_nouns [] a.f__law_no_nouns fd) : FnOk P w K mg base (L2.CX P w) 4 a.f__law_no_nouns fd ["_law_hand_here", "_law_nouns"] (SpH (TT K a) F__law_no_nouns) := by
  refine okH (fun i => [some (.p 0), some (.d (.tup (i.map .int))), none]) F sc__law_no_nouns (fun _ => rfl) fun cdv A outer s H E hr => 
   have hu := hr.units
   ⟨_, 
   (pss_cons (ps_set (i := 2) sc__law_no_nouns.nd rfl (Or.inl rfl) (pe_cal X.A__law_take (cal__law_take X) hr (by rfl) passL (pa_cons (pv 0) (pa_cons pe_int pa_nil))))
  (pss_cons (ps_if (pt_cmpR (op_eqD hu) (pv 2) pe_int (nomark _))
  (pss_one (ps_ret pe_non))
  pss_nil)
  (pss_cons (ps_if (pt_cmpR (op_eqD hu) (pv 2) pe_int (nomark _))
  (pss_one (ps_ret (pe_lst pa_nil)))
  pss_nil)
  (pss_cons (ps_if (pt_cmpR (op_eqD hu) (pv 2) pe_int (nomark _))
  (pss_one (ps_ret (pe_tup (pa_cons pe_int (pa_cons pe_int (pa_cons pe_int (pa_cons pe_int (pa_cons pe_int (pa_cons pe_int pa_nil)))))))))
  pss_nil)
  (pss_cons (ps_if (pt_cmpR (op_eqD hu) (pv 2) pe_int (nomark _))
  (pss_one (ps_ret (pe_op op_addA (pe_callTy call_listA (by rfl) X.n_list (by decide +kernel) (pa_cons (pv 1) pa_nil)) (pe_lst (pa_cons (pe_ix ix_any (pv 1) (pe_cal X.A__law_take (cal__law_take X) hr (by rfl) passL (pa_cons (pv 0) (pa_cons (pe_callB call_lenA (by rfl) X.n_len PySem.boot_len (pa_cons (pv 1) pa_nil)) pa_nil))) (fun _ _ => rfl)) pa_nil)))))
  pss_nil)
  (pss_cons (ps_if (pt_cmpR (op_eqD hu) (pv 2) pe_int (nomark _))
  (pss_one (ps_ret (pe_op op_addA (pe_lst (pa_cons (pe_cal X.A__law_no_role (cal__law_no_role X) hr (by rfl) passL (pa_cons (pv 0) (pa_cons pe_int pa_nil))) pa_nil)) (pe_callTy call_listA (by rfl) X.n_list (by decide +kernel) (pa_cons (pv 1) pa_nil)))))
  pss_nil)
  (pss_cons (ps_if (pt_cmpR (op_eqD hu) (pv 2) pe_int (nomark _))
  (pss_one (ps_ret (pe_op op_addA (pe_callTy call_listA (by rfl) X.n_list (by decide +kernel) (pa_cons (pv 1) pa_nil)) (pe_lst (pa_cons (pe_op op_addA pe_int (pe_cal X.A__law_take (cal__law_take X) hr (by rfl) passL (pa_cons (pv 0) (pa_cons pe_int pa_nil)))) pa_nil)))))
  pss_nil)
  (pss_one (ps_ret (pe_op op_addA (pe_lst (pa_cons pe_int pa_nil)) (pe_callTy call_listA (by rfl) X.n_list (by decide +kernel) (pa_cons (pv 1) pa_nil)))))))))))), fun b ns hp => ?_⟩
  dsimp only [CxB, L2.cxOf] at hp ⊢
  obtain ⟨hl0, hl, hb⟩ := hp
  have hll : (ns.map D.int).length = ns.length := List.length_map ..
  have sn := sm_ints hb
  have app : ∀ (xs : List D), (∀ x ∈ xs, sm x) → xs.length ≤ 10 → chain (-1) xs = false → areNouns (.lst xs) = false ∧ okNouns (.lst xs) ∧ sm2 (.lst xs) := fun xs h l c => ⟨nouns_no c, okn_flat rfl (fun ys e => by cases e; exact h), sm2_lst h l⟩
  repeat' walk_at "lo"
  · exact ⟨rfl, _, rfl, rfl, okn_flat rfl (fun ys e => nomatch e), sm2_of sm_non⟩
  · refine we_lst ?_
    repeat' walk_at "lo"
    exact ⟨rfl, _, rfl, rfl, okn_flat rfl (fun ys e => by cases e; exact fun x h => nomatch h), sm2_lst (fun x h => nomatch h) (by decide)⟩
  · have e : [D.int 0, D.int 1, D.int 2, D.int 3, D.int 4, D.int 5] = [0, 1, 2, 3, 4, 5].map D.int := rfl
    rw [e]
    have h : ∀ x ∈ [(0 : Int), 1, 2, 3, 4, 5].map D.int, sm x := sm_ints (by decide)
    exact ⟨rfl, _, rfl, rfl, okn_flat rfl (fun ys e => by cases e; exact h), sm2_tup h (by decide)⟩
  · rename_i k h0 h1
    obtain ⟨m, hm, em⟩ := ix_get (xs := ns) h0 (by omega)
    refine wr_ixT (atI_map em) ?_
    repeat' walk_at "lo"
    refine wr_addL .d .d (fun k e => nomatch e) (fun k e => nomatch e) (by simp; omega) ?_
    have e : ns.map D.int ++ [D.int m] = (ns ++ [m]).map D.int := by simp
    rw [e]
    have hb2 : ∀ n ∈ ns ++ [m], 0 ≤ n ∧ n ≤ 5 := fun n hn => by
      rcases List.mem_append.mp hn with hn | hn
      · exact hb n hn
      · rw [List.mem_singleton.mp hn]
        exact hb m hm
    refine ⟨rfl, _, rfl, app _ (sm_ints hb2) (by simp; omega) ?_⟩
    cases hc : chain (-1) ((ns ++ [m]).map .int) with
    | false => rfl
    | true =>
      have := (List.pairwise_append.mp (chain_pw hc).1).2.2 m hm m (by simp)
      omega
  · refine ⟨(), rfl, trivial, fun _ z => z, ?_⟩
    rintro d hd
    repeat' walk_at "lo"
    refine wr_addL .d .d (fun k e => nomatch e) (fun k e => nomatch e) (by simp; omega) ?_
    refine ⟨rfl, _, rfl, app _ (fun x hx => ?_) (by simp; omega) (chain_role hd)⟩
    rcases List.mem_cons.mp hx with rfl | hx
    · exact sm_role hd
    · exact sn x hx
  · rename_i k h0 h1
    refine wr_addL .d .d (fun k e => nomatch e) (fun k e => nomatch e) (by simp; omega) ?_
    have e : ns.map D.int ++ [D.int (6 + k)] = (ns ++ [6 + k]).map D.int := by simp
    refine ⟨rfl, _, rfl, app _ (fun x hx => ?_) (by simp; omega) ?_⟩
    · rcases List.mem_append.mp hx with hx | hx
      · exact sn x hx
      · rw [List.mem_singleton.mp hx]
        exact sm_int (by omega)
    · rw [e]
      cases hc : chain (-1) ((ns ++ [6 + k]).map .int) with
      | false => rfl
      | true =>
        have := (chain_pw hc).2 (6 + k) (by simp)
        omega
  · refine wr_addL .d .d (fun k e => nomatch e) (fun k e => nomatch e) (by simp; omega) ?_
    have e : [D.int 5] ++ ns.map D.int = (5 :: ns).map D.int := rfl
    rw [e]
    have hb2 : ∀ n ∈ 5 :: ns, 0 ≤ n ∧ n ≤ 5 := fun n hn => by
      rcases List.mem_cons.mp hn with rfl | hn
      · decide
      · exact hb n hn
    refine ⟨rfl, _, rfl, app _ (sm_ints hb2) (by simp; omega) ?_⟩
    cases hc : chain (-1) ((5 :: ns).map .int) with
    | false => rfl
    | true =>
      obtain ⟨m, hm⟩ : ∃ m, m ∈ ns := by
        cases ns with
        | nil => simp at hl0
        | cons m r => exact ⟨m, by simp⟩
      have h1 := (List.pairwise_cons.mp (chain_pw hc).1).1 m hm
      have h2 := (hb m hm).2
      omega
theorem cal__law_no_nouns (X : Txt P K mg a) : Cal P w K mg base 4 a.f__law_no_nouns ["_law_hand_here", "_law_nouns"] (SpH (TT K a) F__law_no_nouns) [] := by
  obtain ⟨fd, F⟩ := X.F__law_no_nouns
  exact ⟨fd, [], ok__law_no_nouns X F, .nil, F.bindsN fun _ _ _ _ _ _ us hl => match us, hl with | [_, _], _ => rfl⟩
end
end L3
end
section
set_option Elab.async false
set_option linter.all false
set_option maxRecDepth 100000
set_option maxHeartbeats 1000000
namespace L3
open PySem PySem.Spec PyProof.Rows L2 PySem.W PySem.Calls Lo
theorem in_ints (i : Int) : ∀ ns : List Int, (D.int i).inF (ns.map .int) = decide (i ∈ ns)
  | [] => rfl
  | n :: r => by
    have ih := in_ints i r
    show ((n == i) || (D.int i).inF (r.map .int)) = _
    rw [ih]
    by_cases h : n = i
    · subst h
      simp
    · have e : (n == i) = false := beq_eq_false_iff_ne.mpr h
      have h' : ¬ i = n := fun z => h z.symm
      rw [e]
      simp [h']
theorem pw_lt : ∀ {ps : List Int}, ps.Pairwise (· ≤ ·) → ps.Nodup → ps.Pairwise (· < ·)
  | [], _, _ => .nil
  | x :: r, h, n => by
    have h' := List.pairwise_cons.mp h
    have n' := List.nodup_cons.mp n
    refine List.pairwise_cons.mpr ⟨fun y hy => ?_, pw_lt h'.2 n'.2⟩
    have := h'.1 y hy
    have ne : x ≠ y := fun z => n'.1 (z ▸ hy)
    omega
/-- what _law_some draws of the six roles -/
theorem some_six {qs ps : List Int} {m : Nat} (hq : qs.Perm [0, 1, 2, 3, 4, 5]) (hp : ps.Perm (qs.take m)) (hs : ps.Pairwise (· ≤ ·)) (h1 : 1 ≤ m) (h5 : m ≤ 5) :
    ps.Pairwise (· < ·) ∧ (∀ n ∈ ps, 0 ≤ n ∧ n ≤ 5) ∧ ps.length = m ∧ ∃ r ∈ [(0 : Int), 1, 2, 3, 4, 5], r ∉ ps := by
  have nq : qs.Nodup := hq.nodup_iff.mpr (by decide)
  have lq : qs.length = 6 := hq.length_eq
  have nt : (qs.take m).Nodup := nq.sublist (List.take_sublist _ _)
  have sub : ∀ n ∈ ps, n ∈ qs := fun n h => List.mem_of_mem_take (hp.subset h)
  refine ⟨pw_lt hs (hp.nodup_iff.mpr nt), fun n h => ?_, by rw [hp.length_eq, List.length_take]; omega, ?_⟩
  · have := hq.subset (sub n h)
    simp only [List.mem_cons, List.not_mem_nil, or_false] at this
    omega
  · have h5' : 5 < qs.length := by omega
    refine ⟨qs[5], hq.subset (List.getElem_mem _), fun h => ?_⟩
    have h' := hp.subset h
    obtain ⟨i, hi, e⟩ := List.mem_iff_getElem.mp h'
    rw [List.length_take] at hi
    rw [List.getElem_take] at e
    have := (List.getElem_inj nq).mp e
    omega
theorem name_of {cs : List Nat} (h1 : 1 ≤ cs.length) (h8 : cs.length ≤ 8) (hc : ∀ c ∈ cs, 97 ≤ c ∧ c ≤ 122) : isName (.str (SX.S cs)) 8 = true ∧ okSt (SX.S cs) = true := by
  have hl : (SX.S cs).length = cs.length := SX.S_len cs
  refine ⟨?_, ?_⟩
  · show (decide (1 ≤ ((SX.S cs).length : Int)) && (decide (((SX.S cs).length : Int) ≤ 8) && lett (SX.S cs))) = true
    have e : lett (SX.S cs) = true := by
      show (cs.all fun c => decide (97 ≤ c) && decide (c ≤ 122)) = true
      rw [List.all_eq_true]
      intro c m
      have := hc c m
      simp [this]
    rw [hl, e, decide_eq_true (by omega), decide_eq_true (by omega)]
    rfl
  · show (cs.toArray.all (· < 0x110000)) = true
    rw [Array.all_eq_true']
    intro c m
    have := hc c (by simpa using m)
    have : c < 0x110000 := by omega
    simpa using this
theorem len_tl (z : Str) : z.length = z.cps.toList.length := by
  show z.cps.size = _
  simp
theorem isName_iff {z : Str} (h1 : 1 ≤ z.length) (h8 : z.length ≤ 8) (hl : lett z = true) : isName (.str z) 8 = true := by
  show (decide (1 ≤ (z.length : Int)) && (decide ((z.length : Int) ≤ 8) && lett z)) = true
  rw [hl, decide_eq_true (by omega), decide_eq_true (by omega)]
  rfl
theorem ok_lett {z : Str} (hl : lett z = true) : okSt z = true := by
  have h : (z.cps.toList.all fun c => decide (97 ≤ c) && decide (c ≤ 122)) = true := hl
  rw [List.all_eq_true] at h
  show (z.cps.all (· < 0x110000)) = true
  rw [Array.all_eq_true']
  intro c m
  have := h c (by simpa using m)
  simp only [Bool.and_eq_true, decide_eq_true_eq] at this
  have : c < 0x110000 := by omega
  simpa using this
theorem isName_lett {z : Str} {m : Int} (h : isName (.str z) m = true) : lett z = true := by
  have h' : (decide (1 ≤ (z.length : Int)) && (decide ((z.length : Int) ≤ m) && lett z)) = true := h
  simp only [Bool.and_eq_true] at h'
  exact h'.2.2
theorem lett_cat (x y : Str) : lett (x ++ y) = (lett x && lett y) := by
  show ((x ++ y).cps.toList.all _) = _
  have e : (x ++ y).cps.toList = x.cps.toList ++ y.cps.toList := TL.tl_append x y
  rw [e, List.all_append]
  rfl
theorem len_cat (x y : Str) : (x ++ y).length = x.length + y.length := by
  show (x.cps ++ y.cps).size = _
  rw [Array.size_append]
  rfl
theorem tl_cut1 {z : Str} (h : 1 ≤ z.length) : (cutS z (some 1) none).cps.toList = z.cps.toList.drop 1 := by
  have e1 : HT.sIx z.length 0 (some (1 : Int)) = 1 := by
    have := HT.sIx_nat z.length 0 1
    rw [Nat.min_eq_left h] at this
    exact this
  have e2 : HT.sIx z.length z.length none = z.length := rfl
  unfold cutS
  rw [e1, e2]
  show ((z.cps.toList.drop 1).take (z.length - 1)).toArray.toList = _
  rw [List.toList_toArray, List.take_of_length_le]
  rw [List.length_drop, len_tl]
  exact Nat.le_refl _
theorem len_cut1 {z : Str} (h : 1 ≤ z.length) : (cutS z (some 1) none).length = z.length - 1 := by
  rw [len_tl, tl_cut1 h, List.length_drop, ← len_tl]
theorem lett_cut1 {z : Str} (h : 1 ≤ z.length) (hl : lett z = true) : lett (cutS z (some 1) none) = true := by
  show ((cutS z (some 1) none).cps.toList.all _) = true
  rw [tl_cut1 h, List.all_eq_true]
  intro c m
  have h : (z.cps.toList.all fun c => decide (97 ≤ c) && decide (c ≤ 122)) = true := hl
  exact (List.all_eq_true.mp h) c (List.mem_of_mem_drop m)
theorem ok_cat {x y : Str} (hx : okSt x = true) (hy : okSt y = true) : okSt (x ++ y) = true := by
  show ((x.cps ++ y.cps).all (· < 0x110000)) = true
  rw [Array.all_append]
  have h1 : (x.cps.all (· < 0x110000)) = true := hx
  have h2 : (y.cps.all (· < 0x110000)) = true := hy
  rw [h1, h2]
  rfl
/-- a right frame's parts -/
structure Good (z : Str) (ns : List Int) (cl ag : Option Int) : Prop where
  nm : isName (.str z) 8 = true
  ok : okSt z = true
  up : ns.Pairwise (· < ·)
  rg : ∀ n ∈ ns, 0 ≤ n ∧ n ≤ 5
  l1 : 1 ≤ ns.length
  l5 : ns.length ≤ 5
  c : ∀ c, cl = some c → 0 ≤ c ∧ c ≤ 5 ∧ c ∉ ns
  g : ∀ c, ag = some c → c ∈ ns
theorem isName_len {z : Str} (h : isName (.str z) 8 = true) : 1 ≤ z.length ∧ z.length ≤ 8 := by
  have h' : (decide (1 ≤ (z.length : Int)) && (decide ((z.length : Int) ≤ 8) && lett z)) = true := h
  simp only [Bool.and_eq_true, decide_eq_true_eq] at h'
  omega
theorem are_of {ns : List Int} (up : ns.Pairwise (· < ·)) (rg : ∀ n ∈ ns, 0 ≤ n ∧ n ≤ 5) (l1 : 1 ≤ ns.length) (l5 : ns.length ≤ 5) {t : D} (ht : t = .lst (ns.map .int) ∨ t = .tup (ns.map .int)) : areNouns t = true := by
  have e : items t = some (ns.map .int) := by rcases ht with rfl | rfl <;> rfl
  unfold areNouns
  have r : isRow t 1 5 = true := by
    unfold isRow
    rw [e]
    show (decide (1 ≤ ((ns.map D.int).length : Int)) && decide (((ns.map D.int).length : Int) ≤ 5)) = true
    rw [List.length_map, decide_eq_true (by omega), decide_eq_true (by omega)]
    rfl
  rw [r, e]
  exact chain_of up fun x hx => by have := rg x hx; omega
theorem clause_of {t : D} {ns : List Int} (e : items t = some (ns.map .int)) {cl : Option Int} (h : ∀ c, cl = some c → 0 ≤ c ∧ c ≤ 5 ∧ c ∉ ns) : badClause t (oi cl) = false := by
  cases cl with
  | none => rfl
  | some c =>
    obtain ⟨h1, h2, h3⟩ := h c rfl
    show (true && (!(decide (0 ≤ c) && decide (c ≤ 5)) || (D.int c).inF ((items t).getD []))) = false
    rw [e]
    show (true && (!(decide (0 ≤ c) && decide (c ≤ 5)) || (D.int c).inF (ns.map .int))) = false
    rw [in_ints, decide_eq_true h1, decide_eq_true h2, decide_eq_false h3]
    rfl
theorem agreed_of {t : D} {ns : List Int} (e : items t = some (ns.map .int)) {ag : Option Int} (h : ∀ c, ag = some c → c ∈ ns) : badAgreed t (oi ag) = false := by
  cases ag with
  | none => rfl
  | some c =>
    show (true && !(true && (D.int c).inF ((items t).getD []))) = false
    rw [e]
    show (true && !(true && (D.int c).inF (ns.map .int))) = false
    rw [in_ints, decide_eq_true (h c rfl)]
    rfl
theorem its_of {t : D} {ns : List Int} (ht : t = .lst (ns.map .int) ∨ t = .tup (ns.map .int)) : items t = some (ns.map .int) := by rcases ht with rfl | rfl <;> rfl
theorem Good.fr {z : Str} {ns : List Int} {cl ag : Option Int} (h : Good z ns cl ag) {t : D} (ht : t = .lst (ns.map .int) ∨ t = .tup (ns.map .int)) : frW (.str z) t (oi cl) (oi ag) = none := by
  unfold frW
  rw [h.nm, are_of h.up h.rg h.l1 h.l5 ht, clause_of (its_of ht) h.c, agreed_of (its_of ht) h.g]
  rfl
theorem okn_ints {ns : List Int} {t : D} (ht : t = .lst (ns.map .int) ∨ t = .tup (ns.map .int)) : okNouns t := by
  refine ⟨by rcases ht with rfl | rfl <;> rfl, fun xs e x m => ?_⟩
  rw [its_of ht] at e
  cases e
  obtain ⟨n, _, rfl⟩ := List.mem_map.mp m
  rfl
theorem oks_str {z : Str} (h : z.length ≤ 100000) : okStr (.str z) := ⟨rfl, fun y e => by cases e; exact h⟩
theorem oi_o (x : Option Int) : (oi x).isO = false := by cases x <;> rfl
theorem Good.pre {z : Str} {ns : List Int} {cl ag : Option Int} (h : Good z ns cl ag) {t : D} (ht : t = .lst (ns.map .int) ∨ t = .tup (ns.map .int)) : okStr (.str z) ∧ okNouns t ∧ (oi cl).isO = false ∧ (oi ag).isO = false :=
  ⟨oks_str (by have := isName_len h.nm; omega), okn_ints ht, oi_o cl, oi_o ag⟩
theorem Fr.eq_self (f : Fr) : f.eq f = true := by
  unfold Fr.eq
  simp
theorem Fr.ne_z {f g : Fr} (h : f.z ≠ g.z) : f.eq g = false := by
  unfold Fr.eq
  rw [decide_eq_false h]
  rfl
theorem Fr.ne_ns {f g : Fr} (h : f.ns ≠ g.ns) : f.eq g = false := by
  unfold Fr.eq
  rw [decide_eq_false h, Bool.false_and, Bool.and_false]
theorem Good.name {z y : Str} {ns : List Int} (h : Good z ns none none) (h1 : 1 ≤ y.length) (h8 : y.length ≤ 8) (hl : lett y = true) : Good y ns none none :=
  ⟨isName_iff h1 h8 hl, ok_lett hl, h.up, h.rg, h.l1, h.l5, (fun c e => nomatch e), (fun c e => nomatch e)⟩
theorem Good.drop1 {z : Str} {ns : List Int} (h : Good z ns none none) (hl : 1 < ns.length) : Good z (ns.drop 1) none none :=
  ⟨h.nm, h.ok, h.up.sublist (List.drop_sublist _ _), fun n m => h.rg n (List.mem_of_mem_drop m), by rw [List.length_drop]; omega, by rw [List.length_drop]; have := h.l5; omega, (fun c e => nomatch e), (fun c e => nomatch e)⟩
def Fr.of (z : Str) (ns : List Int) (cl ag : Option Int) : Fr := ⟨z, ns, cl, ag⟩
section
variable {P : Program} {w : World} {K : Frag} {mg : Str → Option Value} {base : Heap} {a : Ad} {b : Bd} {own : List OW} {ds : List (Option SV)} {Q : PSv}
theorem Good.goes {z : Str} {ns : List Int} {cl ag : Option Int} (h : Good z ns cl ag) {t : D} (ht : t = .lst (ns.map .int) ∨ t = .tup (ns.map .int)) {R : D → Prop} (r : R (Fr.of z ns cl ag).d) :
    Goes (fun i : D × D × D × D => [i.1, i.2.1, i.2.2.1, i.2.2.2]) (fun i => okStr i.1 ∧ okNouns i.2.1 ∧ i.2.2.1.isO = false ∧ i.2.2.2.isO = false)
      (fun i d => frW i.1 i.2.1 i.2.2.1 i.2.2.2 = none ∧ d = .obj 0 [i.1, .tup ((items i.2.1).getD []), i.2.2.1, i.2.2.2]) (fun i e => ∃ wd, frW i.1 i.2.1 i.2.2.1 i.2.2.2 = some wd ∧ e = frE wd) [.str z, t, oi cl, oi ag] (fun d => (∃ fs, d = .obj 0 fs) ∧ R d) := by
  refine ⟨(.str z, t, oi cl, oi ag), rfl, h.pre ht, fun e ⟨wd, e1, _⟩ => ?_, ?_⟩
  · rw [h.fr ht] at e1
    cases e1
  · rintro d ⟨_, rfl⟩
    refine ⟨⟨_, rfl⟩, ?_⟩
    show R (.obj 0 [.str z, .tup ((items t).getD []), oi cl, oi ag])
    rw [its_of ht]
    exact r
theorem we_frame4 {E : XK} {ta : TA} (h : WA (TT K a) b ta own ds fun ss o => ∃ z t ns cl ag, ss = [.d (.str z), .d t, .d (oi cl), .d (oi ag)] ∧ Good z ns cl ag ∧ (t = .lst (ns.map .int) ∨ t = .tup (ns.map .int)) ∧ Q (.d (Fr.of z ns cl ag).d) o) : Lo.WE (TT K a) b (tMake a.C_Frame (SpI (TT K a) 0 F_Frame___init__) [] E ta) own ds Q :=
  we_mak (T := TT K a) (dd := []) rfl (fun _ => rfl) fun W σ ha sl R q => h W σ ha sl R fun vs ss o W' h' l r ⟨z, t, ns, cl, ag, e, g, ht, p⟩ => q vs ss o W' h' l r ⟨[.str z, t, oi cl, oi ag], .ofEq e, g.goes ht p⟩
theorem we_frame2 {E : XK} {ta : TA} (h : WA (TT K a) b ta own ds fun ss o => ∃ z t ns, ss = [.d (.str z), .d t] ∧ Good z ns none none ∧ (t = .lst (ns.map .int) ∨ t = .tup (ns.map .int)) ∧ Q (.d (Fr.of z ns none none).d) o) : Lo.WE (TT K a) b (tMake a.C_Frame (SpI (TT K a) 0 F_Frame___init__) [.non, .non] E ta) own ds Q :=
  we_mak (T := TT K a) (dd := [.non, .non]) rfl (fun _ => ⟨.non, _, rfl, rfl, .non, _, rfl, rfl, rfl⟩) fun W σ ha sl R q => h W σ ha sl R fun vs ss o W' h' l r ⟨z, t, ns, e, g, ht, p⟩ => q vs ss o W' h' l r ⟨[.str z, t], .ofEq e, g.goes (cl := none) (ag := none) ht p⟩
theorem wr_eqFr (X : Txt P K mg a) {f g : Fr} (hf : okSt f.z = true) (hg : okSt g.z = true) (q : Q (.d (.bl (f.eq g))) own) : WR (TT K a) b (rEqA K a.C_Frame (SpP (TT K a) F_Frame___eq__)) own (.d f.d) (.d g.d) Q :=
  wr_eqO (T := TT K a) (F := F_Frame___eq__) (c := 0) rfl (tyO X) ⟨(f, .inl g), rfl, ⟨hf, hg⟩, fun d e => ⟨_, e, q⟩, fun _ z => z⟩ Fv.mon
theorem wr_neFr (X : Txt P K mg a) {f g : Fr} (hf : okSt f.z = true) (hg : okSt g.z = true) (q : Q (.d (.bl (!f.eq g))) own) : WR (TT K a) b (rNeA K a.C_Frame (SpP (TT K a) F_Frame___eq__)) own (.d f.d) (.d g.d) Q :=
  wr_neO (T := TT K a) (F := F_Frame___eq__) (c := 0) rfl (tyO X) ⟨(f, .inl g), rfl, ⟨hf, hg⟩, fun d e => ⟨_, e, q⟩, fun _ z => z⟩ Fv.mon
theorem wr_eqFrD (X : Txt P K mg a) {f : Fr} {y : D} (hf : okSt f.z = true) (hy : y.isO = false) (q : Q (.d (.bl false)) own) : WR (TT K a) b (rEqA K a.C_Frame (SpP (TT K a) F_Frame___eq__)) own (.d f.d) (.d y) Q :=
  wr_eqO (T := TT K a) (F := F_Frame___eq__) (c := 0) rfl (tyN X hy) ⟨(f, .inr y), rfl, ⟨hf, hy⟩, fun d e => ⟨_, e, q⟩, fun _ z => z⟩ Fv.mon
/-- the law's own look at a right frame -/
theorem we_shows {E : XK} {ta : TA} (h : WA (TT K a) b ta own ds fun ss o => ∃ z ns cl ag, ss = [.d (Fr.of z ns cl ag).d, .d (.str z), .d (.tup (ns.map .int)), .d (oi cl), .d (oi ag)] ∧ Good z ns cl ag ∧ Q (.d (.bl true)) o) : Lo.WE (TT K a) b (tCall (SpP (TT K a) F__law_shows) [] E ta) own ds Q :=
  we_cal0 (T := TT K a) fun W σ ha sl R q => h W σ ha sl R fun vs ss o W' h' l r ⟨z, ns, cl, ag, e, g, p⟩ => q vs ss o W' h' l r ⟨[(Fr.of z ns cl ag).d, .str z, .tup (ns.map .int), oi cl, oi ag], .ofEq e, ⟨Fr.of z ns cl ag, rfl, ⟨g.ok, by have := g.l5; show ns.length ≤ 1000; omega, g.up.imp fun h => Int.le_of_lt h⟩, fun _ z => z, fun d e => e ▸ p⟩⟩
end
end L3
end
section
set_option Elab.async false
set_option linter.all false
set_option maxRecDepth 100000
set_option maxHeartbeats 1000000
namespace L3
open PySem PySem.Spec PyProof.Rows L2 PySem.W PySem.Calls Lo
def wd (b : Bool) (w : Str) : List Str := if b then [w] else []
def P0 (z : Str) (b : Bool) (d : D) : Prop := match b with | false => d = .str z | true => isName d 8 = false ∧ okStr d ∧ sm2 d
def P1 (ns : List Int) (b : Bool) (d : D) : Prop := match b with | false => d = .lst (ns.map .int) | true => areNouns d = false ∧ okNouns d ∧ sm2 d
def P2 (ns : List Int) (b : Bool) (d : D) : Prop := match b with | false => ∃ cl, d = oi cl ∧ ∀ c, cl = some c → 0 ≤ c ∧ c ≤ 5 ∧ c ∉ ns | true => d.isO = false ∧ sm2 d ∧ ∀ t, items t = some (ns.map .int) → badClause t d = true
def P3 (ns : List Int) (b : Bool) (d : D) : Prop := match b with | false => ∃ ag, d = oi ag ∧ ∀ c, ag = some c → c ∈ ns | true => d.isO = false ∧ sm2 d ∧ ∀ t, items t = some (ns.map .int) → badAgreed t d = true
def wds (b0 b1 b2 b3 : Bool) : List Str := wd b0 "name" ++ wd b1 "nouns" ++ wd b2 "clause" ++ wd b3 "agreed"
section
variable {z : Str} {ns : List Int} {b0 b1 b2 b3 : Bool} {d0 d1 d2 d3 : D}
theorem frW_head (g : Good z ns none none) (h0 : P0 z b0 d0) (h1 : P1 ns b1 d1) (h2 : P2 ns b2 d2) (h3 : P3 ns b3 d3) : frW d0 d1 d2 d3 = (wds b0 b1 b2 b3).head? := by
  unfold frW
  cases b0 with
  | true =>
    have e : isName d0 8 = false := h0.1
    rw [e]
    rfl
  | false =>
    have e : d0 = .str z := h0
    subst e
    rw [g.nm]
    cases b1 with
    | true =>
      have e : areNouns d1 = false := h1.1
      rw [e]
      rfl
    | false =>
      have e : d1 = .lst (ns.map .int) := h1
      subst e
      rw [are_of g.up g.rg g.l1 g.l5 (.inl rfl)]
      cases b2 with
      | true =>
        have e := h2.2.2 (.lst (ns.map .int)) rfl
        rw [e]
        rfl
      | false =>
        obtain ⟨cl, rfl, hc⟩ := h2
        rw [clause_of (its_of (.inl rfl)) hc]
        cases b3 with
        | true =>
          have e := h3.2.2 (.lst (ns.map .int)) rfl
          rw [e]
          rfl
        | false =>
          obtain ⟨ag, rfl, hc⟩ := h3
          rw [agreed_of (its_of (.inl rfl)) hc]
          rfl
theorem sm2_name (g : Good z ns none none) : sm2 (.str z) := by
  have h := isName_len g.nm
  refine ⟨rfl, g.ok, ?_, Nat.zero_le _⟩
  show 10 * z.length + 2 ≤ 20000
  omega
theorem P0.sm (g : Good z ns none none) (h : P0 z b0 d0) : sm2 d0 := by
  cases b0 with
  | true => exact h.2.2
  | false => cases (show d0 = .str z from h); exact sm2_name g
theorem P1.sm (g : Good z ns none none) (h : P1 ns b1 d1) : sm2 d1 := by
  cases b1 with
  | true => exact h.2.2
  | false => cases (show d1 = .lst (ns.map .int) from h); exact sm2_lst (sm_ints g.rg) (by rw [List.length_map]; have := g.l5; omega)
theorem sm_oi {ns : List Int} {x : Option Int} (h : ∀ c, x = some c → 0 ≤ c ∧ c ≤ 5) : sm2 (oi x) := by
  cases x with
  | none => exact sm2_of sm_non
  | some c => exact sm2_of (sm_int (by have := h c rfl; omega))
theorem P2.sm (h : P2 ns b2 d2) : sm2 d2 := by
  cases b2 with
  | true => exact h.2.1
  | false => obtain ⟨cl, rfl, hc⟩ := h; exact sm_oi (ns := ns) fun c e => ⟨(hc c e).1, (hc c e).2.1⟩
theorem P3.sm (g : Good z ns none none) (h : P3 ns b3 d3) : sm2 d3 := by
  cases b3 with
  | true => exact h.2.1
  | false => obtain ⟨ag, rfl, hc⟩ := h; exact sm_oi (ns := ns) fun c e => g.rg c (hc c e)
theorem P_pre (g : Good z ns none none) (h0 : P0 z b0 d0) (h1 : P1 ns b1 d1) (h2 : P2 ns b2 d2) (h3 : P3 ns b3 d3) : okStr d0 ∧ okNouns d1 ∧ d2.isO = false ∧ d3.isO = false := by
  refine ⟨?_, ?_, h2.sm.1, (h3.sm g).1⟩
  · cases b0 with
    | true => exact h0.2.1
    | false => cases (show d0 = .str z from h0); exact oks_str (by have := isName_len g.nm; omega)
  · cases b1 with
    | true => exact h1.2.1
    | false => cases (show d1 = .lst (ns.map .int) from h1); exact okn_ints (.inl rfl)
theorem rp4 (h0 : sm2 d0) (h1 : sm2 d1) (h2 : sm2 d2) (h3 : sm2 d3) : D.rp (.lst [d0, d1, d2, d3]) = true := by
  obtain ⟨_, a1, a2, a3⟩ := h0
  obtain ⟨_, e1, e2, e3⟩ := h1
  obtain ⟨_, c1, c2, c3⟩ := h2
  obtain ⟨_, g1, g2, g3⟩ := h3
  refine rp_of ?_ ?_ ?_
  · show (d0.shw && (d1.shw && (d2.shw && (d3.shw && true)))) = true
    rw [a1, e1, c1, g1]
    rfl
  · show max d0.py.depth (max d1.py.depth (max d2.py.depth (max d3.py.depth 0))) + 1 ≤ 60
    omega
  · show (d0.rb + 2 + (d1.rb + 2 + (d2.rb + 2 + (d3.rb + 2 + 0)))) + 4 ≤ 100000
    omega
theorem okd_words (b0 b1 b2 b3 : Bool) : D.okd (.lst ((wds b0 b1 b2 b3).map .str)) = true := by
  cases b0 <;> cases b1 <;> cases b2 <;> cases b3 <;> decide +kernel
theorem eqv_nil (ws : List Str) : D.eqv (.lst (ws.map .str)) (.lst []) = ws.isEmpty := by
  cases ws <;> rfl
theorem wd_ok {b0 b1 b2 b3 : Bool} {w : Str} (h : (wds b0 b1 b2 b3).head? = some w) : okSt w = true := by
  cases b0 <;> cases b1 <;> cases b2 <;> cases b3 <;> first | (cases h; done) | (cases h; decide +kernel)
theorem eqv_pair (x y u v : Str) : D.eqv (.tup [.str x, .str y]) (.tup [.str u, .str v]) = (decide (x = u) && decide (y = v)) := by
  show ((x == u) && ((y == v) && true)) = _
  have e : ∀ a c : Str, (a == c) = decide (a = c) := fun a c => eqv_str a c
  rw [e, e, Bool.and_true]
/-- names that are none -/
def badNm (d : D) : Prop := isName d 8 = false ∧ okStr d ∧ sm2 d
theorem bad_non : badNm .non := ⟨rfl, ⟨rfl, fun z e => nomatch e⟩, sm2_of sm_non⟩
theorem bad_three : badNm (.int 3) := ⟨rfl, ⟨rfl, fun z e => nomatch e⟩, sm2_of (sm_int (by decide))⟩
theorem bad_str {y : Str} (hl : y.length ≤ 100) (ok : okSt y = true) (h : isName (.str y) 8 = false) : badNm (.str y) := by
  refine ⟨h, oks_str (by omega), rfl, ok, ?_, Nat.zero_le _⟩
  show 10 * y.length + 2 ≤ 20000
  omega
theorem isName_long {y : Str} (h : 8 < y.length) : isName (.str y) 8 = false := by
  show (decide (1 ≤ (y.length : Int)) && (decide ((y.length : Int) ≤ 8) && lett y)) = false
  rw [decide_eq_false (show ¬ (y.length : Int) ≤ 8 by omega), Bool.false_and, Bool.and_false]
theorem isName_noLett {y : Str} (h : lett y = false) : isName (.str y) 8 = false := by
  show (decide (1 ≤ (y.length : Int)) && (decide ((y.length : Int) ≤ 8) && lett y)) = false
  rw [h, Bool.and_false, Bool.and_false]
theorem role_clause {d : D} (h : d = .non ∨ noRole d) (e : d.isNon = false) (t : D) : badClause t d = true := by
  rcases h with rfl | h
  · cases e
  unfold badClause
  rw [e, h.2.2.2.2.2.2]
  rfl
theorem role_agreed {d : D} (h : d = .non ∨ noRole d) (e : d.isNon = false) (rg : ∀ n ∈ ns, 0 ≤ n ∧ n ≤ 5) {t : D} (ht : items t = some (ns.map .int)) : badAgreed t d = true := by
  rcases h with rfl | h
  · cases e
  have h7 := h.2.2.2.2.2.2
  unfold badAgreed isAmong
  rw [e, ht]
  cases d with
  | int n =>
    show (!false && !(true && (D.int n).inF (ns.map .int))) = true
    rw [in_ints]
    have : n ∉ ns := fun m => by
      have := rg n m
      have h8 : (decide (0 ≤ n) && decide (n ≤ 5)) = false := h7
      rw [decide_eq_true this.1, decide_eq_true this.2] at h8
      cases h8
    rw [decide_eq_false this]
    rfl
  | _ => rfl
theorem role_P2 {d : D} (h : d = .non ∨ noRole d) (e : d.isNon = false) : P2 ns true d := ⟨(sm_role h).2.2.2, sm2_of (sm_role h), fun t _ => role_clause h e t⟩
theorem role_P3 {d : D} (h : d = .non ∨ noRole d) (e : d.isNon = false) (rg : ∀ n ∈ ns, 0 ≤ n ∧ n ≤ 5) : P3 ns true d := ⟨(sm_role h).2.2.2, sm2_of (sm_role h), fun t ht => role_agreed h e rg ht⟩
theorem non_P2 {d : D} (e : d.isNon = true) : P2 ns false d := ⟨none, by cases d <;> first | rfl | (cases e; done), fun c e => nomatch e⟩
theorem non_P3 {d : D} (e : d.isNon = true) : P3 ns false d := ⟨none, by cases d <;> first | rfl | (cases e; done), fun c e => nomatch e⟩
theorem noun_P2 {c : Int} (h : c ∈ ns) (rg : ∀ n ∈ ns, 0 ≤ n ∧ n ≤ 5) : P2 ns true (.int c) := ⟨rfl, sm2_of (sm_int (by have := rg c h; omega)), fun t ht => by
  have hr := rg c h
  unfold badClause
  rw [ht]
  show (true && (!(decide (0 ≤ c) && decide (c ≤ 5)) || (D.int c).inF (ns.map .int))) = true
  rw [in_ints, decide_eq_true h, Bool.or_true]
  rfl⟩
theorem rest_P3 {c : Int} (h : c ∉ ns) (hc : 0 ≤ c ∧ c ≤ 5) : P3 ns true (.int c) := ⟨rfl, sm2_of (sm_int (by omega)), fun t ht => by
  unfold badAgreed isAmong
  rw [ht]
  show (true && !(true && (D.int c).inF (ns.map .int))) = true
  rw [in_ints, decide_eq_false h]
  rfl⟩
end
end L3
end
section
set_option Elab.async false
set_option linter.all false
set_option maxRecDepth 100000
set_option maxHeartbeats 1000000
namespace L3
open PySem PySem.Spec PyProof.Rows L2 PySem.W PySem.Calls Lo
local macro_rules | `(tactic| walk_at "sd") => `(tactic| first | exact .d | rfl | assumption | (with_reducible decide) | omega | exact .nil | exact AllD.nil)
local macro_rules | `(tactic| walk_at "we") => `(tactic| first
  | ((with_reducible refine' we_var ?hv ?_); (case hv => rfl))
  | (with_reducible refine we_int ?_)
  | (with_reducible refine we_op ?_)
  | (with_reducible refine we_str ?_)
  | (with_reducible refine we_isi ?_)
  | (with_reducible refine we_isi2 ?_)
  | (with_reducible refine we_cb ?_)
  | (with_reducible refine we_andV ?_)
  | (with_reducible refine we_orV ?_)
  | (with_reducible refine we_notV ?_)
  | (with_reducible refine we_non ?_)
  | (with_reducible refine we_bl ?_)
  | (with_reducible refine we_if ?_)
  | (with_reducible refine we_un ?_)
  | (with_reducible refine we_cal0 ?_)
  | (with_reducible refine we_cal2 ?_)
  | (with_reducible refine we_calH ?_)
  | (with_reducible refine we_prp ?_)
  | (with_reducible refine we_tup ?_)
  | (with_reducible refine we_chain ?_))
local macro_rules | `(tactic| walk_at "ws") => `(tactic| first
  | (with_reducible refine ws_seq ?_)
  | (with_reducible refine ws_if ?_)
  | (with_reducible refine ws_set ?_)
  | (with_reducible refine ws_ret ?_)
  | (with_reducible refine ws_next ?_)
  | (with_reducible refine ws_drop ?_)
  | (with_reducible refine ws_retN ?_))
local macro_rules | `(tactic| walk_at "wt") => `(tactic| first
  | (with_reducible refine wt_test ?_)
  | (with_reducible refine wt_B ?_)
  | (with_reducible refine wt_and ?_)
  | (with_reducible refine wt_or ?_)
  | (with_reducible refine wt_not ?_))
local macro_rules | `(tactic| walk_at "wr") => `(tactic| first
  | (with_reducible refine wr_addI ?_)
  | (with_reducible refine wr_leI ?_)
  | (with_reducible refine wr_B0 ?_)
  | (with_reducible refine wr_I0 ?_)
  | (with_reducible refine wr_isN ?_)
  | (with_reducible refine wr_notN ?_)
  | (with_reducible refine wr_leS ?_)
  | ((with_reducible refine' wr_ixL ?hv ?_); (case hv => rfl))
  | ((with_reducible refine' wr_ixT ?hv ?_); (case hv => rfl))
  | ((with_reducible refine' wr_ixO ?hv ?hw ?_); (case hv => rfl); (case hw => rfl))
  | ((with_reducible refine' wr_eqD ?h1 ?h2 ?h3 ?h4 ?_); (case h1 => exact .d); (case h2 => exact .d); (case h3 => rfl); (case h4 => rfl))
  | ((with_reducible refine' wr_neD ?h1 ?h2 ?h3 ?h4 ?_); (case h1 => exact .d); (case h2 => exact .d); (case h3 => rfl); (case h4 => rfl)))
local macro_rules | `(tactic| walk_at "da") => `(tactic| first
  | (with_reducible refine ⟨_, rfl, ?_⟩)
  | (with_reducible refine ⟨fun _ => ?_, fun h => Bool.noConfusion h⟩)
  | (with_reducible refine ⟨fun h => Bool.noConfusion h, fun _ => ?_⟩)
  | (with_reducible refine ⟨_, rfl, ?_, ?_⟩)
  | ((with_reducible refine' ⟨_, _, .d, ?h1, ?h2, ?_⟩); (case h1 => walk_at "sd"); (case h2 => rfl))
  | ((with_reducible refine' ⟨_, _, _, .d, ?h1, ?h2, ?h3, ?_⟩); (case h1 => walk_at "sd"); (case h2 => rfl); (case h3 => rfl))
  | (with_reducible refine ⟨fun hk => ?_, fun hk => ?_⟩)
  | (show ∃ d, SV.d _ = SV.d d ∧ _; with_reducible refine ⟨_, rfl, ?_⟩))
local macro_rules | `(tactic| walk_at "lo") => `(tactic| first
  | ((with_reducible show Lo.WE _ _ _ _ _ _); walk_at "we")
  | ((with_reducible show Lo.WA _ _ _ _ _ _); first | (with_reducible refine wa_cons ?_) | (with_reducible refine wa_nil ?_))
  | ((with_reducible show Lo.WS _ _ _ _ _ _); walk_at "ws")
  | ((with_reducible show Lo.WT _ _ _ _ _ _); walk_at "wt")
  | ((with_reducible show Lo.WR _ _ _ _ _ _ _); walk_at "wr")
  | ((with_reducible show Lo.WU _ _ _ _ _ _); (with_reducible refine wu_neg ?_))
  | ((with_reducible show Lo.WC _ _ _ _ _ _); first | ((with_reducible refine' wc_len ?hv ?_); (case hv => rfl)) | (with_reducible refine wc_int ?_))
  | walk_at "da")
local macro_rules | `(tactic| walk_at "wq") => `(tactic| first
  | (with_reducible refine ws_seq (t := tAsg _ _) ?_)
  | (with_reducible refine ws_seq (t := tDrop _) ?_)
  | (with_reducible refine ws_set ?_)
  | (with_reducible refine ws_ret ?_)
  | (with_reducible refine ws_next ?_)
  | (with_reducible refine ws_drop ?_)
  | (with_reducible refine ws_retN ?_))
local macro_rules | `(tactic| walk_at "lq") => `(tactic| first
  | ((with_reducible show Lo.WE _ _ _ _ _ _); walk_at "we")
  | ((with_reducible show Lo.WA _ _ _ _ _ _); first | (with_reducible refine wa_cons ?_) | (with_reducible refine wa_nil ?_))
  | ((with_reducible show Lo.WS _ _ _ _ _ _); walk_at "wq")
  | ((with_reducible show Lo.WT _ _ _ _ _ _); walk_at "wt")
  | ((with_reducible show Lo.WR _ _ _ _ _ _ _); walk_at "wr")
  | ((with_reducible show Lo.WU _ _ _ _ _ _); (with_reducible refine wu_neg ?_))
  | ((with_reducible show Lo.WC _ _ _ _ _ _); first | ((with_reducible refine' wc_len ?hv ?_); (case hv => rfl)) | (with_reducible refine wc_int ?_))
  | walk_at "da")
local macro_rules | `(tactic| walk_at "ws") => `(tactic| (with_reducible refine ws_sub ?_))
local macro_rules | `(tactic| walk_at "wq") => `(tactic| (with_reducible refine ws_sub ?_))
local macro_rules | `(tactic| walk_at "da") => `(tactic| ((with_reducible show ∃ (i : Int) (j : Nat) (ss : List SV), SV.d (D.int _) = SV.d (D.int i) ∧ _); refine ⟨_, _, _, rfl, (rfl : _ = some (OW.lst _)), rfl, ?_⟩))
local macro_rules | `(tactic| walk_at "da") => `(tactic| ((with_reducible show ∃ (k : Nat) (ss : List SV), SV.p _ = SV.p k ∧ _); refine ⟨_, _, rfl, (rfl : _ = some (OW.lst _)), ?_⟩))
local macro_rules | `(tactic| walk_at "we") => `(tactic| (with_reducible refine we_bm ?_))
local macro_rules | `(tactic| walk_at "lo") => `(tactic| ((with_reducible show Lo.WC _ _ (Lo.rLen _) _ [SV.p _] _); refine wc_lenO (rfl : _ = some (OW.lst _)) ?_))
local macro_rules | `(tactic| walk_at "lq") => `(tactic| ((with_reducible show Lo.WC _ _ (Lo.rLen _) _ [SV.p _] _); refine wc_lenO (rfl : _ = some (OW.lst _)) ?_))
local macro_rules | `(tactic| walk_at "da") => `(tactic| ((with_reducible show ∃ (k : Nat) (sr : List SV) (xs : List D), [SV.p _] = SV.p k :: sr ∧ _); refine ⟨_, _, _, rfl, (rfl : _ = some OW.hand), .nil, ?_⟩))
local macro_rules | `(tactic| walk_at "da") => `(tactic| ((with_reducible show ∃ (k : Nat) (sr : List SV) (xs : List D), [SV.p _, SV.d _] = SV.p k :: sr ∧ _); refine ⟨_, _, _, rfl, (rfl : _ = some OW.hand), .cons .nil, ?_⟩))
local macro_rules | `(tactic| walk_at "da") => `(tactic| ((with_reducible show ∃ (k : Nat) (sr : List SV) (xs : List D), [SV.p _, SV.d _, SV.d _] = SV.p k :: sr ∧ _); refine ⟨_, _, _, rfl, (rfl : _ = some OW.hand), .cons (.cons .nil), ?_⟩))
local macro_rules | `(tactic| walk_at "da") => `(tactic| ((with_reducible show ∃ (xs : List D), AllD [] xs ∧ _); refine ⟨_, .nil, ?_⟩))
local macro_rules | `(tactic| walk_at "da") => `(tactic| ((with_reducible show ∃ (xs : List D), AllD [SV.d _] xs ∧ _); refine ⟨_, .cons .nil, ?_⟩))
local macro_rules | `(tactic| walk_at "da") => `(tactic| ((with_reducible show ∃ (xs : List D), AllD [SV.d _, SV.d _] xs ∧ _); refine ⟨_, .cons (.cons .nil), ?_⟩))
local macro_rules | `(tactic| walk_at "da") => `(tactic| ((with_reducible show ∃ (xs : List D), AllD [SV.d _, SV.d _, SV.d _] xs ∧ _); refine ⟨_, .cons (.cons (.cons .nil)), ?_⟩))
local macro_rules | `(tactic| walk_at "da") => `(tactic| ((with_reducible show ∃ (xs : List D), AllD [SV.d _, SV.d _, SV.d _, SV.d _] xs ∧ _); refine ⟨_, .cons (.cons (.cons (.cons .nil))), ?_⟩))
local macro_rules | `(tactic| walk_at "lo") => `(tactic| ((with_reducible show Lo.WO _ _ _ _ _ _); first | (with_reducible refine wo_none ?_) | (with_reducible refine wo_some ?_)))
local macro_rules | `(tactic| walk_at "lq") => `(tactic| ((with_reducible show Lo.WO _ _ _ _ _ _); first | (with_reducible refine wo_none ?_) | (with_reducible refine wo_some ?_)))
local macro_rules | `(tactic| walk_at "da") => `(tactic| first | ((with_reducible refine' takeG ?h ?_); (case h => (constructor <;> omega)); (intro k h0 h1)) | fail "no")
local macro_rules | `(tactic| walk_at "wr") => `(tactic| first | ((with_reducible refine' wr_pow ?h ?_); (case h => exact ⟨by decide, by decide, by decide⟩)) | fail "no")

local macro_rules | `(tactic| walk_at "lo") => `(tactic| ((with_reducible show Lo.WC _ _ (rListA _) _ [SV.d (D.lst _)] _); refine wc_list (.inl rfl) ?_))
local macro_rules | `(tactic| walk_at "lo") => `(tactic| ((with_reducible show Lo.WC _ _ (rListA _) _ [SV.d (D.tup _)] _); refine wc_list (.inr rfl) ?_))
local macro_rules | `(tactic| walk_at "lo") => `(tactic| ((with_reducible show Lo.WC _ _ (rTupA _) _ [SV.d (D.lst _)] _); refine wc_tup (.inl rfl) ?_))
local macro_rules | `(tactic| walk_at "lo") => `(tactic| ((with_reducible show Lo.WC _ _ (rTupA _) _ [SV.d (D.tup _)] _); refine wc_tup (.inr rfl) ?_))
local macro_rules | `(tactic| walk_at "lo") => `(tactic| ((with_reducible show Lo.WE _ _ (tLst (tCons _ _)) _ _ _); refine we_lst ?_))
local macro_rules | `(tactic| walk_at "lo") => `(tactic| ((with_reducible show List.length _ ≤ 100000 ∧ _); first | (refine ⟨(by simp), ?_⟩) | fail "no"))
local macro_rules | `(tactic| walk_at "lo") => `(tactic| ((with_reducible show ∃ (xs : List D), AllD [SV.d _, SV.d _, SV.d _, SV.d _, SV.d _, SV.d _] xs ∧ _); refine ⟨_, .cons (.cons (.cons (.cons (.cons (.cons .nil))))), ?_⟩))
local macro_rules | `(tactic| walk_at "lo") => `(tactic| ((with_reducible show ∃ (xs : List D), AllD [SV.d _, SV.d _, SV.d _, SV.d _, SV.d _] xs ∧ _); refine ⟨_, .cons (.cons (.cons (.cons (.cons .nil)))), ?_⟩))

local macro_rules | `(tactic| walk_at "wr") => `(tactic| first | ((with_reducible refine' wr_eqL ?h1 ?h2 ?h3 ?h4 ?_); (case h1 => exact .d); (case h2 => exact .d); (case h3 => rfl); (case h4 => rfl)) | fail "no")
local macro_rules | `(tactic| walk_at "wr") => `(tactic| first | ((with_reducible refine' wr_neL ?h1 ?h2 ?h3 ?h4 ?_); (case h1 => exact .d); (case h2 => exact .d); (case h3 => rfl); (case h4 => rfl)) | fail "no")

section
variable {P : Program} {w : World} {K : Frag} {mg : Str → Option Value} {base : Heap} {a : Ad}
local macro_rules | `(tactic| walk_at "we") => `(tactic| first
  | (with_reducible refine we_fr0 (by assumption) ?_)
  | (with_reducible refine we_fr1 (by assumption) ?_)
  | (with_reducible refine we_fr2 (by assumption) ?_)
  | (with_reducible refine we_fr3 (by assumption) ?_))

local macro_rules | `(tactic| walk_at "we") => `(tactic| first | (with_reducible refine we_shows ?_) | (with_reducible refine we_frame4 ?_) | (with_reducible refine we_frame2 ?_) | fail "no")
local macro_rules | `(tactic| walk_at "da") => `(tactic| ((with_reducible show ∃ (z : Str) (ns : List Int) (cl ag : Option Int), _ ∧ _); first | (refine ⟨_, _, _, _, rfl, by assumption, ?_⟩) | fail "no"))
local macro_rules | `(tactic| walk_at "da") => `(tactic| ((with_reducible show ∃ (z : Str) (t : D) (ns : List Int) (cl ag : Option Int), _ ∧ _); first | (refine ⟨_, _, _, _, _, rfl, by assumption, .inr rfl, ?_⟩) | (refine ⟨_, _, _, _, _, rfl, by assumption, .inl rfl, ?_⟩) | fail "no"))
local macro_rules | `(tactic| walk_at "da") => `(tactic| ((with_reducible show ∃ (z : Str) (t : D) (ns : List Int), _ ∧ _); first | (refine ⟨_, _, _, rfl, by assumption, .inr rfl, ?_⟩) | (refine ⟨_, _, _, rfl, by assumption, .inl rfl, ?_⟩) | fail "no"))
theorem ok_law {fd} (X : Txt P K mg a) (F : DefAt K "law" "law" s_law [] a.f_law fd) : LX.FnG P w K mg base (L2.CX P w) 7 a.f_law fd ["_law_script"] (SpLaw K) := by
  refine okLaw (T := TT K a) (fun ns => [some (.scr ns), none, none, none, none, none, none, none, none, none, none, none, none, none]) F sc_law rfl fun cdv A outer s H E hr hgu => 
   have hu := hr.units
   ⟨_, 
   (pss_cons (ps_set (i := 1) sc_law.nd rfl (Or.inl rfl) (pe_cal X.A__law_hand (cal__law_hand X) hr (by rfl) passL (pa_cons (pv 0) pa_nil)))
  (pss_cons (ps_for (passes_of rfl) rfl (pi_range1 rfl X.n_range (pa_cons pe_int pa_nil)) (pg_name (i := 2) sc_law.nd rfl (Or.inl rfl))
  (pss_cons (ps_set (i := 3) sc_law.nd rfl (Or.inl rfl) (pe_cal X.A__law_word (cal__law_word X) hr (by rfl) passL (pa_cons (pv 1) (pa_cons pe_int pa_nil))))
  (pss_cons (ps_set (i := 4) sc_law.nd rfl (Or.inr rfl) (pe_cal X.A__law_some (cal__law_some X) hr (by rfl) passL (pa_cons (pv 1) (pa_cons (pe_listRg rfl (by rfl) X.n_list (prg_1 (by rfl) X.n_range pe_int)) (pa_cons (pe_op op_addA pe_int (pe_cal X.A__law_take (cal__law_take X) hr (by rfl) passL (pa_cons (pv 1) (pa_cons pe_int pa_nil)))) pa_nil)))))
  (pss_cons (ps_setLc (i := 5) (own := [("_law_role", 6)]) (by rfl) sc_law.nd rfl rfl (sw_true rfl rfl rfl (by decide +kernel)) (pi_range1 rfl X.n_range (pa_cons pe_int pa_nil)) (blkOk_by (own := [("_law_role", 6)]) (N := N_law) (sc := defScope s_law) (by decide +kernel)) (fun _ _ _ _ _ => (pg_name (i := 6) sc_law.nd rfl (Or.inl rfl))) (fun _ _ _ _ _ => (pts_one (pt_cmpR (kOp K (fun K => rIn K true) rfl op_notIn_seq) (pv 6) (pv 4) (by rfl)))) (fun _ _ _ _ _ => (pv 6)))
  (pss_cons (ps_set (i := 7) sc_law.nd rfl (Or.inl rfl) (pe_ifExp (pt_cmpR (op_eqA hu (op_eqC X.eq_Frame (cal_Frame___eq__ X) hr)) (pe_cal X.A__law_take (cal__law_take X) hr (by rfl) passL (pa_cons (pv 1) (pa_cons pe_int pa_nil))) pe_int (nomark _)) pe_non (pe_ix ix_any (pv 5) (pe_cal X.A__law_take (cal__law_take X) hr (by rfl) passL (pa_cons (pv 1) (pa_cons (pe_callB call_lenA (by rfl) X.n_len PySem.boot_len (pa_cons (pv 5) pa_nil)) pa_nil))) (fun _ _ => rfl))))
  (pss_cons (ps_set (i := 8) sc_law.nd rfl (Or.inl rfl) (pe_ifExp (pt_cmpR (op_eqA hu (op_eqC X.eq_Frame (cal_Frame___eq__ X) hr)) (pe_cal X.A__law_take (cal__law_take X) hr (by rfl) passL (pa_cons (pv 1) (pa_cons pe_int pa_nil))) pe_int (nomark _)) pe_non (pe_ix ix_any (pv 4) (pe_cal X.A__law_take (cal__law_take X) hr (by rfl) passL (pa_cons (pv 1) (pa_cons (pe_callB call_lenA (by rfl) X.n_len PySem.boot_len (pa_cons (pv 4) pa_nil)) pa_nil))) (fun _ _ => rfl))))
  (pss_cons (ps_set (i := 9) sc_law.nd rfl (Or.inl rfl) (pe_cal X.A__law_told (cal__law_told X) hr (by rfl) passL (pa_cons (pv 3) (pa_cons (pe_cal X.A__law_as_list (cal__law_as_list X) hr (by rfl) passL (pa_cons (pv 1) (pa_cons (pv 4) pa_nil))) (pa_cons (pv 7) (pa_cons (pv 8) pa_nil))))))
  (pss_cons (ps_if (PW.pt (pw_or (pt_cmpR (op_neA hu (op_neC X.eq_Frame (cal_Frame___eq__ X) hr)) (pe_ix ix_any (pv 9) pe_int (fun _ _ => rfl)) pe_str (nomark _)) (pw_or1 (pt_not (pt_val (pe_cal X.A__law_shows (cal__law_shows X) hr (by rfl) passL (pa_cons (pe_ix ix_any (pv 9) pe_int (fun _ _ => rfl)) (pa_cons (pv 3) (pa_cons (pv 4) (pa_cons (pv 7) (pa_cons (pv 8) pa_nil)))))))))))
  (pss_one (ps_ret pe_bl))
  pss_nil)
  (pss_cons (ps_set (i := 10) sc_law.nd rfl (Or.inl rfl) (pe_mak X.M_Frame (cal_Frame___init__2 X) hr (by rfl) passL (pa_cons (pv 3) (pa_cons (pv 4) pa_nil))))
  (pss_cons (ps_if (PW.pt (pw_or (pt_not (pt_val (pe_cal X.A__law_shows (cal__law_shows X) hr (by rfl) passL (pa_cons (pv 10) (pa_cons (pv 3) (pa_cons (pv 4) (pa_cons pe_non (pa_cons pe_non pa_nil)))))))) (pw_or1 (pt_cmpR (op_neA hu (op_neC X.eq_Frame (cal_Frame___eq__ X) hr)) (pe_cmpR (op_eqA hu (op_eqC X.eq_Frame (cal_Frame___eq__ X) hr)) (pv 10) (pe_ix ix_any (pv 9) pe_int (fun _ _ => rfl)) (nomark _)) (pe_and (pe_cmpR op_isN1 (pv 7) pe_non (nomark _)) (pe_one (pe_cmpR op_isN1 (pv 8) pe_non (nomark _)))) (nomark _)))))
  (pss_one (ps_ret pe_bl))
  pss_nil)
  (pss_cons (ps_if (PW.pt (pw_or (pt_cmpR (op_neA hu (op_neC X.eq_Frame (cal_Frame___eq__ X) hr)) (pe_ix ix_any (pv 9) pe_int (fun _ _ => rfl)) (pe_mak X.M_Frame (cal_Frame___init__ X) hr (by rfl) passL (pa_cons (pv 3) (pa_cons (pe_callTy call_listA (by rfl) X.n_list (by decide +kernel) (pa_cons (pv 4) pa_nil)) (pa_cons (pv 7) (pa_cons (pv 8) pa_nil))))) (nomark _)) (pw_or1 (pt_cmpR (op_eqA hu (op_eqC X.eq_Frame (cal_Frame___eq__ X) hr)) (pe_ix ix_any (pv 9) pe_int (fun _ _ => rfl)) (pv 4) (nomark _)))))
  (pss_one (ps_ret pe_bl))
  pss_nil)
  (pss_cons (ps_if (pt_cmpR (op_eqA hu (op_eqC X.eq_Frame (cal_Frame___eq__ X) hr)) (pv 10) (pe_mak X.M_Frame (cal_Frame___init__2 X) hr (by rfl) passL (pa_cons (pe_ifExp (pt_cmpR op_lt (pe_callB call_lenA (by rfl) X.n_len PySem.boot_len (pa_cons (pv 3) pa_nil)) pe_int (nomark _)) (pe_op op_addA (pe_slice sl_any (pv 3) (po_some pe_int) po_none) pe_str) (pe_slice sl_any (pv 3) (po_some pe_int) po_none)) (pa_cons (pv 4) pa_nil))) (nomark _))
  (pss_one (ps_ret pe_bl))
  pss_nil)
  (pss_cons (ps_if (PW.pt (pw_and (pt_cmpR op_gt (pe_callB call_lenA (by rfl) X.n_len PySem.boot_len (pa_cons (pv 4) pa_nil)) pe_int (nomark _)) (pw_and1 (pt_cmpR (op_eqA hu (op_eqC X.eq_Frame (cal_Frame___eq__ X) hr)) (pv 10) (pe_mak X.M_Frame (cal_Frame___init__2 X) hr (by rfl) passL (pa_cons (pv 3) (pa_cons (pe_slice sl_any (pv 4) (po_some pe_int) po_none) pa_nil))) (nomark _)))))
  (pss_one (ps_ret pe_bl))
  pss_nil)
  (pss_cons (ps_set (i := 11) sc_law.nd rfl (Or.inl rfl) (pe_lst pa_nil))
  (pss_cons (ps_set (i := 12) sc_law.nd rfl (Or.inl rfl) (pe_lst (pa_cons (pv 3) (pa_cons (pe_callTy call_listA (by rfl) X.n_list (by decide +kernel) (pa_cons (pv 4) pa_nil)) (pa_cons (pv 7) (pa_cons (pv 8) pa_nil))))))
  (pss_cons (ps_if (pt_cmpR (op_eqA hu (op_eqC X.eq_Frame (cal_Frame___eq__ X) hr)) (pe_cal X.A__law_take (cal__law_take X) hr (by rfl) passL (pa_cons (pv 1) (pa_cons pe_int pa_nil))) pe_int (nomark _))
  (pss_cons (ps_asg (pe_ix ix_any (pe_tup (pa_cons pe_non (pa_cons pe_str (pa_cons (pe_op op_addA (pv 3) pe_str) (pa_cons (pe_op op_addA pe_str (pe_slice sl_any (pv 3) (po_some pe_int) po_none)) (pa_cons pe_int pa_nil)))))) (pe_cal X.A__law_take (cal__law_take X) hr (by rfl) passL (pa_cons (pv 1) (pa_cons pe_int pa_nil))) (fun _ _ => rfl)) (pg_sub (pv 12) pe_int set_list))
  (pss_one (ps_expr (pe_bm PySem.F.plainAttrs_list PySem.F.slot_list_append PySem.F.type_list_append mt_append (pv 11) (pa_cons pe_str pa_nil)))))
  pss_nil)
  (pss_cons (ps_if (pt_cmpR (op_eqA hu (op_eqC X.eq_Frame (cal_Frame___eq__ X) hr)) (pe_cal X.A__law_take (cal__law_take X) hr (by rfl) passL (pa_cons (pv 1) (pa_cons pe_int pa_nil))) pe_int (nomark _))
  (pss_cons (ps_asg (pe_cal X.A__law_no_nouns (cal__law_no_nouns X) hr (by rfl) passL (pa_cons (pv 1) (pa_cons (pv 4) pa_nil))) (pg_sub (pv 12) pe_int set_list))
  (pss_one (ps_expr (pe_bm PySem.F.plainAttrs_list PySem.F.slot_list_append PySem.F.type_list_append mt_append (pv 11) (pa_cons pe_str pa_nil)))))
  pss_nil)
  (pss_cons (ps_if (pt_cmpR (op_eqA hu (op_eqC X.eq_Frame (cal_Frame___eq__ X) hr)) (pe_cal X.A__law_take (cal__law_take X) hr (by rfl) passL (pa_cons (pv 1) (pa_cons pe_int pa_nil))) pe_int (nomark _))
  (pss_cons (ps_asg (pe_ifExp (pt_cmpR (op_eqA hu (op_eqC X.eq_Frame (cal_Frame___eq__ X) hr)) (pe_cal X.A__law_take (cal__law_take X) hr (by rfl) passL (pa_cons (pv 1) (pa_cons pe_int pa_nil))) pe_int (nomark _)) (pe_ix ix_any (pv 4) (pe_cal X.A__law_take (cal__law_take X) hr (by rfl) passL (pa_cons (pv 1) (pa_cons (pe_callB call_lenA (by rfl) X.n_len PySem.boot_len (pa_cons (pv 4) pa_nil)) pa_nil))) (fun _ _ => rfl)) (pe_cal X.A__law_no_role (cal__law_no_role X) hr (by rfl) passL (pa_cons (pv 1) (pa_cons pe_int pa_nil)))) (pg_sub (pv 12) pe_int set_list))
  (pss_one (ps_if (pt_cmpR op_notN1 (pe_ix ix_any (pv 12) pe_int (fun _ _ => rfl)) pe_non (nomark _))
  (pss_one (ps_expr (pe_bm PySem.F.plainAttrs_list PySem.F.slot_list_append PySem.F.type_list_append mt_append (pv 11) (pa_cons pe_str pa_nil))))
  pss_nil)))
  pss_nil)
  (pss_cons (ps_if (pt_cmpR (op_eqA hu (op_eqC X.eq_Frame (cal_Frame___eq__ X) hr)) (pe_cal X.A__law_take (cal__law_take X) hr (by rfl) passL (pa_cons (pv 1) (pa_cons pe_int pa_nil))) pe_int (nomark _))
  (pss_cons (ps_asg (pe_ifExp (pt_cmpR (op_eqA hu (op_eqC X.eq_Frame (cal_Frame___eq__ X) hr)) (pe_cal X.A__law_take (cal__law_take X) hr (by rfl) passL (pa_cons (pv 1) (pa_cons pe_int pa_nil))) pe_int (nomark _)) (pe_ix ix_any (pv 5) (pe_cal X.A__law_take (cal__law_take X) hr (by rfl) passL (pa_cons (pv 1) (pa_cons (pe_callB call_lenA (by rfl) X.n_len PySem.boot_len (pa_cons (pv 5) pa_nil)) pa_nil))) (fun _ _ => rfl)) (pe_cal X.A__law_no_role (cal__law_no_role X) hr (by rfl) passL (pa_cons (pv 1) (pa_cons pe_int pa_nil)))) (pg_sub (pv 12) pe_int set_list))
  (pss_one (ps_if (pt_cmpR op_notN1 (pe_ix ix_any (pv 12) pe_int (fun _ _ => rfl)) pe_non (nomark _))
  (pss_one (ps_expr (pe_bm PySem.F.plainAttrs_list PySem.F.slot_list_append PySem.F.type_list_append mt_append (pv 11) (pa_cons pe_str pa_nil))))
  pss_nil)))
  pss_nil)
  (pss_cons (ps_set (i := 13) sc_law.nd rfl (Or.inl rfl) (pe_callB (LX.call_repr hgu hu) (by rfl) X.n_repr (by decide +kernel) (pa_cons (pv 12) pa_nil)))
  (pss_cons (ps_set (i := 9) sc_law.nd rfl (Or.inl rfl) (pe_cal X.A__law_told (cal__law_told X) hr (by rfl) passL (pa_cons (pe_ix ix_any (pv 12) pe_int (fun _ _ => rfl)) (pa_cons (pe_ix ix_any (pv 12) pe_int (fun _ _ => rfl)) (pa_cons (pe_ix ix_any (pv 12) pe_int (fun _ _ => rfl)) (pa_cons (pe_ix ix_any (pv 12) pe_int (fun _ _ => rfl)) pa_nil))))))
  (pss_cons (ps_if (pt_cmpR (op_eqA hu (op_eqC X.eq_Frame (cal_Frame___eq__ X) hr)) (pv 11) (pe_lst pa_nil) (nomark _))
  (pss_one (ps_if (PW.pt (pw_or (pt_cmpR (op_neA hu (op_neC X.eq_Frame (cal_Frame___eq__ X) hr)) (pe_ix ix_any (pv 9) pe_int (fun _ _ => rfl)) pe_str (nomark _)) (pw_or1 (pt_not (pt_val (pe_cal X.A__law_shows (cal__law_shows X) hr (by rfl) passL (pa_cons (pe_ix ix_any (pv 9) pe_int (fun _ _ => rfl)) (pa_cons (pv 3) (pa_cons (pv 4) (pa_cons (pe_ix ix_any (pv 12) pe_int (fun _ _ => rfl)) (pa_cons (pe_ix ix_any (pv 12) pe_int (fun _ _ => rfl)) pa_nil)))))))))))
  (pss_one (ps_ret pe_bl))
  pss_nil))
  (pss_one (ps_if (pt_cmpR (op_neA hu (op_neC X.eq_Frame (cal_Frame___eq__ X) hr)) (pv 9) (pe_tup (pa_cons pe_str (pa_cons (pe_ix ix_any (pv 11) pe_int (fun _ _ => rfl)) pa_nil))) (nomark _))
  (pss_one (ps_ret pe_bl))
  pss_nil)))
  (pss_one (ps_if (pt_cmpR op_ne (pe_callB (LX.call_repr hgu hu) (by rfl) X.n_repr (by decide +kernel) (pa_cons (pv 12) pa_nil)) (pv 13) (nomark _))
  (pss_one (ps_ret pe_bl))
  pss_nil))))))))))))))))))))))))
  (pss_one (ps_ret pe_bl)))), fun b scr hl hn => ?_⟩
  dsimp only [CxB, L2.cxOf]
  refine ws_seq (ws_set (we_hand rfl ⟨scr, rfl, hl, hn⟩ ?_))
  refine ws_seq (ws_for (js := [2]) (fun its i o s => ∃ x0, o = [.hand] ∧ s = [x0, some (.p 0), none, none, none, none, none, none, none, none, none, none, none, none]) (wi_rng1 ?_))
  repeat' walk_at "lq"
  refine ⟨by decide, by decide, Nat.le_refl _, ⟨_, rfl, rfl⟩, ?_, ?_⟩
  · rintro i x o s hi ⟨x0, rfl, rfl⟩
    refine ⟨OwP_hand OwP_nil, Nat.le_refl _, wg_name ?_⟩
    repeat' walk_at "lq"
    refine ⟨⟨by decide, by decide⟩, fun _ z => z, ?_⟩
    rintro d ⟨cs, hc1, hc8, hcs, rfl⟩
    generalize hz : SX.S cs = z
    repeat' walk_at "lq"
    refine we_listRg ?_
    repeat' walk_at "lq"
    refine ⟨by decide, by decide, ?_⟩
    repeat' walk_at "lq"
    rename_i k h0 h1
    obtain ⟨j, rfl⟩ : ∃ j : Nat, k = (j : Int) := ⟨k.toNat, by omega⟩
    refine ⟨([0, 1, 2, 3, 4, 5], _, 1 + j), rfl, ⟨.inl rfl, (show 6 ≤ 100000 by decide), by show 1 + j ≤ 6; omega⟩, fun _ z => z, ?_⟩
    rintro d ⟨qs, ns, hq, hp, hs, rfl⟩
    obtain ⟨hup, hrg, hnl, r0, hr0, hr1⟩ := some_six (m := 1 + j) hq hp hs (by omega) (by omega)
    clear hq hp hs
    have hl1 : 1 ≤ ns.length := by rw [hnl]; show 1 ≤ 1 + j; omega
    have hl5 : ns.length ≤ 5 := by rw [hnl]; show 1 + j ≤ 5; omega
    clear hnl
    have hrs : ([0, 1, 2, 3, 4, 5] : List Int).filter (fun r => !decide (r ∈ ns)) ≠ [] := fun e => by
      have : r0 ∈ ([0, 1, 2, 3, 4, 5] : List Int).filter (fun r => !decide (r ∈ ns)) := List.mem_filter.mpr ⟨hr0, by simp [hr1]⟩
      rw [e] at this
      cases this
    have hrm : ∀ c ∈ ([0, 1, 2, 3, 4, 5] : List Int).filter (fun r => !decide (r ∈ ns)), 0 ≤ c ∧ c ≤ 5 ∧ c ∉ ns := fun c hc => by
      obtain ⟨h1, h2⟩ := List.mem_filter.mp hc
      simp only [List.mem_cons, List.not_mem_nil, or_false] at h1
      refine ⟨by omega, by omega, by simpa using h2⟩
    repeat' walk_at "lq"
    refine we_lcff (js := [6]) (by decide) (fun d => !d.inF (ns.map .int)) id (wi_rng1 ?_)
    repeat' walk_at "lq"
    refine ⟨by decide, by decide, Nat.le_refl _, OwP_hand OwP_nil, by simp [rngD], fun x acc hm => wg_name ?_, ?_⟩
    · have fx : x.flat = true := by
        obtain ⟨i, _, rfl⟩ := List.mem_map.mp hm
        rfl
      repeat' walk_at "lo"
      refine wr_inT (neg := true) fx (ints_flat ns) ?_
      repeat' walk_at "lo"
      exact ⟨rfl, fun _ => we_var rfl ⟨rfl, rfl⟩, fun _ => rfl⟩
    have er : ((rngD 0 (Int.toNat 6)).filter (fun d => !d.inF (ns.map .int))).map id = (([0, 1, 2, 3, 4, 5] : List Int).filter (fun r => !decide (r ∈ ns))).map D.int := by
      rw [List.map_id]
      show (([0, 1, 2, 3, 4, 5] : List Int).map D.int).filter _ = _
      rw [List.filter_map]
      refine congrArg (List.map D.int) (List.filter_congr fun x _ => ?_)
      show (!(D.int x).inF (ns.map .int)) = _
      rw [in_ints]
    rw [er]
    have hrl : (([0, 1, 2, 3, 4, 5] : List Int).filter (fun r => !decide (r ∈ ns))).length ≤ 6 := List.length_filter_le _ _
    generalize ([0, 1, 2, 3, 4, 5] : List Int).filter (fun r => !decide (r ∈ ns)) = rs at hrs hrm hrl ⊢
    have hrl0 : 0 < rs.length := List.length_pos_iff.mpr hrs
    have hrl1 : (rs.map D.int).length = rs.length := List.length_map ..
    have hnl1 : (ns.map D.int).length = ns.length := List.length_map ..
    refine ws_cut (fun o s => o = [.hand] ∧ ∃ cl, s = [x0, some (.p 0), some (.d x), some (.d (.str z)), some (.d (.tup (ns.map .int))), some (.d (.lst (rs.map .int))), none, some (.d (oi cl)), none, none, none, none, none, none] ∧ ∀ c, cl = some c → c ∈ rs) ?_ ?_
    · repeat' walk_at "lo"
      · exact ⟨rfl, none, rfl, fun c e => nomatch e⟩
      · rename_i k h0 h1
        obtain ⟨c, hc, ec⟩ := ix_get (xs := rs) h0 (by omega)
        exact wr_ixL (atI_map ec) ⟨rfl, some c, rfl, fun c' e => by cases e; exact hc⟩
    rintro o s ⟨rfl, cl, rfl, hcl⟩
    refine ws_cut (fun o s => o = [.hand] ∧ ∃ ag, s = [x0, some (.p 0), some (.d x), some (.d (.str z)), some (.d (.tup (ns.map .int))), some (.d (.lst (rs.map .int))), none, some (.d (oi cl)), some (.d (oi ag)), none, none, none, none, none] ∧ ∀ c, ag = some c → c ∈ ns) ?_ ?_
    · repeat' walk_at "lo"
      · exact ⟨rfl, none, rfl, fun c e => nomatch e⟩
      · rename_i k h0 h1
        obtain ⟨c, hc, ec⟩ := ix_get (xs := ns) h0 (by omega)
        exact wr_ixT (atI_map ec) ⟨rfl, some c, rfl, fun c' e => by cases e; exact hc⟩
    rintro o s ⟨rfl, ag, rfl, hag⟩
    have nameOk := name_of hc1 (by omega) hcs
    rw [hz] at nameOk
    have hG : Good z ns cl ag := ⟨nameOk.1, nameOk.2, hup, hrg, hl1, hl5, fun c e => hrm c (hcl c e), hag⟩
    have hzl := isName_len nameOk.1
    repeat' walk_at "lq"
    refine ⟨⟨_, .inr rfl⟩, fun _ z => z, ?_⟩
    rintro t ⟨xs, hx, ht⟩
    obtain rfl : xs = ns.map .int := by rcases hx with hx | hx <;> cases hx; rfl
    repeat' walk_at "lq"
    refine ⟨(.str z, t, oi cl, oi ag), rfl, hG.pre ht, fun _ z => z, ?_⟩
    rintro d (⟨_, rfl⟩ | ⟨wd, e, _⟩)
    rotate_left
    · rw [hG.fr ht] at e
      cases e
    have efr : (D.obj 0 [.str z, .tup ((items t).getD []), oi cl, oi ag]) = (Fr.of z ns cl ag).d := by
      rw [its_of ht]
      rfl
    rw [efr]
    clear efr hz hc1 hc8 hcs
    have hG0 : Good z ns none none := ⟨hG.nm, hG.ok, hG.up, hG.rg, hG.l1, hG.l5, (fun c e => nomatch e), (fun c e => nomatch e)⟩
    refine ws_cut (fun o s => o = [.hand] ∧ s = [x0, some (.p 0), some (.d x), some (.d (.str z)), some (.d (.tup (ns.map .int))), some (.d (.lst (rs.map .int))), none, some (.d (oi cl)), some (.d (oi ag)), some (.d (.tup [.str "good", (Fr.of z ns cl ag).d])), none, none, none, none]) ?_ ?_
    · repeat' walk_at "lo"
      refine wr_neL .d .d (by decide +kernel) (by decide +kernel) ?_
      rw [eqv_str, decide_eq_true rfl]
      repeat' walk_at "lo"
      exact ⟨rfl, rfl⟩
    rintro o s ⟨rfl, rfl⟩
    repeat' walk_at "lq"
    refine ws_cut (fun o s => o = [.hand] ∧ s = [x0, some (.p 0), some (.d x), some (.d (.str z)), some (.d (.tup (ns.map .int))), some (.d (.lst (rs.map .int))), none, some (.d (oi cl)), some (.d (oi ag)), some (.d (.tup [.str "good", (Fr.of z ns cl ag).d])), some (.d (Fr.of z ns none none).d), none, none, none]) ?_ ?_
    · repeat' walk_at "lo"
      refine wr_eqFr X hG0.ok hG.ok ?_
      have e : (Fr.of z ns none none).eq (Fr.of z ns cl ag) = ((oi cl).isNon && (oi ag).isNon) := by
        unfold Fr.eq Fr.of
        cases cl <;> cases ag <;> simp [oi, D.isNon]
      rw [e]
      repeat' walk_at "lo"
      all_goals first
        | exact ⟨rfl, rfl⟩
        | (exfalso; simp_all [eqv_bl]; done)
    rintro o s ⟨rfl, rfl⟩
    refine ws_cut (fun o s => o = [.hand] ∧ s = [x0, some (.p 0), some (.d x), some (.d (.str z)), some (.d (.tup (ns.map .int))), some (.d (.lst (rs.map .int))), none, some (.d (oi cl)), some (.d (oi ag)), some (.d (.tup [.str "good", (Fr.of z ns cl ag).d])), some (.d (Fr.of z ns none none).d), none, none, none]) ?_ ?_
    · repeat' walk_at "lo"
      refine wr_neFr X hG.ok hG.ok ?_
      rw [Fr.eq_self]
      repeat' walk_at "lo"
      refine wr_eqFrD X hG.ok rfl ?_
      repeat' walk_at "lo"
      exact ⟨rfl, rfl⟩
    rintro o s ⟨rfl, rfl⟩
    refine ws_cut (fun o s => o = [.hand] ∧ s = [x0, some (.p 0), some (.d x), some (.d (.str z)), some (.d (.tup (ns.map .int))), some (.d (.lst (rs.map .int))), none, some (.d (oi cl)), some (.d (oi ag)), some (.d (.tup [.str "good", (Fr.of z ns cl ag).d])), some (.d (Fr.of z ns none none).d), none, none, none]) ?_ ?_
    · repeat' walk_at "lo"
      refine wc_len (show D.lenN (.str z) = some z.length from if_pos (by omega)) ?_
      repeat' walk_at "lo"
      · rename_i hk
        have hk : (z.length : Int) < 8 := of_decide_eq_true hk
        refine we_sl ?_
        repeat' walk_at "lo"
        refine .inr (.inr ⟨z, rfl, by omega, ?_⟩)
        repeat' walk_at "lo"
        have l1 := len_cut1 hzl.1
        have l2 : ("ab" : Str).length = 2 := by decide +kernel
        refine wr_addS (by omega) ?_
        have hl : lett (cutS z (some 1) none ++ "ab") = true := by
          rw [lett_cat, lett_cut1 hzl.1 (isName_lett hG.nm)]
          decide +kernel
        have g := hG0.name (y := cutS z (some 1) none ++ "ab") (by rw [len_cat]; omega) (by rw [len_cat]; omega) hl
        repeat' walk_at "lo"
        refine wr_eqFr X hG.ok g.ok ?_
        rw [Fr.ne_z (fun e => by
          have e' := congrArg Str.length (show z = cutS z (some 1) none ++ "ab" from e)
          rw [len_cat] at e'
          omega)]
        repeat' walk_at "lo"
        exact ⟨rfl, rfl⟩
      · rename_i hk
        have hk : ¬ (z.length : Int) < 8 := of_decide_eq_false hk
        refine we_sl ?_
        repeat' walk_at "lo"
        refine .inr (.inr ⟨z, rfl, by omega, ?_⟩)
        repeat' walk_at "lo"
        have l1 := len_cut1 hzl.1
        have g := hG0.name (y := cutS z (some 1) none) (by omega) (by omega) (lett_cut1 hzl.1 (isName_lett hG.nm))
        repeat' walk_at "lo"
        refine wr_eqFr X hG.ok g.ok ?_
        rw [Fr.ne_z (fun e => by
          have e' := congrArg Str.length (show z = cutS z (some 1) none from e)
          omega)]
        repeat' walk_at "lo"
        exact ⟨rfl, rfl⟩
    rintro o s ⟨rfl, rfl⟩
    refine ws_cut (fun o s => o = [.hand] ∧ s = [x0, some (.p 0), some (.d x), some (.d (.str z)), some (.d (.tup (ns.map .int))), some (.d (.lst (rs.map .int))), none, some (.d (oi cl)), some (.d (oi ag)), some (.d (.tup [.str "good", (Fr.of z ns cl ag).d])), some (.d (Fr.of z ns none none).d), none, none, none]) ?_ ?_
    · repeat' walk_at "lo"
      · rename_i hk
        have hk : (1 : Int) < ((ns.map D.int).length : Int) := of_decide_eq_true hk
        refine we_sl ?_
        repeat' walk_at "lo"
        have ec : Lo.cutD (ns.map D.int) (some 1) none = (ns.drop 1).map D.int := by
          have e1 : HT.sIx (ns.map D.int).length 0 (some (1 : Int)) = 1 := by
            have := HT.sIx_nat (ns.map D.int).length 0 1
            rw [Nat.min_eq_left (by omega)] at this
            exact this
          unfold Lo.cutD
          rw [e1, HT.sIx_none, List.take_of_length_le (by rw [List.length_drop]; exact Nat.le_refl _), List.map_drop]
        refine .inr (.inl ⟨_, rfl, ?_⟩)
        rw [ec]
        have g := hG0.drop1 (by omega)
        repeat' walk_at "lo"
        refine wr_eqFr X hG.ok hG.ok ?_
        rw [Fr.ne_ns (fun e => by
          have e' := congrArg List.length (show ns = ns.drop 1 from e)
          rw [List.length_drop] at e'
          omega)]
        repeat' walk_at "lo"
        exact ⟨rfl, rfl⟩
      · exact ⟨rfl, rfl⟩
    rintro o s ⟨rfl, rfl⟩
    repeat' walk_at "lq"
    refine we_lstO ?_
    repeat' walk_at "lq"
    refine ⟨Nat.zero_le _, ?_⟩
    repeat' walk_at "lq"
    refine we_lstO ?_
    repeat' walk_at "lq"
    refine wc_list (.inr rfl) ?_
    repeat' walk_at "lq"
    refine ⟨by show 4 ≤ 100000; decide, ?_⟩
    refine ws_cut (fun o s => ∃ b0 d0, o = [.hand, .lst (List.map SV.d (List.map D.str (wd b0 "name"))), .lst [.d (d0), .d (.lst (ns.map .int)), .d (oi cl), .d (oi ag)]] ∧ s = [x0, some (.p 0), some (.d x), some (.d (.str z)), some (.d (.tup (ns.map .int))), some (.d (.lst (rs.map .int))), none, some (.d (oi cl)), some (.d (oi ag)), some (.d (.tup [.str "good", (Fr.of z ns cl ag).d])), some (.d (Fr.of z ns none none).d), some (.p 1), some (.p 2), none] ∧ P0 z b0 d0) ?_ ?_
    · repeat' walk_at "lo"
      · have l8 : ("abcdefgh" : Str).length = 8 := by decide +kernel
        have lA : ("A" : Str).length = 1 := by decide +kernel
        have l1 := len_cut1 hzl.1
        refine wr_addS (by omega) ?_
        repeat' walk_at "lo"
        refine we_sl ?_
        repeat' walk_at "lo"
        refine .inr (.inr ⟨z, rfl, by omega, ?_⟩)
        refine wr_addS (by omega) ?_
        repeat' walk_at "lo"
        rename_i k h0 h1
        have hbn : ∀ d ∈ [D.non, .str "", .str (z ++ "abcdefgh"), .str ("A" ++ cutS z (some 1) none), .int 3], badNm d := by
          intro d hd
          simp only [List.mem_cons, List.not_mem_nil, or_false] at hd
          rcases hd with rfl | rfl | rfl | rfl | rfl
          · exact bad_non
          · exact bad_str (by decide +kernel) (by decide +kernel) (by decide +kernel)
          · exact bad_str (by rw [len_cat]; omega) (ok_cat hG.ok (by decide +kernel)) (isName_long (by rw [len_cat]; omega))
          · exact bad_str (by rw [len_cat]; omega) (ok_cat (by decide +kernel) (ok_lett (lett_cut1 hzl.1 (isName_lett hG.nm)))) (isName_noLett (by rw [lett_cat, show lett ("A" : Str) = false by decide +kernel]; rfl))
          · exact bad_three
        obtain ⟨d0, hd0, ed0⟩ := ix_get (xs := [D.non, .str "", .str (z ++ "abcdefgh"), .str ("A" ++ cutS z (some 1) none), .int 3]) h0 h1
        refine wr_ixT ed0 ?_
        repeat' walk_at "lo"
        refine wm_append (rfl : _ = some (OW.lst _)) (by decide) ?_
        exact ⟨true, d0, rfl, rfl, hbn d0 hd0⟩
      · exact ⟨false, .str z, rfl, rfl, rfl⟩
    rintro o s ⟨b0, d0, rfl, rfl, h0⟩
    refine ws_cut (fun o s => ∃ b0 d0 b1 d1, o = [.hand, .lst (List.map SV.d (List.map D.str (wd b0 "name" ++ wd b1 "nouns"))), .lst [.d (d0), .d (d1), .d (oi cl), .d (oi ag)]] ∧ s = [x0, some (.p 0), some (.d x), some (.d (.str z)), some (.d (.tup (ns.map .int))), some (.d (.lst (rs.map .int))), none, some (.d (oi cl)), some (.d (oi ag)), some (.d (.tup [.str "good", (Fr.of z ns cl ag).d])), some (.d (Fr.of z ns none none).d), some (.p 1), some (.p 2), none] ∧ P0 z b0 d0 ∧ P1 ns b1 d1) ?_ ?_
    · repeat' walk_at "lo"
      · refine ⟨⟨hl1, hl5, hrg⟩, fun _ z => z, ?_⟩
        rintro d hd
        repeat' walk_at "lo"
        refine wm_append (rfl : _ = some (OW.lst _)) (by rw [List.length_map, List.length_map]; cases b0 <;> decide) ?_
        have e : ∀ (ws : List Str) (w : Str), List.map SV.d (List.map D.str ws) ++ [SV.d (D.str w)] = List.map SV.d (List.map D.str (ws ++ wd true w)) := fun ws w => by simp [wd]
        refine ⟨b0, d0, true, d, ?_, rfl, h0, hd⟩
        rw [← e]
        rfl
      · exact ⟨b0, d0, false, .lst (ns.map .int), by rw [show wd false "nouns" = ([] : List Str) from rfl, List.append_nil], rfl, h0, rfl⟩
    rintro o s ⟨b0, d0, b1, d1, rfl, rfl, h0, h1⟩
    refine ws_cut (fun o s => ∃ b0 d0 b1 d1 b2 d2, o = [.hand, .lst (List.map SV.d (List.map D.str (wd b0 "name" ++ wd b1 "nouns" ++ wd b2 "clause"))), .lst [.d (d0), .d (d1), .d (d2), .d (oi ag)]] ∧ s = [x0, some (.p 0), some (.d x), some (.d (.str z)), some (.d (.tup (ns.map .int))), some (.d (.lst (rs.map .int))), none, some (.d (oi cl)), some (.d (oi ag)), some (.d (.tup [.str "good", (Fr.of z ns cl ag).d])), some (.d (Fr.of z ns none none).d), some (.p 1), some (.p 2), none] ∧ P0 z b0 d0 ∧ P1 ns b1 d1 ∧ P2 ns b2 d2) ?_ ?_
    · repeat' walk_at "lo"
      · rename_i k h0' h1'
        obtain ⟨c, hc, ec⟩ := ix_get (xs := ns) h0' (by omega)
        refine wr_ixT (atI_map ec) ?_
        repeat' walk_at "lo"
        · refine wm_append (rfl : _ = some (OW.lst _)) (by rw [List.length_map, List.length_map]; cases b0 <;> cases b1 <;> decide) ?_
          have e : ∀ (ws : List Str) (w : Str), List.map SV.d (List.map D.str ws) ++ [SV.d (D.str w)] = List.map SV.d (List.map D.str (ws ++ wd true w)) := fun ws w => by simp [wd]
          refine ⟨b0, d0, b1, d1, true, .int c, ?_, rfl, h0, h1, noun_P2 hc hrg⟩
          rw [← e]
          rfl
      · refine ⟨(), rfl, trivial, fun _ z => z, ?_⟩
        rintro d hd
        repeat' walk_at "lo"
        · rename_i hk
          refine wm_append (rfl : _ = some (OW.lst _)) (by rw [List.length_map, List.length_map]; cases b0 <;> cases b1 <;> decide) ?_
          have e : ∀ (ws : List Str) (w : Str), List.map SV.d (List.map D.str ws) ++ [SV.d (D.str w)] = List.map SV.d (List.map D.str (ws ++ wd true w)) := fun ws w => by simp [wd]
          refine ⟨b0, d0, b1, d1, true, d, ?_, rfl, h0, h1, role_P2 hd (by simpa using hk)⟩
          rw [← e]
          rfl
        · rename_i hk
          refine ⟨b0, d0, b1, d1, false, d, ?_, rfl, h0, h1, non_P2 (by simpa using hk)⟩
          rw [show wd false "clause" = ([] : List Str) from rfl, List.append_nil]
          rfl
      · refine ⟨b0, d0, b1, d1, false, oi cl, ?_, rfl, h0, h1, ⟨cl, rfl, fun c e => hrm c (hcl c e)⟩⟩
        rw [show wd false "clause" = ([] : List Str) from rfl, List.append_nil]
    rintro o s ⟨b0, d0, b1, d1, b2, d2, rfl, rfl, h0, h1, h2⟩
    refine ws_cut (fun o s => ∃ b0 d0 b1 d1 b2 d2 b3 d3, o = [.hand, .lst (List.map SV.d (List.map D.str (wd b0 "name" ++ wd b1 "nouns" ++ wd b2 "clause" ++ wd b3 "agreed"))), .lst [.d (d0), .d (d1), .d (d2), .d (d3)]] ∧ s = [x0, some (.p 0), some (.d x), some (.d (.str z)), some (.d (.tup (ns.map .int))), some (.d (.lst (rs.map .int))), none, some (.d (oi cl)), some (.d (oi ag)), some (.d (.tup [.str "good", (Fr.of z ns cl ag).d])), some (.d (Fr.of z ns none none).d), some (.p 1), some (.p 2), none] ∧ P0 z b0 d0 ∧ P1 ns b1 d1 ∧ P2 ns b2 d2 ∧ P3 ns b3 d3) ?_ ?_
    · repeat' walk_at "lo"
      · rename_i k h0' h1'
        obtain ⟨c, hc, ec⟩ := ix_get (xs := rs) h0' (by omega)
        refine wr_ixL (atI_map ec) ?_
        repeat' walk_at "lo"
        · refine wm_append (rfl : _ = some (OW.lst _)) (by rw [List.length_map, List.length_map]; cases b0 <;> cases b1 <;> cases b2 <;> decide) ?_
          have e : ∀ (ws : List Str) (w : Str), List.map SV.d (List.map D.str ws) ++ [SV.d (D.str w)] = List.map SV.d (List.map D.str (ws ++ wd true w)) := fun ws w => by simp [wd]
          refine ⟨b0, d0, b1, d1, b2, d2, true, .int c, ?_, rfl, h0, h1, h2, rest_P3 (hrm c hc).2.2 ⟨(hrm c hc).1, (hrm c hc).2.1⟩⟩
          rw [← e]
          rfl
      · refine ⟨(), rfl, trivial, fun _ z => z, ?_⟩
        rintro d hd
        repeat' walk_at "lo"
        · rename_i hk
          refine wm_append (rfl : _ = some (OW.lst _)) (by rw [List.length_map, List.length_map]; cases b0 <;> cases b1 <;> cases b2 <;> decide) ?_
          have e : ∀ (ws : List Str) (w : Str), List.map SV.d (List.map D.str ws) ++ [SV.d (D.str w)] = List.map SV.d (List.map D.str (ws ++ wd true w)) := fun ws w => by simp [wd]
          refine ⟨b0, d0, b1, d1, b2, d2, true, d, ?_, rfl, h0, h1, h2, role_P3 hd (by simpa using hk) hrg⟩
          rw [← e]
          rfl
        · rename_i hk
          refine ⟨b0, d0, b1, d1, b2, d2, false, d, ?_, rfl, h0, h1, h2, non_P3 (by simpa using hk)⟩
          rw [show wd false "agreed" = ([] : List Str) from rfl, List.append_nil]
          rfl
      · refine ⟨b0, d0, b1, d1, b2, d2, false, oi ag, ?_, rfl, h0, h1, h2, ⟨ag, rfl, hag⟩⟩
        rw [show wd false "agreed" = ([] : List Str) from rfl, List.append_nil]
    rintro o s ⟨b0, d0, b1, d1, b2, d2, b3, d3, rfl, rfl, h0, h1, h2, h3⟩
    repeat' walk_at "lq"
    have hS0 := h0.sm hG0
    have hS1 := h1.sm hG0
    have hS2 := h2.sm
    have hS3 := h3.sm hG0
    have hrp := rp4 hS0 hS1 hS2 hS3
    refine wc_repr (.p (rfl : _ = some (OW.lst _)) (.cons (.cons (.cons (.cons .nil))))) rfl hrp ?_
    repeat' walk_at "lq"
    refine ⟨(d0, d1, d2, d3), rfl, P_pre hG0 h0 h1 h2 h3, fun _ z => z, ?_⟩
    rintro d hd
    repeat' walk_at "lq"
    have hfr := frW_head hG0 h0 h1 h2 h3
    have hokd := okd_words b0 b1 b2 b3
    have hwok : ∀ w, (wds b0 b1 b2 b3).head? = some w → okSt w = true := fun w h => wd_ok h
    have hnil : wds b0 b1 b2 b3 = [] → b0 = false ∧ b1 = false ∧ b2 = false ∧ b3 = false := by
      cases b0 <;> cases b1 <;> cases b2 <;> cases b3 <;> simp [wds, wd]
    show Lo.WS _ _ _ [OW.hand, OW.lst (List.map SV.d (List.map D.str (wds b0 b1 b2 b3))), OW.lst [SV.d d0, SV.d d1, SV.d d2, SV.d d3]] _ _
    generalize wds b0 b1 b2 b3 = ws at hfr hokd hwok hnil ⊢
    refine ws_cut (fun o s => o = [.hand, .lst (List.map SV.d (List.map D.str ws)), .lst [.d d0, .d d1, .d d2, .d d3]] ∧ s = [x0, some (.p 0), some (.d x), some (.d (.str z)), some (.d (.tup (ns.map .int))), some (.d (.lst (rs.map .int))), none, some (.d (oi cl)), some (.d (oi ag)), some (.d d), some (.d (Fr.of z ns none none).d), some (.p 1), some (.p 2), some (.d (.str (D.lst [d0, d1, d2, d3]).py.shown))]) ?_ ?_
    · refine ws_if (wt_test (we_op ?_))
      repeat' walk_at "lq"
      refine we_lst ?_
      repeat' walk_at "lo"
      refine wr_eqL (.p (rfl : _ = some (OW.lst _)) (AllD.map _)) .d hokd (by decide +kernel) ?_
      rw [eqv_nil]
      cases ws with
      | nil =>
        obtain ⟨rfl, rfl, rfl, rfl⟩ := hnil rfl
        obtain ⟨cl', rfl, hcl'⟩ := h2
        obtain ⟨ag', rfl, hag'⟩ := h3
        cases (show d0 = .str z from h0)
        cases (show d1 = .lst (ns.map .int) from h1)
        have hG' : Good z ns cl' ag' := ⟨hG.nm, hG.ok, hG.up, hG.rg, hG.l1, hG.l5, hcl', hag'⟩
        obtain rfl : d = .tup [.str "good", (Fr.of z ns cl' ag').d] := by
          rcases hd with ⟨_, e⟩ | ⟨wd, e, _⟩
          · exact e
          · rw [hG'.fr (.inl rfl)] at e
            cases e
        show ∃ k, SV.d (D.bl true) = SV.d (D.bl k) ∧ _
        repeat' walk_at "lo"
        refine wr_neL .d .d (by decide +kernel) (by decide +kernel) ?_
        rw [eqv_str, decide_eq_true rfl]
        repeat' walk_at "lo"
        exact ⟨rfl, rfl⟩
      | cons w r =>
        have hfw : frW d0 d1 d2 d3 = some w := hfr
        obtain rfl : d = .tup [.str "bad", .str w] := by
          rcases hd with ⟨e, _⟩ | ⟨wd, e, e2⟩
          · rw [hfw] at e
            cases e
          · rw [hfw] at e
            cases e
            exact e2
        show ∃ k, SV.d (D.bl false) = SV.d (D.bl k) ∧ _
        repeat' walk_at "lo"
        refine wr_ixO (rfl : _ = some (OW.lst _)) (x := .d (.str w)) (atI_nat (j := 0) rfl) ?_
        repeat' walk_at "lo"
        refine wr_neL .d .d (okd_tup ?_) (okd_tup ?_) ?_
        · intro y hy
          simp only [List.mem_cons, List.not_mem_nil, or_false] at hy
          rcases hy with rfl | rfl
          · exact ⟨rfl, by decide +kernel⟩
          · exact ⟨rfl, okd_str (hwok w rfl)⟩
        · intro y hy
          simp only [List.mem_cons, List.not_mem_nil, or_false] at hy
          rcases hy with rfl | rfl
          · exact ⟨rfl, by decide +kernel⟩
          · exact ⟨rfl, okd_str (hwok w rfl)⟩
        rw [eqv_pair, decide_eq_true rfl, decide_eq_true rfl]
        repeat' walk_at "lo"
        exact ⟨rfl, rfl⟩
    rintro o s ⟨rfl, rfl⟩
    refine ws_if (wt_test (we_op (we_cb ?_)))
    repeat' walk_at "lq"
    refine wc_repr (.p (rfl : _ = some (OW.lst _)) (.cons (.cons (.cons (.cons .nil))))) rfl hrp ?_
    repeat' walk_at "lq"
    refine wr_neStr ?_
    rw [decide_eq_true rfl]
    repeat' walk_at "lo"
    exact ⟨[.hand], [none, some (.p 0), none, none, none, none, none, none, none, none, none, none, none, none], ⟨⟨[_, _], rfl⟩, .drop (.keepp (by decide) (SlF.drops 1 _))⟩, OwP_hand OwP_nil, Nat.le_refl _, none, rfl, rfl⟩
  · rintro o s ⟨x0, rfl, rfl⟩
    repeat' walk_at "lq"
    rfl
end
end L3
end
set_option Elab.async false
set_option linter.all false
set_option maxRecDepth 100000
set_option maxHeartbeats 1000000
namespace L3
open PySem PySem.Spec PyProof.Rows L2 PySem.W PySem.Calls Lo
theorem txt_mk {P : Program} {K : PySem.W.Frag} {mg : PySem.Str → Option Value} {h : Heap} {fa : Addr} (KX : K.In h) (G : h.Ns mainGlobals mg) (hfa : mg "law" = some (.ref fa)) {f_BadFrame___init__ f_is_whole f_is_among f_is_row f_are_letters f_is_name f__are_nouns f_Frame___init__ f_Frame___eq__ f_Frame_slots f__law_hand f__law_mixed f__law_take f__law_shuffled f__law_some f__law_word f__law_as_list f__law_no_role f__law_told f__law_shows f__law_no_nouns f_law C_TongueError C_BadStock C_BadFrame C_Frame p_Frame_slots : Addr}
    (a_is_whole : PySem.W.nsIn K mainGlobals "is_whole" = some (some (.ref f_is_whole)))
    {oc_is_whole kV_is_whole dc_is_whole pm_is_whole cd_is_whole ct_is_whole : Value}
    {od_is_whole an_is_whole : Option Addr}
    {sl_is_whole : Array (Option Value)}
    (l_is_whole : K.lookup f_is_whole = some ⟨oc_is_whole, od_is_whole, .func (PySem.W.fnOf "is_whole" "is_whole" (defArgs s_is_whole) (defBody s_is_whole) (defScope s_is_whole) (.ref dT_is_whole) kV_is_whole dc_is_whole pm_is_whole an_is_whole cd_is_whole ct_is_whole), sl_is_whole⟩)
    {e1_is_whole : Value}
    {e2_is_whole : Option Addr}
    {e3_is_whole : Nat}
    {e4_is_whole : Array (Option Value)}
    (t_is_whole : K.lookup dT_is_whole = some ⟨e1_is_whole, e2_is_whole, .seq #[Value.none, Value.none] e3_is_whole, e4_is_whole⟩)
    (c_is_whole : PySem.W.codeIn K cd_is_whole "is_whole" = true)
    (k_is_whole : PySem.W.keepIn K (.ref f_is_whole) = true)
    (a_is_among : PySem.W.nsIn K mainGlobals "is_among" = some (some (.ref f_is_among)))
    {oc_is_among kV_is_among dc_is_among pm_is_among cd_is_among ct_is_among : Value}
    {od_is_among an_is_among : Option Addr}
    {sl_is_among : Array (Option Value)}
    (l_is_among : K.lookup f_is_among = some ⟨oc_is_among, od_is_among, .func (PySem.W.fnOf "is_among" "is_among" (defArgs s_is_among) (defBody s_is_among) (defScope s_is_among) .none kV_is_among dc_is_among pm_is_among an_is_among cd_is_among ct_is_among), sl_is_among⟩)
    (c_is_among : PySem.W.codeIn K cd_is_among "is_among" = true)
    (k_is_among : PySem.W.keepIn K (.ref f_is_among) = true)
    (a_is_row : PySem.W.nsIn K mainGlobals "is_row" = some (some (.ref f_is_row)))
    {oc_is_row kV_is_row dc_is_row pm_is_row cd_is_row ct_is_row : Value}
    {od_is_row an_is_row : Option Addr}
    {sl_is_row : Array (Option Value)}
    (l_is_row : K.lookup f_is_row = some ⟨oc_is_row, od_is_row, .func (PySem.W.fnOf "is_row" "is_row" (defArgs s_is_row) (defBody s_is_row) (defScope s_is_row) (.ref dT_is_row) kV_is_row dc_is_row pm_is_row an_is_row cd_is_row ct_is_row), sl_is_row⟩)
    {e1_is_row : Value}
    {e2_is_row : Option Addr}
    {e3_is_row : Nat}
    {e4_is_row : Array (Option Value)}
    {td0_is_row : Nat}
    (t_is_row : K.lookup dT_is_row = some ⟨e1_is_row, e2_is_row, .seq #[Value.int (0) td0_is_row, Value.none] e3_is_row, e4_is_row⟩)
    (c_is_row : PySem.W.codeIn K cd_is_row "is_row" = true)
    (k_is_row : PySem.W.keepIn K (.ref f_is_row) = true)
    (a_are_letters : PySem.W.nsIn K mainGlobals "are_letters" = some (some (.ref f_are_letters)))
    {oc_are_letters kV_are_letters dc_are_letters pm_are_letters cd_are_letters ct_are_letters : Value}
    {od_are_letters an_are_letters : Option Addr}
    {sl_are_letters : Array (Option Value)}
    (l_are_letters : K.lookup f_are_letters = some ⟨oc_are_letters, od_are_letters, .func (PySem.W.fnOf "are_letters" "are_letters" (defArgs s_are_letters) (defBody s_are_letters) (defScope s_are_letters) .none kV_are_letters dc_are_letters pm_are_letters an_are_letters cd_are_letters ct_are_letters), sl_are_letters⟩)
    (c_are_letters : PySem.W.codeIn K cd_are_letters "are_letters" = true)
    (k_are_letters : PySem.W.keepIn K (.ref f_are_letters) = true)
    (a_is_name : PySem.W.nsIn K mainGlobals "is_name" = some (some (.ref f_is_name)))
    {oc_is_name kV_is_name dc_is_name pm_is_name cd_is_name ct_is_name : Value}
    {od_is_name an_is_name : Option Addr}
    {sl_is_name : Array (Option Value)}
    (l_is_name : K.lookup f_is_name = some ⟨oc_is_name, od_is_name, .func (PySem.W.fnOf "is_name" "is_name" (defArgs s_is_name) (defBody s_is_name) (defScope s_is_name) .none kV_is_name dc_is_name pm_is_name an_is_name cd_is_name ct_is_name), sl_is_name⟩)
    (c_is_name : PySem.W.codeIn K cd_is_name "is_name" = true)
    (k_is_name : PySem.W.keepIn K (.ref f_is_name) = true)
    (a__are_nouns : PySem.W.nsIn K mainGlobals "_are_nouns" = some (some (.ref f__are_nouns)))
    {oc__are_nouns kV__are_nouns dc__are_nouns pm__are_nouns cd__are_nouns ct__are_nouns : Value}
    {od__are_nouns an__are_nouns : Option Addr}
    {sl__are_nouns : Array (Option Value)}
    (l__are_nouns : K.lookup f__are_nouns = some ⟨oc__are_nouns, od__are_nouns, .func (PySem.W.fnOf "_are_nouns" "_are_nouns" (defArgs s__are_nouns) (defBody s__are_nouns) (defScope s__are_nouns) .none kV__are_nouns dc__are_nouns pm__are_nouns an__are_nouns cd__are_nouns ct__are_nouns), sl__are_nouns⟩)
    (c__are_nouns : PySem.W.codeIn K cd__are_nouns "_are_nouns" = true)
    (k__are_nouns : PySem.W.keepIn K (.ref f__are_nouns) = true)
    (a__law_hand : PySem.W.nsIn K mainGlobals "_law_hand" = some (some (.ref f__law_hand)))
    {oc__law_hand kV__law_hand dc__law_hand pm__law_hand cd__law_hand ct__law_hand : Value}
    {od__law_hand an__law_hand : Option Addr}
    {sl__law_hand : Array (Option Value)}
    (l__law_hand : K.lookup f__law_hand = some ⟨oc__law_hand, od__law_hand, .func (PySem.W.fnOf "_law_hand" "_law_hand" (defArgs s__law_hand) (defBody s__law_hand) (defScope s__law_hand) .none kV__law_hand dc__law_hand pm__law_hand an__law_hand cd__law_hand ct__law_hand), sl__law_hand⟩)
    (c__law_hand : PySem.W.codeIn K cd__law_hand "_law_hand" = true)
    (k__law_hand : PySem.W.keepIn K (.ref f__law_hand) = true)
    (a__law_mixed : PySem.W.nsIn K mainGlobals "_law_mixed" = some (some (.ref f__law_mixed)))
    {oc__law_mixed kV__law_mixed dc__law_mixed pm__law_mixed cd__law_mixed ct__law_mixed : Value}
    {od__law_mixed an__law_mixed : Option Addr}
    {sl__law_mixed : Array (Option Value)}
    (l__law_mixed : K.lookup f__law_mixed = some ⟨oc__law_mixed, od__law_mixed, .func (PySem.W.fnOf "_law_mixed" "_law_mixed" (defArgs s__law_mixed) (defBody s__law_mixed) (defScope s__law_mixed) .none kV__law_mixed dc__law_mixed pm__law_mixed an__law_mixed cd__law_mixed ct__law_mixed), sl__law_mixed⟩)
    (c__law_mixed : PySem.W.codeIn K cd__law_mixed "_law_mixed" = true)
    (k__law_mixed : PySem.W.keepIn K (.ref f__law_mixed) = true)
    (a__law_take : PySem.W.nsIn K mainGlobals "_law_take" = some (some (.ref f__law_take)))
    {oc__law_take kV__law_take dc__law_take pm__law_take cd__law_take ct__law_take : Value}
    {od__law_take an__law_take : Option Addr}
    {sl__law_take : Array (Option Value)}
    (l__law_take : K.lookup f__law_take = some ⟨oc__law_take, od__law_take, .func (PySem.W.fnOf "_law_take" "_law_take" (defArgs s__law_take) (defBody s__law_take) (defScope s__law_take) .none kV__law_take dc__law_take pm__law_take an__law_take cd__law_take ct__law_take), sl__law_take⟩)
    (c__law_take : PySem.W.codeIn K cd__law_take "_law_take" = true)
    (k__law_take : PySem.W.keepIn K (.ref f__law_take) = true)
    (a__law_shuffled : PySem.W.nsIn K mainGlobals "_law_shuffled" = some (some (.ref f__law_shuffled)))
    {oc__law_shuffled kV__law_shuffled dc__law_shuffled pm__law_shuffled cd__law_shuffled ct__law_shuffled : Value}
    {od__law_shuffled an__law_shuffled : Option Addr}
    {sl__law_shuffled : Array (Option Value)}
    (l__law_shuffled : K.lookup f__law_shuffled = some ⟨oc__law_shuffled, od__law_shuffled, .func (PySem.W.fnOf "_law_shuffled" "_law_shuffled" (defArgs s__law_shuffled) (defBody s__law_shuffled) (defScope s__law_shuffled) .none kV__law_shuffled dc__law_shuffled pm__law_shuffled an__law_shuffled cd__law_shuffled ct__law_shuffled), sl__law_shuffled⟩)
    (c__law_shuffled : PySem.W.codeIn K cd__law_shuffled "_law_shuffled" = true)
    (k__law_shuffled : PySem.W.keepIn K (.ref f__law_shuffled) = true)
    (a__law_some : PySem.W.nsIn K mainGlobals "_law_some" = some (some (.ref f__law_some)))
    {oc__law_some kV__law_some dc__law_some pm__law_some cd__law_some ct__law_some : Value}
    {od__law_some an__law_some : Option Addr}
    {sl__law_some : Array (Option Value)}
    (l__law_some : K.lookup f__law_some = some ⟨oc__law_some, od__law_some, .func (PySem.W.fnOf "_law_some" "_law_some" (defArgs s__law_some) (defBody s__law_some) (defScope s__law_some) .none kV__law_some dc__law_some pm__law_some an__law_some cd__law_some ct__law_some), sl__law_some⟩)
    (c__law_some : PySem.W.codeIn K cd__law_some "_law_some" = true)
    (k__law_some : PySem.W.keepIn K (.ref f__law_some) = true)
    (a__law_word : PySem.W.nsIn K mainGlobals "_law_word" = some (some (.ref f__law_word)))
    {oc__law_word kV__law_word dc__law_word pm__law_word cd__law_word ct__law_word : Value}
    {od__law_word an__law_word : Option Addr}
    {sl__law_word : Array (Option Value)}
    (l__law_word : K.lookup f__law_word = some ⟨oc__law_word, od__law_word, .func (PySem.W.fnOf "_law_word" "_law_word" (defArgs s__law_word) (defBody s__law_word) (defScope s__law_word) .none kV__law_word dc__law_word pm__law_word an__law_word cd__law_word ct__law_word), sl__law_word⟩)
    (c__law_word : PySem.W.codeIn K cd__law_word "_law_word" = true)
    (k__law_word : PySem.W.keepIn K (.ref f__law_word) = true)
    (a__law_as_list : PySem.W.nsIn K mainGlobals "_law_as_list" = some (some (.ref f__law_as_list)))
    {oc__law_as_list kV__law_as_list dc__law_as_list pm__law_as_list cd__law_as_list ct__law_as_list : Value}
    {od__law_as_list an__law_as_list : Option Addr}
    {sl__law_as_list : Array (Option Value)}
    (l__law_as_list : K.lookup f__law_as_list = some ⟨oc__law_as_list, od__law_as_list, .func (PySem.W.fnOf "_law_as_list" "_law_as_list" (defArgs s__law_as_list) (defBody s__law_as_list) (defScope s__law_as_list) .none kV__law_as_list dc__law_as_list pm__law_as_list an__law_as_list cd__law_as_list ct__law_as_list), sl__law_as_list⟩)
    (c__law_as_list : PySem.W.codeIn K cd__law_as_list "_law_as_list" = true)
    (k__law_as_list : PySem.W.keepIn K (.ref f__law_as_list) = true)
    (a__law_no_role : PySem.W.nsIn K mainGlobals "_law_no_role" = some (some (.ref f__law_no_role)))
    {oc__law_no_role kV__law_no_role dc__law_no_role pm__law_no_role cd__law_no_role ct__law_no_role : Value}
    {od__law_no_role an__law_no_role : Option Addr}
    {sl__law_no_role : Array (Option Value)}
    (l__law_no_role : K.lookup f__law_no_role = some ⟨oc__law_no_role, od__law_no_role, .func (PySem.W.fnOf "_law_no_role" "_law_no_role" (defArgs s__law_no_role) (defBody s__law_no_role) (defScope s__law_no_role) .none kV__law_no_role dc__law_no_role pm__law_no_role an__law_no_role cd__law_no_role ct__law_no_role), sl__law_no_role⟩)
    (c__law_no_role : PySem.W.codeIn K cd__law_no_role "_law_no_role" = true)
    (k__law_no_role : PySem.W.keepIn K (.ref f__law_no_role) = true)
    (a__law_told : PySem.W.nsIn K mainGlobals "_law_told" = some (some (.ref f__law_told)))
    {oc__law_told kV__law_told dc__law_told pm__law_told cd__law_told ct__law_told : Value}
    {od__law_told an__law_told : Option Addr}
    {sl__law_told : Array (Option Value)}
    (l__law_told : K.lookup f__law_told = some ⟨oc__law_told, od__law_told, .func (PySem.W.fnOf "_law_told" "_law_told" (defArgs s__law_told) (defBody s__law_told) (defScope s__law_told) .none kV__law_told dc__law_told pm__law_told an__law_told cd__law_told ct__law_told), sl__law_told⟩)
    (c__law_told : PySem.W.codeIn K cd__law_told "_law_told" = true)
    (k__law_told : PySem.W.keepIn K (.ref f__law_told) = true)
    (a__law_shows : PySem.W.nsIn K mainGlobals "_law_shows" = some (some (.ref f__law_shows)))
    {oc__law_shows kV__law_shows dc__law_shows pm__law_shows cd__law_shows ct__law_shows : Value}
    {od__law_shows an__law_shows : Option Addr}
    {sl__law_shows : Array (Option Value)}
    (l__law_shows : K.lookup f__law_shows = some ⟨oc__law_shows, od__law_shows, .func (PySem.W.fnOf "_law_shows" "_law_shows" (defArgs s__law_shows) (defBody s__law_shows) (defScope s__law_shows) .none kV__law_shows dc__law_shows pm__law_shows an__law_shows cd__law_shows ct__law_shows), sl__law_shows⟩)
    (c__law_shows : PySem.W.codeIn K cd__law_shows "_law_shows" = true)
    (k__law_shows : PySem.W.keepIn K (.ref f__law_shows) = true)
    (a__law_no_nouns : PySem.W.nsIn K mainGlobals "_law_no_nouns" = some (some (.ref f__law_no_nouns)))
    {oc__law_no_nouns kV__law_no_nouns dc__law_no_nouns pm__law_no_nouns cd__law_no_nouns ct__law_no_nouns : Value}
    {od__law_no_nouns an__law_no_nouns : Option Addr}
    {sl__law_no_nouns : Array (Option Value)}
    (l__law_no_nouns : K.lookup f__law_no_nouns = some ⟨oc__law_no_nouns, od__law_no_nouns, .func (PySem.W.fnOf "_law_no_nouns" "_law_no_nouns" (defArgs s__law_no_nouns) (defBody s__law_no_nouns) (defScope s__law_no_nouns) .none kV__law_no_nouns dc__law_no_nouns pm__law_no_nouns an__law_no_nouns cd__law_no_nouns ct__law_no_nouns), sl__law_no_nouns⟩)
    (c__law_no_nouns : PySem.W.codeIn K cd__law_no_nouns "_law_no_nouns" = true)
    (k__law_no_nouns : PySem.W.keepIn K (.ref f__law_no_nouns) = true)
    (a_law : PySem.W.nsIn K mainGlobals "law" = some (some (.ref f_law)))
    {oc_law kV_law dc_law pm_law cd_law ct_law : Value}
    {od_law an_law : Option Addr}
    {sl_law : Array (Option Value)}
    (l_law : K.lookup f_law = some ⟨oc_law, od_law, .func (PySem.W.fnOf "law" "law" (defArgs s_law) (defBody s_law) (defScope s_law) .none kV_law dc_law pm_law an_law cd_law ct_law), sl_law⟩)
    (c_law : PySem.W.codeIn K cd_law "law" = true)
    (k_law : PySem.W.keepIn K (.ref f_law) = true)
    (ac_Frame : PySem.W.nsIn K mainGlobals "Frame" = some (some (.ref C_Frame)))
    (a_Frame___init__ : PySem.W.findIn K (.ref C_Frame) "__init__" = some (some (.ref f_Frame___init__)))
    (i_Frame___init__ : PySem.W.isFn K (.ref f_Frame___init__) = true)
    {oc_Frame___init__ kV_Frame___init__ dc_Frame___init__ pm_Frame___init__ cd_Frame___init__ ct_Frame___init__ : Value}
    {od_Frame___init__ an_Frame___init__ : Option Addr}
    {sl_Frame___init__ : Array (Option Value)}
    (l_Frame___init__ : K.lookup f_Frame___init__ = some ⟨oc_Frame___init__, od_Frame___init__, .func (PySem.W.fnOf "__init__" "Frame.__init__" (defArgs s_Frame___init__) (defBody s_Frame___init__) (defScope s_Frame___init__) (.ref dT_Frame___init__) kV_Frame___init__ dc_Frame___init__ pm_Frame___init__ an_Frame___init__ cd_Frame___init__ ct_Frame___init__), sl_Frame___init__⟩)
    {e1_Frame___init__ : Value}
    {e2_Frame___init__ : Option Addr}
    {e3_Frame___init__ : Nat}
    {e4_Frame___init__ : Array (Option Value)}
    (t_Frame___init__ : K.lookup dT_Frame___init__ = some ⟨e1_Frame___init__, e2_Frame___init__, .seq #[Value.none, Value.none] e3_Frame___init__, e4_Frame___init__⟩)
    (c_Frame___init__ : PySem.W.codeIn K cd_Frame___init__ "Frame.__init__" = true)
    (k_Frame___init__ : PySem.W.keepIn K (.ref f_Frame___init__) = true)
    (a_Frame___eq__ : PySem.W.findIn K (.ref C_Frame) "__eq__" = some (some (.ref f_Frame___eq__)))
    (i_Frame___eq__ : PySem.W.isFn K (.ref f_Frame___eq__) = true)
    {oc_Frame___eq__ kV_Frame___eq__ dc_Frame___eq__ pm_Frame___eq__ cd_Frame___eq__ ct_Frame___eq__ : Value}
    {od_Frame___eq__ an_Frame___eq__ : Option Addr}
    {sl_Frame___eq__ : Array (Option Value)}
    (l_Frame___eq__ : K.lookup f_Frame___eq__ = some ⟨oc_Frame___eq__, od_Frame___eq__, .func (PySem.W.fnOf "__eq__" "Frame.__eq__" (defArgs s_Frame___eq__) (defBody s_Frame___eq__) (defScope s_Frame___eq__) .none kV_Frame___eq__ dc_Frame___eq__ pm_Frame___eq__ an_Frame___eq__ cd_Frame___eq__ ct_Frame___eq__), sl_Frame___eq__⟩)
    (c_Frame___eq__ : PySem.W.codeIn K cd_Frame___eq__ "Frame.__eq__" = true)
    (k_Frame___eq__ : PySem.W.keepIn K (.ref f_Frame___eq__) = true)
    (p1_Frame_slots : PySem.W.findIn K (.ref C_Frame) "slots" = some (some (.ref p_Frame_slots)))
    (p2_Frame_slots : PySem.W.specialIn K (.ref p_Frame_slots) "__get__" = some (some (.builtin "property.__get__")))
    (p3_Frame_slots : PySem.W.takesIn K (.ref p_Frame_slots) = some true)
    {re_Frame_slots : List Value}
    (p4_Frame_slots : PySem.W.recIn K p_Frame_slots "property" = some (.ref f_Frame_slots :: re_Frame_slots))
    {oc_Frame_slots kV_Frame_slots dc_Frame_slots pm_Frame_slots cd_Frame_slots ct_Frame_slots : Value}
    {od_Frame_slots an_Frame_slots : Option Addr}
    {sl_Frame_slots : Array (Option Value)}
    (l_Frame_slots : K.lookup f_Frame_slots = some ⟨oc_Frame_slots, od_Frame_slots, .func (PySem.W.fnOf "slots" "Frame.slots" (defArgs s_Frame_slots) (defBody s_Frame_slots) (defScope s_Frame_slots) .none kV_Frame_slots dc_Frame_slots pm_Frame_slots an_Frame_slots cd_Frame_slots ct_Frame_slots), sl_Frame_slots⟩)
    (c_Frame_slots : PySem.W.codeIn K cd_Frame_slots "Frame.slots" = true)
    (k_Frame_slots : PySem.W.keepIn K (.ref f_Frame_slots) = true)
    (pg_Frame : PySem.W.plainGet K C_Frame Str.empty = true)
    (hd_Frame : PySem.W.hasDictIn K C_Frame = true)
    (po_Frame : PySem.W.plainOver K C_Frame = true)
    (sa_Frame : PySem.W.findIn K (.ref C_Frame) "__setattr__" = some (some (.builtin "object.__setattr__")))
    (mk_Frame : PySem.W.makesIn K C_Frame = true)
    (kc_Frame : PySem.W.keepIn K (.ref C_Frame) = true)
    (no_Frame_name : PySem.W.findIn K (.ref C_Frame) "name" = some none)
    (no_Frame_nouns : PySem.W.findIn K (.ref C_Frame) "nouns" = some none)
    (no_Frame_clause : PySem.W.findIn K (.ref C_Frame) "clause" = some none)
    (no_Frame_agreed : PySem.W.findIn K (.ref C_Frame) "agreed" = some none)
    (ne_Frame : PySem.W.findIn K (.ref C_Frame) "__ne__" = some (some (.builtin "object.__ne__")))
    (ob_Frame : PySem.W.mroIn K C_Frame (.type "object") = some true)
    (cl_Frame : PySem.W.findIn K (.ref C_Frame) "__class__" = some (some (.builtin "object.__class__")))
    (is_Frame_Frame : PySem.W.kitOne K (.ref C_Frame) (.ref C_Frame) = some true)
    (nf_Frame_NoneType : PySem.W.notFirst K C_Frame (.type "NoneType") = true)
    (it_Frame_NoneType : PySem.W.kitOne K (.type "NoneType") (.ref C_Frame) = some false)
    (nf_Frame_bool : PySem.W.notFirst K C_Frame (.type "bool") = true)
    (it_Frame_bool : PySem.W.kitOne K (.type "bool") (.ref C_Frame) = some false)
    (nf_Frame_int : PySem.W.notFirst K C_Frame (.type "int") = true)
    (it_Frame_int : PySem.W.kitOne K (.type "int") (.ref C_Frame) = some false)
    (nf_Frame_str : PySem.W.notFirst K C_Frame (.type "str") = true)
    (it_Frame_str : PySem.W.kitOne K (.type "str") (.ref C_Frame) = some false)
    (nf_Frame_list : PySem.W.notFirst K C_Frame (.type "list") = true)
    (it_Frame_list : PySem.W.kitOne K (.type "list") (.ref C_Frame) = some false)
    (nf_Frame_tuple : PySem.W.notFirst K C_Frame (.type "tuple") = true)
    (it_Frame_tuple : PySem.W.kitOne K (.type "tuple") (.ref C_Frame) = some false)
    (oc1 : PySem.W.specialIn K (.builtin "object.__class__") "__get__" = some (some (.builtin "getset_descriptor.__get__")))
    (oc2 : PySem.W.takesIn K (.builtin "object.__class__") = some true)
    (ac_TongueError : PySem.W.nsIn K mainGlobals "TongueError" = some (some (.ref C_TongueError)))
    (ac_BadStock : PySem.W.nsIn K mainGlobals "BadStock" = some (some (.ref C_BadStock)))
    (ac_BadFrame : PySem.W.nsIn K mainGlobals "BadFrame" = some (some (.ref C_BadFrame)))
    (ops : PySem.W.nsIn K cStatics "thirdparty.any" = some none)
    {xn_BadFrame xq_BadFrame : PySem.Str}
    {xN_BadFrame : Addr}
    {xb_BadFrame xm_BadFrame xu_BadFrame : List Value}
    {xs_BadFrame : List PySem.Str}
    {xa_BadFrame : Bool}
    {xo_BadFrame : Option Bool}
    {xd_BadFrame : Option Addr}
    {x0_BadFrame x1_BadFrame x2_BadFrame x3_BadFrame x5_BadFrame : Option Value}
    (xc_BadFrame : K.lookup C_BadFrame = some (excClassObj xn_BadFrame xq_BadFrame C_BadFrame xN_BadFrame xb_BadFrame xm_BadFrame true xs_BadFrame xu_BadFrame xa_BadFrame xo_BadFrame xd_BadFrame x0_BadFrame x1_BadFrame x2_BadFrame x3_BadFrame x5_BadFrame "ValueError.__new__"))
    (xr_BadFrame : PySem.HandSPX.refsVE xm_BadFrame = true)
    (xsa_BadFrame : PySem.W.findIn K (.ref C_BadFrame) "__setattr__" = some (some (.builtin "object.__setattr__")))
    (xb1_BadFrame : PySem.W.subIn K (.ref C_BadFrame) (.type "BaseException") = some true)
    (xt_BadFrame : PySem.W.typeIn K (.ref C_BadFrame) = some (.type "type"))
    (xk_BadFrame : PySem.W.keepIn K (.ref C_BadFrame) = true)
    (xga_BadFrame : PySem.W.findIn K (.ref C_BadFrame) "__getattribute__" = some (some (.builtin "BaseException.__getattribute__")))
    (xgg_BadFrame : PySem.W.findIn K (.ref C_BadFrame) "__getattr__" = some none)
    (xhd_BadFrame : PySem.W.hasDictIn K C_BadFrame = true)
    (xcl_BadFrame : PySem.W.findIn K (.ref C_BadFrame) "__class__" = some (some (.builtin "object.__class__")))
    (xmo_BadFrame : PySem.W.mroIn K C_BadFrame (.type "object") = some true)
    (xno_BadFrame_what : PySem.W.findIn K (.ref C_BadFrame) "what" = some none)
    (xi_BadFrame : PySem.W.findIn K (.ref C_BadFrame) "__init__" = some (some (.ref f_BadFrame___init__)))
    {oc_BadFrame___init__ kV_BadFrame___init__ dc_BadFrame___init__ pm_BadFrame___init__ ct_BadFrame___init__ : Value}
    {od_BadFrame___init__ an_BadFrame___init__ : Option Addr}
    {sl_BadFrame___init__ : Array (Option Value)}
    {cda_BadFrame___init__ cc_BadFrame___init__ : Addr}
    (xf_BadFrame : K.lookup f_BadFrame___init__ = some ⟨oc_BadFrame___init__, od_BadFrame___init__, .func (ksFn "__init__" "BadFrame.__init__" (defArgs s_BadFrame___init__) (defBody s_BadFrame___init__) (defScope s_BadFrame___init__) .none kV_BadFrame___init__ dc_BadFrame___init__ pm_BadFrame___init__ an_BadFrame___init__ (.ref cda_BadFrame___init__) ct_BadFrame___init__ cc_BadFrame___init__), sl_BadFrame___init__⟩)
    (xti_BadFrame : PySem.W.typeIn K (.ref f_BadFrame___init__) = some (.type "function"))
    (xcd_BadFrame : PySem.W.codeIn K (.ref cda_BadFrame___init__) "BadFrame.__init__" = true)
    {ccl_BadFrame___init__ : Value}
    {cdd_BadFrame___init__ : Option Addr}
    {vs_BadFrame___init__ : Array Value}
    {ccs_BadFrame___init__ : Array (Option Value)}
    (xco_BadFrame : K.lookup cda_BadFrame___init__ = some ⟨ccl_BadFrame___init__, cdd_BadFrame___init__, .fields vs_BadFrame___init__, ccs_BadFrame___init__⟩)
    {file_BadFrame___init__ : PySem.Str}
    {tf_BadFrame___init__ : Tok}
    (xfl_BadFrame : vs_BadFrame___init__[2]? = some (.str file_BadFrame___init__ tf_BadFrame___init__))
    (xfe_BadFrame : ((P.main.file : PySem.Str) == file_BadFrame___init__) = true)
    {cl_BadFrame___init__ : Value}
    {cld_BadFrame___init__ : Option Addr}
    {csl_BadFrame___init__ : Array (Option Value)}
    (xce_BadFrame : K.lookup cc_BadFrame___init__ = some ⟨cl_BadFrame___init__, cld_BadFrame___init__, .cell (some (.ref C_BadFrame)), csl_BadFrame___init__⟩)
    {ccd_BadFrame___init__ : ClassData}
    (xcc_BadFrame : clsIn K C_BadFrame = some ccd_BadFrame___init__)
    (xsu_BadFrame : mroIn K C_BadFrame (.ref C_BadFrame) = some true)
    (xsi_BadFrame : ks_superIn K C_BadFrame C_BadFrame "__init__" = some (some (.builtin "ValueError.__init__")))
    (xve_BadFrame : subIn K (.ref C_BadFrame) (.type "ValueError") = some true)
    (xis_BadFrame_BadFrame : PySem.W.kitOne K (.ref C_BadFrame) (.ref C_BadFrame) = some true)
    (xis_BadFrame_BadStock : PySem.W.kitOne K (.ref C_BadFrame) (.ref C_BadStock) = some false)
    (xis_BadFrame_ValueError : PySem.W.kitOne K (.ref C_BadFrame) (.type "ValueError") = some true)
    (xe1_BadFrame_TongueError : PySem.W.subIn K (.ref C_TongueError) (.type "BaseException") = some true)
    (xe2_BadFrame_TongueError : PySem.W.hasDictIn K C_TongueError = true)
    (xe3_BadFrame_TongueError : PySem.W.typeIn K (.ref C_TongueError) = some (.type "type"))
    (xe4_BadFrame_TongueError : PySem.W.subIn K (.ref C_BadFrame) (.ref C_TongueError) = some true)
    {cnt_NAME_MOST : Nat}
    (cn_NAME_MOST : PySem.W.nsIn K mainGlobals "NAME_MOST" = some (some (.int 8 cnt_NAME_MOST)))
    (z_ValueError : PySem.W.nsIn K mainGlobals "ValueError" = some none)
    (z_all : PySem.W.nsIn K mainGlobals "all" = some none)
    (z_bool : PySem.W.nsIn K mainGlobals "bool" = some none)
    (z_int : PySem.W.nsIn K mainGlobals "int" = some none)
    (z_isinstance : PySem.W.nsIn K mainGlobals "isinstance" = some none)
    (z_len : PySem.W.nsIn K mainGlobals "len" = some none)
    (z_list : PySem.W.nsIn K mainGlobals "list" = some none)
    (z_property : PySem.W.nsIn K mainGlobals "property" = some none)
    (z_range : PySem.W.nsIn K mainGlobals "range" = some none)
    (z_repr : PySem.W.nsIn K mainGlobals "repr" = some none)
    (z_sorted : PySem.W.nsIn K mainGlobals "sorted" = some none)
    (z_str : PySem.W.nsIn K mainGlobals "str" = some none)
    (z_super : PySem.W.nsIn K mainGlobals "super" = some none)
    (z_tuple : PySem.W.nsIn K mainGlobals "tuple" = some none)
    (hsup : (P.main.scope.names.lookup ("super" : PySem.Str)).isSome = false)
    : fa = f_law ∧ Txt P K mg ⟨f_BadFrame___init__, f_is_whole, f_is_among, f_is_row, f_are_letters, f_is_name, f__are_nouns, f_Frame___init__, f_Frame___eq__, f_Frame_slots, f__law_hand, f__law_mixed, f__law_take, f__law_shuffled, f__law_some, f__law_word, f__law_as_list, f__law_no_role, f__law_told, f__law_shows, f__law_no_nouns, f_law, C_TongueError, C_BadStock, C_BadFrame, C_Frame, p_Frame_slots⟩ := by
  have e := hfa.symm.trans (PySem.W.mg_of KX G a_law)
  have e2 : fa = f_law := by cases e; rfl
  exact ⟨e2, {
    F_is_whole := ⟨_, ⟨oc_is_whole, od_is_whole, _, kV_is_whole, dc_is_whole, pm_is_whole, an_is_whole, cd_is_whole, ct_is_whole, sl_is_whole, rfl, l_is_whole, c_is_whole, (.inr ⟨by simp, dT_is_whole, _, [Value.none, Value.none], e3_is_whole, rfl, t_is_whole, rfl, (.cons rfl (.cons rfl .nil))⟩), .inl rfl⟩, k_is_whole⟩,
    A_is_whole := ⟨PySem.W.mg_of KX G a_is_whole, k_is_whole⟩,
    F_is_among := ⟨_, ⟨oc_is_among, od_is_among, _, kV_is_among, dc_is_among, pm_is_among, an_is_among, cd_is_among, ct_is_among, sl_is_among, rfl, l_is_among, c_is_among, (.inl ⟨rfl, rfl⟩), .inl rfl⟩, k_is_among⟩,
    A_is_among := ⟨PySem.W.mg_of KX G a_is_among, k_is_among⟩,
    F_is_row := ⟨_, ⟨oc_is_row, od_is_row, _, kV_is_row, dc_is_row, pm_is_row, an_is_row, cd_is_row, ct_is_row, sl_is_row, rfl, l_is_row, c_is_row, (.inr ⟨by simp, dT_is_row, _, [Value.int (0) td0_is_row, Value.none], e3_is_row, rfl, t_is_row, rfl, (.cons ⟨_, rfl⟩ (.cons rfl .nil))⟩), .inl rfl⟩, k_is_row⟩,
    A_is_row := ⟨PySem.W.mg_of KX G a_is_row, k_is_row⟩,
    F_are_letters := ⟨_, ⟨oc_are_letters, od_are_letters, _, kV_are_letters, dc_are_letters, pm_are_letters, an_are_letters, cd_are_letters, ct_are_letters, sl_are_letters, rfl, l_are_letters, c_are_letters, (.inl ⟨rfl, rfl⟩), .inl rfl⟩, k_are_letters⟩,
    A_are_letters := ⟨PySem.W.mg_of KX G a_are_letters, k_are_letters⟩,
    F_is_name := ⟨_, ⟨oc_is_name, od_is_name, _, kV_is_name, dc_is_name, pm_is_name, an_is_name, cd_is_name, ct_is_name, sl_is_name, rfl, l_is_name, c_is_name, (.inl ⟨rfl, rfl⟩), .inl rfl⟩, k_is_name⟩,
    A_is_name := ⟨PySem.W.mg_of KX G a_is_name, k_is_name⟩,
    F__are_nouns := ⟨_, ⟨oc__are_nouns, od__are_nouns, _, kV__are_nouns, dc__are_nouns, pm__are_nouns, an__are_nouns, cd__are_nouns, ct__are_nouns, sl__are_nouns, rfl, l__are_nouns, c__are_nouns, (.inl ⟨rfl, rfl⟩), .inl rfl⟩, k__are_nouns⟩,
    A__are_nouns := ⟨PySem.W.mg_of KX G a__are_nouns, k__are_nouns⟩,
    F_Frame___init__ := ⟨_, ⟨oc_Frame___init__, od_Frame___init__, _, kV_Frame___init__, dc_Frame___init__, pm_Frame___init__, an_Frame___init__, cd_Frame___init__, ct_Frame___init__, sl_Frame___init__, rfl, l_Frame___init__, c_Frame___init__, (.inr ⟨by simp, dT_Frame___init__, _, [Value.none, Value.none], e3_Frame___init__, rfl, t_Frame___init__, rfl, (.cons rfl (.cons rfl .nil))⟩), .inl rfl⟩, k_Frame___init__⟩,
    F_Frame___eq__ := ⟨_, ⟨oc_Frame___eq__, od_Frame___eq__, _, kV_Frame___eq__, dc_Frame___eq__, pm_Frame___eq__, an_Frame___eq__, cd_Frame___eq__, ct_Frame___eq__, sl_Frame___eq__, rfl, l_Frame___eq__, c_Frame___eq__, (.inl ⟨rfl, rfl⟩), .inl rfl⟩, k_Frame___eq__⟩,
    F_Frame_slots := ⟨_, ⟨oc_Frame_slots, od_Frame_slots, _, kV_Frame_slots, dc_Frame_slots, pm_Frame_slots, an_Frame_slots, cd_Frame_slots, ct_Frame_slots, sl_Frame_slots, rfl, l_Frame_slots, c_Frame_slots, (.inl ⟨rfl, rfl⟩), .inl rfl⟩, k_Frame_slots⟩,
    F__law_hand := ⟨_, ⟨oc__law_hand, od__law_hand, _, kV__law_hand, dc__law_hand, pm__law_hand, an__law_hand, cd__law_hand, ct__law_hand, sl__law_hand, rfl, l__law_hand, c__law_hand, (.inl ⟨rfl, rfl⟩), .inl rfl⟩, k__law_hand⟩,
    A__law_hand := ⟨PySem.W.mg_of KX G a__law_hand, k__law_hand⟩,
    F__law_mixed := ⟨_, ⟨oc__law_mixed, od__law_mixed, _, kV__law_mixed, dc__law_mixed, pm__law_mixed, an__law_mixed, cd__law_mixed, ct__law_mixed, sl__law_mixed, rfl, l__law_mixed, c__law_mixed, (.inl ⟨rfl, rfl⟩), .inl rfl⟩, k__law_mixed⟩,
    A__law_mixed := ⟨PySem.W.mg_of KX G a__law_mixed, k__law_mixed⟩,
    F__law_take := ⟨_, ⟨oc__law_take, od__law_take, _, kV__law_take, dc__law_take, pm__law_take, an__law_take, cd__law_take, ct__law_take, sl__law_take, rfl, l__law_take, c__law_take, (.inl ⟨rfl, rfl⟩), .inl rfl⟩, k__law_take⟩,
    A__law_take := ⟨PySem.W.mg_of KX G a__law_take, k__law_take⟩,
    F__law_shuffled := ⟨_, ⟨oc__law_shuffled, od__law_shuffled, _, kV__law_shuffled, dc__law_shuffled, pm__law_shuffled, an__law_shuffled, cd__law_shuffled, ct__law_shuffled, sl__law_shuffled, rfl, l__law_shuffled, c__law_shuffled, (.inl ⟨rfl, rfl⟩), .inl rfl⟩, k__law_shuffled⟩,
    A__law_shuffled := ⟨PySem.W.mg_of KX G a__law_shuffled, k__law_shuffled⟩,
    F__law_some := ⟨_, ⟨oc__law_some, od__law_some, _, kV__law_some, dc__law_some, pm__law_some, an__law_some, cd__law_some, ct__law_some, sl__law_some, rfl, l__law_some, c__law_some, (.inl ⟨rfl, rfl⟩), .inl rfl⟩, k__law_some⟩,
    A__law_some := ⟨PySem.W.mg_of KX G a__law_some, k__law_some⟩,
    F__law_word := ⟨_, ⟨oc__law_word, od__law_word, _, kV__law_word, dc__law_word, pm__law_word, an__law_word, cd__law_word, ct__law_word, sl__law_word, rfl, l__law_word, c__law_word, (.inl ⟨rfl, rfl⟩), .inl rfl⟩, k__law_word⟩,
    A__law_word := ⟨PySem.W.mg_of KX G a__law_word, k__law_word⟩,
    F__law_as_list := ⟨_, ⟨oc__law_as_list, od__law_as_list, _, kV__law_as_list, dc__law_as_list, pm__law_as_list, an__law_as_list, cd__law_as_list, ct__law_as_list, sl__law_as_list, rfl, l__law_as_list, c__law_as_list, (.inl ⟨rfl, rfl⟩), .inl rfl⟩, k__law_as_list⟩,
    A__law_as_list := ⟨PySem.W.mg_of KX G a__law_as_list, k__law_as_list⟩,
    F__law_no_role := ⟨_, ⟨oc__law_no_role, od__law_no_role, _, kV__law_no_role, dc__law_no_role, pm__law_no_role, an__law_no_role, cd__law_no_role, ct__law_no_role, sl__law_no_role, rfl, l__law_no_role, c__law_no_role, (.inl ⟨rfl, rfl⟩), .inl rfl⟩, k__law_no_role⟩,
    A__law_no_role := ⟨PySem.W.mg_of KX G a__law_no_role, k__law_no_role⟩,
    F__law_told := ⟨_, ⟨oc__law_told, od__law_told, _, kV__law_told, dc__law_told, pm__law_told, an__law_told, cd__law_told, ct__law_told, sl__law_told, rfl, l__law_told, c__law_told, (.inl ⟨rfl, rfl⟩), .inl rfl⟩, k__law_told⟩,
    A__law_told := ⟨PySem.W.mg_of KX G a__law_told, k__law_told⟩,
    F__law_shows := ⟨_, ⟨oc__law_shows, od__law_shows, _, kV__law_shows, dc__law_shows, pm__law_shows, an__law_shows, cd__law_shows, ct__law_shows, sl__law_shows, rfl, l__law_shows, c__law_shows, (.inl ⟨rfl, rfl⟩), .inl rfl⟩, k__law_shows⟩,
    A__law_shows := ⟨PySem.W.mg_of KX G a__law_shows, k__law_shows⟩,
    F__law_no_nouns := ⟨_, ⟨oc__law_no_nouns, od__law_no_nouns, _, kV__law_no_nouns, dc__law_no_nouns, pm__law_no_nouns, an__law_no_nouns, cd__law_no_nouns, ct__law_no_nouns, sl__law_no_nouns, rfl, l__law_no_nouns, c__law_no_nouns, (.inl ⟨rfl, rfl⟩), .inl rfl⟩, k__law_no_nouns⟩,
    A__law_no_nouns := ⟨PySem.W.mg_of KX G a__law_no_nouns, k__law_no_nouns⟩,
    F_law := ⟨_, ⟨oc_law, od_law, _, kV_law, dc_law, pm_law, an_law, cd_law, ct_law, sl_law, rfl, l_law, c_law, (.inl ⟨rfl, rfl⟩), .inl rfl⟩, k_law⟩,
    A_law := ⟨PySem.W.mg_of KX G a_law, k_law⟩,
    M_Frame := ⟨PySem.W.mg_of KX G ac_Frame, ⟨mk_Frame, a_Frame___init__, i_Frame___init__, kc_Frame⟩⟩,
    cl_Frame := ⟨pg_Frame, hd_Frame, po_Frame, sa_Frame⟩,
    no_Frame_name := no_Frame_name,
    no_Frame_nouns := no_Frame_nouns,
    no_Frame_clause := no_Frame_clause,
    no_Frame_agreed := no_Frame_agreed,
    eq_Frame := ⟨a_Frame___eq__, i_Frame___eq__, ne_Frame, ob_Frame⟩,
    pr_Frame_slots := ⟨p1_Frame_slots, p2_Frame_slots, p3_Frame_slots, ⟨_, p4_Frame_slots⟩⟩,
    ty_Frame := ⟨cl_Frame, oc1, oc2, ob_Frame⟩,
    is_Frame_Frame := is_Frame_Frame,
    nf_Frame_NoneType := nf_Frame_NoneType,
    it_Frame_NoneType := it_Frame_NoneType,
    nf_Frame_bool := nf_Frame_bool,
    it_Frame_bool := it_Frame_bool,
    nf_Frame_int := nf_Frame_int,
    it_Frame_int := it_Frame_int,
    nf_Frame_str := nf_Frame_str,
    it_Frame_str := it_Frame_str,
    nf_Frame_list := nf_Frame_list,
    it_Frame_list := it_Frame_list,
    nf_Frame_tuple := nf_Frame_tuple,
    it_Frame_tuple := it_Frame_tuple,
    g_TongueError := PySem.W.mg_of KX G ac_TongueError,
    g_BadStock := PySem.W.mg_of KX G ac_BadStock,
    g_BadFrame := PySem.W.mg_of KX G ac_BadFrame,
    g_Frame := PySem.W.mg_of KX G ac_Frame,
    ox_BadFrame := ⟨⟨_, _, _, _, _, _, _, _, _, _, _, _, _, _, _, xc_BadFrame, xr_BadFrame⟩, xsa_BadFrame, xb1_BadFrame, xt_BadFrame, xk_BadFrame⟩,
    ec_BadFrame := ⟨xga_BadFrame, xgg_BadFrame, xb1_BadFrame, xhd_BadFrame, xcl_BadFrame, oc1, oc2, xmo_BadFrame⟩,
    xf_BadFrame := ⟨xga_BadFrame, xgg_BadFrame, xb1_BadFrame, xhd_BadFrame⟩,
    xno_BadFrame_what := xno_BadFrame_what,
    xl_BadFrame := ⟨_, _, _, _, _, _, _, _, _, _, xf_BadFrame⟩,
    xi_BadFrame := xi_BadFrame,
    xti_BadFrame := xti_BadFrame,
    su_BadFrame := ⟨cc_BadFrame___init__, cda_BadFrame___init__, { ox := ⟨⟨_, _, _, _, _, _, _, _, _, _, _, _, _, _, _, xc_BadFrame, xr_BadFrame⟩, xsa_BadFrame, xb1_BadFrame, xt_BadFrame, xk_BadFrame⟩, fn := ⟨_, _, _, _, _, _, _, _, _, xf_BadFrame⟩, cd := xcd_BadFrame, code := ⟨_, _, _, _, _, _, xco_BadFrame, xfl_BadFrame, xfe_BadFrame⟩, cell := ⟨_, _, _, xce_BadFrame⟩, cls := ⟨_, xcc_BadFrame⟩, sub := xsu_BadFrame, sup := PySem.W.mg_none_of KX G z_super, ops := ops, sin := xsi_BadFrame, ve := xve_BadFrame, top := hsup }⟩,
    xis_BadFrame_BadFrame := xis_BadFrame_BadFrame,
    xis_BadFrame_BadStock := xis_BadFrame_BadStock,
    xis_BadFrame_ValueError := xis_BadFrame_ValueError,
    xex_BadFrame_TongueError := PySem.W.exm_ref xe1_BadFrame_TongueError xe2_BadFrame_TongueError xe3_BadFrame_TongueError xe4_BadFrame_TongueError,
    c_NAME_MOST := ⟨_, PySem.W.mg_of KX G cn_NAME_MOST⟩,
    n_ValueError := PySem.W.mg_none_of KX G z_ValueError,
    n_all := PySem.W.mg_none_of KX G z_all,
    n_bool := PySem.W.mg_none_of KX G z_bool,
    n_int := PySem.W.mg_none_of KX G z_int,
    n_isinstance := PySem.W.mg_none_of KX G z_isinstance,
    n_len := PySem.W.mg_none_of KX G z_len,
    n_list := PySem.W.mg_none_of KX G z_list,
    n_property := PySem.W.mg_none_of KX G z_property,
    n_range := PySem.W.mg_none_of KX G z_range,
    n_repr := PySem.W.mg_none_of KX G z_repr,
    n_sorted := PySem.W.mg_none_of KX G z_sorted,
    n_str := PySem.W.mg_none_of KX G z_str,
    n_super := PySem.W.mg_none_of KX G z_super,
    n_tuple := PySem.W.mg_none_of KX G z_tuple }⟩
end L3
open PySem PySem.W PyProof.Rows
set_option Elab.async false
set_option maxRecDepth 100000 in
set_option maxHeartbeats 0 in
theorem PySem.Challenge.cw_looseorder_k03_frames_of_verbs_holds : PySem.Challenge.rw_looseorder_k03_frames_of_verbs.Holds := by
  w_on; o_law; k_head; (case hw => w_witness2)
  k_fill
  refine Lo.walk_L (l := PySem.Challenge.rw_looseorder_k03_frames_of_verbs) (k := 7) (x := "_law_script") rfl rfl ⟨rfl, by decide, by decide⟩ (fun w h Y => PySem.W.kIn_of Y) ?F
  case F =>
    intro w mg fa h KX G hmg
    refine' (fun (X : _ ∧ _) => ?fin) (L3.txt_mk (P := PySem.Challenge.rw_looseorder_k03_frames_of_verbs.prog) KX G hmg ?a_is_whole ?l_is_whole ?t_is_whole ?c_is_whole ?k_is_whole ?a_is_among ?l_is_among ?c_is_among ?k_is_among ?a_is_row ?l_is_row ?t_is_row ?c_is_row ?k_is_row ?a_are_letters ?l_are_letters ?c_are_letters ?k_are_letters ?a_is_name ?l_is_name ?c_is_name ?k_is_name ?a__are_nouns ?l__are_nouns ?c__are_nouns ?k__are_nouns ?a__law_hand ?l__law_hand ?c__law_hand ?k__law_hand ?a__law_mixed ?l__law_mixed ?c__law_mixed ?k__law_mixed ?a__law_take ?l__law_take ?c__law_take ?k__law_take ?a__law_shuffled ?l__law_shuffled ?c__law_shuffled ?k__law_shuffled ?a__law_some ?l__law_some ?c__law_some ?k__law_some ?a__law_word ?l__law_word ?c__law_word ?k__law_word ?a__law_as_list ?l__law_as_list ?c__law_as_list ?k__law_as_list ?a__law_no_role ?l__law_no_role ?c__law_no_role ?k__law_no_role ?a__law_told ?l__law_told ?c__law_told ?k__law_told ?a__law_shows ?l__law_shows ?c__law_shows ?k__law_shows ?a__law_no_nouns ?l__law_no_nouns ?c__law_no_nouns ?k__law_no_nouns ?a_law ?l_law ?c_law ?k_law ?ac_Frame ?a_Frame___init__ ?i_Frame___init__ ?l_Frame___init__ ?t_Frame___init__ ?c_Frame___init__ ?k_Frame___init__ ?a_Frame___eq__ ?i_Frame___eq__ ?l_Frame___eq__ ?c_Frame___eq__ ?k_Frame___eq__ ?p1_Frame_slots ?p2_Frame_slots ?p3_Frame_slots ?p4_Frame_slots ?l_Frame_slots ?c_Frame_slots ?k_Frame_slots ?pg_Frame ?hd_Frame ?po_Frame ?sa_Frame ?mk_Frame ?kc_Frame ?no_Frame_name ?no_Frame_nouns ?no_Frame_clause ?no_Frame_agreed ?ne_Frame ?ob_Frame ?cl_Frame ?is_Frame_Frame ?nf_Frame_NoneType ?it_Frame_NoneType ?nf_Frame_bool ?it_Frame_bool ?nf_Frame_int ?it_Frame_int ?nf_Frame_str ?it_Frame_str ?nf_Frame_list ?it_Frame_list ?nf_Frame_tuple ?it_Frame_tuple ?oc1 ?oc2 ?ac_TongueError ?ac_BadStock ?ac_BadFrame ?ops ?xc_BadFrame ?xr_BadFrame ?xsa_BadFrame ?xb1_BadFrame ?xt_BadFrame ?xk_BadFrame ?xga_BadFrame ?xgg_BadFrame ?xhd_BadFrame ?xcl_BadFrame ?xmo_BadFrame ?xno_BadFrame_what ?xi_BadFrame ?xf_BadFrame ?xti_BadFrame ?xcd_BadFrame ?xco_BadFrame ?xfl_BadFrame ?xfe_BadFrame ?xce_BadFrame ?xcc_BadFrame ?xsu_BadFrame ?xsi_BadFrame ?xve_BadFrame ?xis_BadFrame_BadFrame ?xis_BadFrame_BadStock ?xis_BadFrame_ValueError ?xe1_BadFrame_TongueError ?xe2_BadFrame_TongueError ?xe3_BadFrame_TongueError ?xe4_BadFrame_TongueError ?cn_NAME_MOST ?z_ValueError ?z_all ?z_bool ?z_int ?z_isinstance ?z_len ?z_list ?z_property ?z_range ?z_repr ?z_sorted ?z_str ?z_super ?z_tuple ?hsup)
    (case a_is_whole => k_is)
    (case l_is_whole => k_is)
    (case t_is_whole => k_is)
    (case c_is_whole => k_is)
    (case k_is_whole => k_is)
    (case a_is_among => k_is)
    (case l_is_among => k_is)
    (case c_is_among => k_is)
    (case k_is_among => k_is)
    (case a_is_row => k_is)
    (case l_is_row => k_is)
    (case t_is_row => k_is)
    (case c_is_row => k_is)
    (case k_is_row => k_is)
    (case a_are_letters => k_is)
    (case l_are_letters => k_is)
    (case c_are_letters => k_is)
    (case k_are_letters => k_is)
    (case a_is_name => k_is)
    (case l_is_name => k_is)
    (case c_is_name => k_is)
    (case k_is_name => k_is)
    (case a__are_nouns => k_is)
    (case l__are_nouns => k_is)
    (case c__are_nouns => k_is)
    (case k__are_nouns => k_is)
    (case a__law_hand => k_is)
    (case l__law_hand => k_is)
    (case c__law_hand => k_is)
    (case k__law_hand => k_is)
    (case a__law_mixed => k_is)
    (case l__law_mixed => k_is)
    (case c__law_mixed => k_is)
    (case k__law_mixed => k_is)
    (case a__law_take => k_is)
    (case l__law_take => k_is)
    (case c__law_take => k_is)
    (case k__law_take => k_is)
    (case a__law_shuffled => k_is)
    (case l__law_shuffled => k_is)
    (case c__law_shuffled => k_is)
    (case k__law_shuffled => k_is)
    (case a__law_some => k_is)
    (case l__law_some => k_is)
    (case c__law_some => k_is)
    (case k__law_some => k_is)
    (case a__law_word => k_is)
    (case l__law_word => k_is)
    (case c__law_word => k_is)
    (case k__law_word => k_is)
    (case a__law_as_list => k_is)
    (case l__law_as_list => k_is)
    (case c__law_as_list => k_is)
    (case k__law_as_list => k_is)
    (case a__law_no_role => k_is)
    (case l__law_no_role => k_is)
    (case c__law_no_role => k_is)
    (case k__law_no_role => k_is)
    (case a__law_told => k_is)
    (case l__law_told => k_is)
    (case c__law_told => k_is)
    (case k__law_told => k_is)
    (case a__law_shows => k_is)
    (case l__law_shows => k_is)
    (case c__law_shows => k_is)
    (case k__law_shows => k_is)
    (case a__law_no_nouns => k_is)
    (case l__law_no_nouns => k_is)
    (case c__law_no_nouns => k_is)
    (case k__law_no_nouns => k_is)
    (case a_law => k_is)
    (case l_law => k_is)
    (case c_law => k_is)
    (case k_law => k_is)
    (case ac_Frame => k_is)
    (case a_Frame___init__ => k_is)
    (case i_Frame___init__ => k_is)
    (case l_Frame___init__ => k_is)
    (case t_Frame___init__ => k_is)
    (case c_Frame___init__ => k_is)
    (case k_Frame___init__ => k_is)
    (case a_Frame___eq__ => k_is)
    (case i_Frame___eq__ => k_is)
    (case l_Frame___eq__ => k_is)
    (case c_Frame___eq__ => k_is)
    (case k_Frame___eq__ => k_is)
    (case p1_Frame_slots => k_is)
    (case p2_Frame_slots => k_is)
    (case p3_Frame_slots => k_is)
    (case p4_Frame_slots => k_is)
    (case l_Frame_slots => k_is)
    (case c_Frame_slots => k_is)
    (case k_Frame_slots => k_is)
    (case pg_Frame => k_is)
    (case hd_Frame => k_is)
    (case po_Frame => k_is)
    (case sa_Frame => k_is)
    (case mk_Frame => k_is)
    (case kc_Frame => k_is)
    (case no_Frame_name => k_is)
    (case no_Frame_nouns => k_is)
    (case no_Frame_clause => k_is)
    (case no_Frame_agreed => k_is)
    (case ne_Frame => k_is)
    (case ob_Frame => k_is)
    (case cl_Frame => k_is)
    (case is_Frame_Frame => first | kit_is | kernel_rfl)
    (case nf_Frame_NoneType => k_is)
    (case it_Frame_NoneType => first | kit_is | kernel_rfl)
    (case nf_Frame_bool => k_is)
    (case it_Frame_bool => first | kit_is | kernel_rfl)
    (case nf_Frame_int => k_is)
    (case it_Frame_int => first | kit_is | kernel_rfl)
    (case nf_Frame_str => k_is)
    (case it_Frame_str => first | kit_is | kernel_rfl)
    (case nf_Frame_list => k_is)
    (case it_Frame_list => first | kit_is | kernel_rfl)
    (case nf_Frame_tuple => k_is)
    (case it_Frame_tuple => first | kit_is | kernel_rfl)
    (case oc1 => k_is)
    (case oc2 => k_is)
    (case ac_TongueError => k_is)
    (case ac_BadStock => k_is)
    (case ac_BadFrame => k_is)
    (case ops => k_is)
    (case xc_BadFrame => k_is)
    (case xr_BadFrame => first | rfl | decide | kernel_rfl)
    (case xsa_BadFrame => k_is)
    (case xb1_BadFrame => k_is)
    (case xt_BadFrame => k_is)
    (case xk_BadFrame => k_is)
    (case xga_BadFrame => k_is)
    (case xgg_BadFrame => k_is)
    (case xhd_BadFrame => k_is)
    (case xcl_BadFrame => k_is)
    (case xmo_BadFrame => k_is)
    (case xno_BadFrame_what => k_is)
    (case xi_BadFrame => k_is)
    (case xf_BadFrame => k_is)
    (case xti_BadFrame => k_is)
    (case xcd_BadFrame => k_is)
    (case xco_BadFrame => k_is)
    (case xfl_BadFrame => first | rfl | decide | kernel_rfl)
    (case xfe_BadFrame => first | rfl | decide | kernel_rfl)
    (case xce_BadFrame => k_is)
    (case xcc_BadFrame => k_is)
    (case xsu_BadFrame => k_is)
    (case xsi_BadFrame => kernel_rfl)
    (case xve_BadFrame => k_is)
    (case xis_BadFrame_BadFrame => first | kit_is | kernel_rfl)
    (case xis_BadFrame_BadStock => first | kit_is | kernel_rfl)
    (case xis_BadFrame_ValueError => first | kit_is | kernel_rfl)
    (case xe1_BadFrame_TongueError => k_is)
    (case xe2_BadFrame_TongueError => k_is)
    (case xe3_BadFrame_TongueError => k_is)
    (case xe4_BadFrame_TongueError => k_is)
    (case cn_NAME_MOST => k_is)
    (case z_ValueError => k_is)
    (case z_all => k_is)
    (case z_bool => k_is)
    (case z_int => k_is)
    (case z_isinstance => k_is)
    (case z_len => k_is)
    (case z_list => k_is)
    (case z_property => k_is)
    (case z_range => k_is)
    (case z_repr => k_is)
    (case z_sorted => k_is)
    (case z_str => k_is)
    (case z_super => k_is)
    (case z_tuple => k_is)
    (case hsup => rfl)
    obtain ⟨rfl, X⟩ := X
    obtain ⟨fd, F⟩ := X.F_law
    exact ⟨fd, fun s u => F.bindsA (ps := ["_law_script"]) (fun kV doc pm an cdv ct us hl => match us, hl with | [_], _ => rfl) s [u] rfl, fun base _ _ => L3.ok_law X F⟩
